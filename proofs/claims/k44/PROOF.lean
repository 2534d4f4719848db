import PyProof.Rows.All
import Wide.All
import OpenK.AllK
import Wide.FinOn
import KE.KStateDown
import HandS.ForMost
import HandS.ForExc
import HandS.More
import HandS.Conv
import HandS.IsInst
import HandS.DictComp
import HandS.Zip
import HandS.Walk
import HandS.SetKeys
import HandS.Codes
import HandS.CallLocal
import HandS.WrittenGet
import HandS.TryMany
import HandS.ExcField
import HandS.Flow
import HandS.Style
import HandS.Evl
import HandS.Wide
import HandS.WideBits
import HandS.Defaults
import HandS.Head0
import HandS.Head1
import HandS.Head2
import HandS.Head3
import HandS.HeadEnd
import HandS.HeadHook1
import HandS.HeadHook2
import HandS.HeadHook3
import HandS.HeadHook4
import HandS.ExcOwn
import HandS.TryOnly
import HandS.TryElse
import HandS.TupAny
import HandS.ExcInit
import KE.KDictKeyed
import KE.KDictDisplayH
import PyProof.SumAny
import KE.KDictWalk
import HandS.Gcd
import HandS.Sort
import HandS.TupLen
import HandS.Deep
import PySem.Challenge.RW_pastless_k44_reads_by_an_own_walk
set_option Elab.async false
set_option linter.all false
set_option maxRecDepth 100000
set_option maxHeartbeats 2000000
namespace M
open PySem PySem.Spec PyProof.Rows L2
def top (i : Nat) : Stmt := PySem.Challenge.pw_pastless_k44_reads_by_an_own_walk.main.body.getD i (.Pass ⟨0, 0, 0, 0⟩)
abbrev s__wall : Stmt := top 0
abbrev s_NoVault_init : Stmt := inClass (top 4) 0
abbrev s_NoReader_init : Stmt := inClass (top 5) 0
abbrev s_NoRow_init : Stmt := inClass (top 6) 0
abbrev s_is_integer : Stmt := top 10
abbrev s_is_within : Stmt := top 11
abbrev s_is_tuple : Stmt := top 12
abbrev s_call_numbers : Stmt := top 13
abbrev s_call_number : Stmt := top 14
abbrev s_wrong_item : Stmt := top 15
abbrev s_check_row : Stmt := top 16
abbrev s_Reader_init : Stmt := inClass (top 19) 0
abbrev s_Reader_many : Stmt := inClass (top 19) 1
abbrev s_Reader_first : Stmt := inClass (top 19) 2
abbrev s_Reader_after : Stmt := inClass (top 19) 3
abbrev s_Reader_marked : Stmt := inClass (top 19) 4
abbrev s_Reader_reads : Stmt := inClass (top 19) 5
abbrev s_Reader_read_calls : Stmt := inClass (top 19) 6
abbrev s_Reader_lead : Stmt := inClass (top 19) 7
abbrev s_Reader_check_stand : Stmt := inClass (top 19) 8
abbrev s_is_table_key : Stmt := top 20
abbrev s_is_table : Stmt := top 21
abbrev s_are_marks : Stmt := top 22
abbrev s_Tally_init : Stmt := inClass (top 33) 0
abbrev s_is_expression : Stmt := top 34
abbrev s_is_part : Stmt := top 35
abbrev s_is_body_row : Stmt := top 36
abbrev s_are_body_rows : Stmt := top 37
abbrev s_is_body : Stmt := top 38
abbrev s_code_of : Stmt := top 40
abbrev s_put_rows : Stmt := top 41
abbrev s_put_if : Stmt := top 42
abbrev s_put_times : Stmt := top 43
abbrev s_Vault_init : Stmt := inClass (top 48) 0
abbrev s_Vault_sizes : Stmt := inClass (top 48) 1
abbrev s_Vault_first : Stmt := inClass (top 48) 2
abbrev s_Vault_names : Stmt := inClass (top 48) 3
abbrev s_Vault_choices : Stmt := inClass (top 48) 4
abbrev s_Vault_rows : Stmt := inClass (top 48) 5
abbrev s_Vault_calls : Stmt := inClass (top 48) 6
abbrev s_Vault_has_coins : Stmt := inClass (top 48) 7
abbrev s_Vault_shape : Stmt := inClass (top 48) 8
abbrev s_Vault_starts : Stmt := inClass (top 48) 9
abbrev s_Vault_deed : Stmt := inClass (top 48) 10
abbrev s_Vault_eq : Stmt := inClass (top 48) 11
abbrev s_has_row : Stmt := top 49
abbrev s_is_cell : Stmt := top 50
abbrev s_are_cells : Stmt := top 51
abbrev s_is_name : Stmt := top 52
abbrev s_is_deed_head : Stmt := top 53
abbrev s_is_deed : Stmt := top 54
abbrev s_are_deeds : Stmt := top 55
abbrev s_l_hand : Stmt := top 57
abbrev s_l_draw : Stmt := top 58
abbrev s_l_names : Stmt := top 59
abbrev s_l_expression : Stmt := top 60
abbrev s_l_rows : Stmt := top 61
abbrev s_l_row : Stmt := top 62
abbrev s_l_body : Stmt := top 63
abbrev s_l_getter : Stmt := top 64
abbrev s_l_shape : Stmt := top 65
abbrev s_l_calls : Stmt := top 66
abbrev s_l_table : Stmt := top 67
abbrev s_l_reads : Stmt := top 68
abbrev s_l_bad_item : Stmt := top 69
abbrev s_l_is_bad : Stmt := top 70
abbrev s_l_yes : Stmt := top 71
abbrev s_l_right : Stmt := top 72
abbrev s_l_wrong : Stmt := top 73
abbrev s_law : Stmt := top 74
abbrev dd (x : Str) (st : Stmt) : He.DefD := ⟨(x, none), x, x, defArgs st, defBody st, defScope st, [], []⟩
abbrev dm (C m q : Str) (st : Stmt) : He.DefD := ⟨(C, some m), m, q, defArgs st, defBody st, defScope st, [], []⟩
def fn : List He.DefD := [dd "_wall" s__wall, dm "NoVault" "__init__" "NoVault.__init__" s_NoVault_init, dm "NoReader" "__init__" "NoReader.__init__" s_NoReader_init, dm "NoRow" "__init__" "NoRow.__init__" s_NoRow_init, dd "is_integer" s_is_integer, dd "is_within" s_is_within, dd "is_tuple" s_is_tuple, dd "call_numbers" s_call_numbers, dd "call_number" s_call_number, dd "wrong_item" s_wrong_item, dd "check_row" s_check_row, dm "Reader" "__init__" "Reader.__init__" s_Reader_init, dm "Reader" "many" "Reader.many" s_Reader_many, dm "Reader" "first" "Reader.first" s_Reader_first, dm "Reader" "after" "Reader.after" s_Reader_after, dm "Reader" "marked" "Reader.marked" s_Reader_marked, dm "Reader" "reads" "Reader.reads" s_Reader_reads, dm "Reader" "read_calls" "Reader.read_calls" s_Reader_read_calls, dm "Reader" "lead" "Reader.lead" s_Reader_lead, dm "Reader" "_check_stand" "Reader._check_stand" s_Reader_check_stand, dd "is_table_key" s_is_table_key, dd "is_table" s_is_table, dd "are_marks" s_are_marks, dm "Tally" "__init__" "Tally.__init__" s_Tally_init, dd "is_expression" s_is_expression, dd "is_part" s_is_part, dd "is_body_row" s_is_body_row, dd "are_body_rows" s_are_body_rows, dd "is_body" s_is_body, dd "code_of" s_code_of, dd "put_rows" s_put_rows, dd "put_if" s_put_if, dd "put_times" s_put_times, dm "Vault" "__init__" "Vault.__init__" s_Vault_init, dm "Vault" "sizes" "Vault.sizes" s_Vault_sizes, dm "Vault" "first" "Vault.first" s_Vault_first, dm "Vault" "names" "Vault.names" s_Vault_names, dm "Vault" "choices" "Vault.choices" s_Vault_choices, dm "Vault" "rows" "Vault.rows" s_Vault_rows, dm "Vault" "calls" "Vault.calls" s_Vault_calls, dm "Vault" "has_coins" "Vault.has_coins" s_Vault_has_coins, dm "Vault" "shape" "Vault.shape" s_Vault_shape, dm "Vault" "starts" "Vault.starts" s_Vault_starts, dm "Vault" "_deed" "Vault._deed" s_Vault_deed, dm "Vault" "__eq__" "Vault.__eq__" s_Vault_eq, dd "has_row" s_has_row, dd "is_cell" s_is_cell, dd "are_cells" s_are_cells, dd "is_name" s_is_name, dd "is_deed_head" s_is_deed_head, dd "is_deed" s_is_deed, dd "are_deeds" s_are_deeds, dd "_law_hand" s_l_hand, dd "_law_draw" s_l_draw, dd "_law_names" s_l_names, dd "_law_expression" s_l_expression, dd "_law_rows" s_l_rows, dd "_law_row" s_l_row, dd "_law_body" s_l_body, dd "_law_getter" s_l_getter, dd "_law_shape" s_l_shape, dd "_law_calls" s_l_calls, dd "_law_table" s_l_table, dd "_law_reads" s_l_reads, dd "_law_bad_item" s_l_bad_item, dd "_law_is_bad" s_l_is_bad, dd "_law_yes" s_l_yes, dd "_law_right" s_l_right, dd "_law_wrong" s_l_wrong, dd "law" s_law]
def fa0 : List He.Fa := [.glo "_wall", .glo "is_integer", .glo "is_within", .glo "is_tuple", .glo "call_numbers", .glo "call_number", .glo "wrong_item", .glo "check_row", .glo "is_table_key", .glo "is_table", .glo "are_marks", .glo "is_expression", .glo "is_part", .glo "is_body_row", .glo "are_body_rows", .glo "is_body", .glo "code_of", .glo "put_rows", .glo "put_if", .glo "put_times", .glo "has_row", .glo "is_cell", .glo "are_cells", .glo "is_name", .glo "is_deed_head", .glo "is_deed", .glo "are_deeds", .glo "_law_hand", .glo "_law_draw", .glo "_law_names"]
def fa1 : List He.Fa := [.glo "_law_expression", .glo "_law_rows", .glo "_law_row", .glo "_law_body", .glo "_law_getter", .glo "_law_shape", .glo "_law_calls", .glo "_law_table", .glo "_law_reads", .glo "_law_bad_item", .glo "_law_is_bad", .glo "_law_yes", .glo "_law_right", .glo "_law_wrong", .glo "law", .glo "PastError", .glo "NoName", .glo "NoVault", .glo "NoReader", .glo "NoRow", .glo "Reader", .cls "Reader", .mkr "Reader", .meth "Reader" "many", .meth "Reader" "first", .meth "Reader" "after", .meth "Reader" "marked", .meth "Reader" "reads", .meth "Reader" "read_calls", .meth "Reader" "lead"]
def fa2 : List He.Fa := [.meth "Reader" "_check_stand", .noat "Reader" "_numbers", .noat "Reader" "_many", .noat "Reader" "_first", .noat "Reader" "_leads", .noat "Reader" "_marks", .glo "Tally", .cls "Tally", .mkr "Tally", .noat "Tally" "cells", .noat "Tally" "coins", .noat "Tally" "lines", .glo "Vault", .cls "Vault", .mkr "Vault", .meth "Vault" "sizes", .meth "Vault" "first", .meth "Vault" "names", .meth "Vault" "choices", .meth "Vault" "rows", .meth "Vault" "calls", .meth "Vault" "has_coins", .meth "Vault" "shape", .meth "Vault" "starts", .meth "Vault" "_deed", .noat "Vault" "_cells", .noat "Vault" "_deeds", .noat "Vault" "_codes", .noat "Vault" "_coins", .exc "NoName"]
def fa3 : List He.Fa := [.exm "NoRow" "NoRow" true, .exm "NoName" "NoRow" false, .exm "NoReader" "NoRow" false, .exm "NoVault" "NoRow" false, .free "len", .free "isinstance", .free "int", .free "abs", .free "tuple", .free "list", .free "str", .free "bool", .free "range", .free "zip", .free "enumerate", .free "set", .free "min", .free "max", .free "reversed", .free "sorted", .free "sum", .free "dict", .int "MOST_CELLS" (6), .int "GREATEST_SIZE" (9), .int "MOST_STANDS" (100000), .glo "CHANGED", .glo "HELD", .glo "SIGNS", .glo "FORMS", .int "DEEPEST_EXPRESSION" (6)]
def fa4 : List He.Fa := [.int "DEEPEST_ROW" (12), .int "DEEPEST_TIMES" (2), .int "MOST_COINS" (4), .int "MOST_ROWS" (2000), .int "MOST_DEEDS" (8), .int "LONGEST_NAME" (8), .int "MOST_CHOICES" (9)]
def fa : List He.Fa := fa0 ++ fa1 ++ fa2 ++ fa3 ++ fa4
/-- the values of a written dict are tuples of texts -/
def formsB (K : PySem.W.Frag) (a : Addr) (kvs : List (Str × List Str)) : Bool := kvs.all fun q => match PySem.W.nsIn K a q.1 with
  | some (some (.ref t)) => (match K.lookup t with
    | some ⟨.type c, none, .seq its _, _⟩ => decide (c = "tuple") && (decide (its.size ≤ sizeLine) && He.relAll (q.2.map V.str) its.toList)
    | _ => false)
  | _ => false
/-- the class x is an error with its own __init__, which keeps the field f -/
def oexS (K : PySem.W.Frag) (C : Addr) : Bool := match K.lookup C with
  | some ⟨.type t, _, .cls cd, sl⟩ => (match cd.mro, sl.toList with
    | .ref D :: bm, [_, _, _, _, some (.builtin n), _] => decide (t = "type") && (decide (D = C) && (decide (n = "ValueError.__new__") && (cd.hasDict && (!cd.hasDel && PySem.HandSPX.refsVE bm))))
    | _, _ => false)
  | _ => false
def oexB (K : PySem.W.Frag) (x f : Str) : Bool := oexS K (He.ga K x) && (He.eqO (PySem.W.findIn K (.ref (He.ga K x)) "__setattr__") (some (some (.builtin "object.__setattr__"))) && (decide (PySem.W.subIn K (.ref (He.ga K x)) (.type "BaseException") = some true) &&
  (decide (PySem.W.typeIn K (.ref (He.ga K x)) = some (.type "type")) && (PySem.W.keepIn K (.ref (He.ga K x)) && (xfB K (He.ga K x) && (He.eqO (PySem.W.findIn K (.ref (He.ga K x)) f) (some none) &&
  (He.eqO (PySem.W.findIn K (.ref (He.ga K x)) "__init__") (some (some (.ref (He.ma K (He.ga K x) "__init__")))) && decide (PySem.W.typeIn K (.ref (He.ma K (He.ga K x) "__init__")) = some (.type "function")))))))))
/-- the class x reads its __init__ off ValueError -/
def pinB (K : PySem.W.Frag) (x : Str) : Bool := PySem.W.readsIn K (He.ga K x) (.type "type") && (decide (PySem.W.specialIn K (.ref (He.ga K x)) "__getattribute__" = some (some (.builtin "type.__getattribute__"))) &&
  (match PySem.W.findCls K (.ref (He.ga K x)) (.type "type") "__init__" with
    | some (.val (.builtin i)) => decide (i = "ValueError.__init__")
    | _ => false))
def as0 : List Addr := [3, 6, 4, 21, 31, 44, 63, 82, 101, 110, 117, 124, 129, 136, 143, 150, 221, 232, 239, 246, 247, 248, 249, 250, 275, 286, 293, 300, 307, 314]
def as1 : List Addr := [321, 328, 335, 342, 430, 441, 448, 455, 462, 469, 476, 483, 490, 497, 502, 509, 514, 521, 526, 533, 538, 543, 550, 557, 564, 571, 578, 585, 592, 597]
def as2 : List Addr := [0, 20, 30, 43, 62, 81, 100, 109, 116, 123, 128, 135, 142, 149, 220, 231, 238, 245, 251, 252, 253, 254, 255, 256, 257, 258, 274, 285, 292, 299]
def as3 : List Addr := [306, 313, 320, 327, 334, 341, 429, 440, 447, 454, 461, 468, 475, 482, 489, 496, 501, 508, 513, 520, 525, 532, 537, 542, 549, 556, 563, 570, 577, 584]
def as4 : List Addr := [591, 596, 15, 16, 17, 18, 19, 29, 32, 42, 60, 61, 79, 80, 98, 99, 104, 105, 106, 107, 108, 111, 112, 113, 114, 115, 118, 119, 120, 121]
def as5 : List Addr := [122, 125, 126, 127, 130, 131, 132, 133, 134, 137, 138, 139, 140, 141, 144, 145, 146, 147, 148, 162, 169, 176, 183, 190, 197, 204, 211, 218, 219, 222]
def as6 : List Addr := [223, 226, 227, 228, 229, 230, 233, 234, 235, 236, 237, 240, 241, 242, 243, 244, 272, 273, 276, 277, 280, 281, 282, 283, 284, 287, 288, 289, 290, 291]
def as7 : List Addr := [294, 295, 296, 297, 298, 301, 302, 303, 304, 305, 308, 309, 310, 311, 312, 315, 316, 317, 318, 319, 322, 323, 324, 325, 326, 329, 330, 331, 332, 333]
def as8 : List Addr := [336, 337, 338, 339, 340, 354, 361, 366, 373, 380, 387, 392, 399, 406, 413, 420, 427, 428, 431, 432, 435, 436, 437, 438, 439, 442, 443, 444, 445, 446]
def as9 : List Addr := [449, 450, 451, 452, 453, 456, 457, 458, 459, 460, 463, 464, 465, 466, 467, 470, 471, 472, 473, 474, 477, 478, 479, 480, 481, 484, 485, 486, 487, 488]
def as10 : List Addr := [491, 492, 493, 494, 495, 498, 499, 500, 503, 504, 505, 506, 507, 510, 511, 512, 515, 516, 517, 518, 519, 522, 523, 524, 527, 528, 529, 530, 531, 534]
def as11 : List Addr := [535, 536, 539, 540, 541, 544, 545, 546, 547, 548, 551, 552, 553, 554, 555, 558, 559, 560, 561, 562, 565, 566, 567, 568, 569, 572, 573, 574, 575, 576]
def as12 : List Addr := [579, 580, 581, 582, 583, 586, 587, 588, 589, 590, 593, 594, 595, 59, 78, 97, 161, 168, 175, 182, 189, 196, 203, 210, 217, 271, 353, 360, 365, 372]
def as13 : List Addr := [379, 386, 391, 398, 405, 412, 419, 426, 2]
def asL : List Addr := as0 ++ (as1 ++ (as2 ++ (as3 ++ (as4 ++ (as5 ++ (as6 ++ (as7 ++ (as8 ++ (as9 ++ (as10 ++ (as11 ++ (as12 ++ (as13)))))))))))))
/-- the places that the names reach, and that of the interpreter's own marks -/
def aS (_ : Addr → Option Obj) (_ : Nat) : List Addr := asL
def obS (n : Nat) (fa : List He.Fa) (fn : List He.DefD) (ts : List He.Tab) (ex : PySem.W.Frag → Bool) (g : Addr → Option Obj) : He.AlX := (He.obsT fa fn ts (He.frT g (aS g n)), ex (He.frT g (aS g n)))
theorem obS_says {n : Nat} {fa : List He.Fa} {fn : List He.DefD} {ts : List He.Tab} {ex : PySem.W.Frag → Bool} {w : World} {h : Heap} (e : obS n fa fn ts ex h.get? = He.valX fn ts w) : He.SaysX fa fn ts [] ex w h (He.frT h.get? (aS h.get? n)) := by
  have e1 := congrArg Prod.fst e
  have e2 := congrArg Prod.snd e
  constructor
  · exact e1
  · exact e2
  all_goals
    intro p hp
    cases hp
def hookS (n : Nat) (fa : List He.Fa) (fn : List He.DefD) (ts : List He.Tab) (ex : PySem.W.Frag → Bool) : PySem.W.Hook :=
  { α := He.AlX, obs := fun s => obS n fa fn ts ex s.heap.get?, val := fun w => He.valX fn ts w, says := fun w h => ∃ K : PySem.W.Frag, K.In h ∧ He.SaysX fa fn ts [] ex w h K, of := fun _ _ e => ⟨_, He.frT_in, obS_says e⟩,
    keeps := by
      intro w h h2 z k
      obtain ⟨K, z1, z2⟩ := z
      exact ⟨K, PySem.W.Frag.In.keeps z1 k, ⟨z2.t, z2.more, z2.hd, z2.out, fun p hp => by cases hp⟩⟩ }
theorem obS_eq {n : Nat} {fa : List He.Fa} {fn : List He.DefD} {ts : List He.Tab} {ex : PySem.W.Frag → Bool} {g : Addr → Option Obj} {s : Shared} (h : ∀ a, g a = s.heap.get? a) : obS n fa fn ts ex g = (hookS n fa fn ts ex).obs s := by
  cases (funext h : g = s.heap.get?)
  rfl
def ts : List He.Tab := [((fun K => He.ga K "FORMS"), ["read", "set", "swap", "keep", "coin", "if", "times", "answer"])]
def ex (K : PySem.W.Frag) : Bool := He.tupB K "CHANGED" [.str "a", .str "b", .str "c", .str "d"] && (He.tupB K "HELD" [.str "a", .str "b", .str "c", .str "d", .str "x"] && (He.tupB K "SIGNS" [.str "+", .str "-", .str "*", .str "=", .str "<"] && (formsB K (He.ga K "FORMS") [("read", ["REG", "CELL"]), ("set", ["CELL", "E"]), ("swap", ["REG", "CELL", "E", "E"]), ("keep", ["REG", "E"]), ("coin", ["REG"]), ("if", ["E", "ROWS", "ROWS"]), ("times", ["E", "ROWS"]), ("answer", ["E"])] && (oexB K "NoVault" "part" && (oexB K "NoReader" "part" && (oexB K "NoRow" "index" && (pinB K "PastError")))))))
end M

section
set_option maxRecDepth 100000
namespace M
open PySem PySem.Spec PyProof.Rows L2
set_option maxHeartbeats 0
def nm0 : List PySem.Str := ["_wall", "PastError", "NoName", "NoVault", "NoReader", "NoRow", "MOST_CELLS", "GREATEST_SIZE", "is_integer", "is_within", "is_tuple", "call_numbers", "call_number", "wrong_item", "check_row", "MOST_STANDS", "Reader", "is_table_key", "is_table", "are_marks", "CHANGED", "HELD", "SIGNS", "FORMS", "DEEPEST_EXPRESSION", "DEEPEST_ROW", "DEEPEST_TIMES", "MOST_COINS", "MOST_ROWS", "Tally"]
def nm1 : List PySem.Str := ["is_expression", "is_part", "is_body_row", "are_body_rows", "is_body", "code_of", "put_rows", "put_if", "put_times", "MOST_DEEDS", "LONGEST_NAME", "MOST_CHOICES", "Vault", "has_row", "is_cell", "are_cells", "is_name", "is_deed_head", "is_deed", "are_deeds", "_law_hand", "_law_draw", "_law_names", "_law_expression", "_law_rows", "_law_row", "_law_body", "_law_getter", "_law_shape", "_law_calls"]
def nm2 : List PySem.Str := ["_law_table", "_law_reads", "_law_bad_item", "_law_is_bad", "_law_yes", "_law_right", "_law_wrong"]
def names : List PySem.Str := nm0 ++ nm1 ++ nm2
abbrev R : PySem.W.OpenRow := PySem.W.OpenLaw.row PySem.Challenge.rw_pastless_k44_reads_by_an_own_walk
abbrev hk : PySem.W.Hook := hookS 4 fa fn ts ex
def ob (s : PySem.W.SharedT) : He.AlX := obS 4 fa fn ts ex (HandSHeadRun.getT s)
theorem ob_eq (s : PySem.W.SharedT) : ob s = hk.obs s.abs := obS_eq (HandSHeadRun.getT_eq s)
theorem run_false (w : World) : HandSHeadRun.RunEq R (PySem.W.view R.prog [74]) hk ob 8000 names (w.withFollow "special-get-raises" false) := by
  intro os
  kernel_rfl
theorem run_true (w : World) : HandSHeadRun.RunEq R (PySem.W.view R.prog [74]) hk ob 8000 names (w.withFollow "special-get-raises" true) := by
  intro os
  kernel_rfl
theorem run (w : World) : HandSHeadRun.RunEq R (PySem.W.view R.prog [74]) hk ob 8000 names w :=
  PySem.W.byRow2 "special-get-raises" (P := fun w => HandSHeadRun.RunEq R (PySem.W.view R.prog [74]) hk ob 8000 names w) run_false run_true w
end M
end

namespace M
open PySem PySem.Spec PyProof.Rows L2
/-- what the top has written -/
structure Txt (w : World) (K : PySem.W.Frag) (mg : Str → Option Value) : Prop where
  says : ∃ h, He.SaysX fa fn ts [] ex w h K
  X : ∃ h : Heap, K.In h ∧ h.Ns mainGlobals mg
section
variable {P : Program} {w : World} {K : PySem.W.Frag} {mg : Str → Option Value} {base : Heap}
theorem Txt.fact (T : Txt w K mg) (i : Nat) {f : He.Fa} (h : fa[i]? = some f := by rfl) : f.ok K = true := by
  obtain ⟨_, s⟩ := T.says
  exact s.t.d.fact i h
theorem Txt.glo (T : Txt w K mg) (i : Nat) {x : Str} (h : fa[i]? = some (.glo x) := by rfl) : mg x = some (.ref (He.ga K x)) := by
  obtain ⟨_, X, G⟩ := T.X
  exact He.glo_ok X G (T.fact i h)
theorem Txt.fr (T : Txt w K mg) (i : Nat) {x : Str} (h : fa[i]? = some (.free x) := by rfl) : mg x = none := by
  obtain ⟨_, X, G⟩ := T.X
  exact He.free_ok X G (T.fact i h)
theorem Txt.int (T : Txt w K mg) (i : Nat) {x : Str} {n : Int} (h : fa[i]? = some (.int x n) := by rfl) : ∃ u, mg x = some u ∧ RelV (.int n) u := by
  obtain ⟨_, X, G⟩ := T.X
  obtain ⟨t, e⟩ := He.int_ok X G (T.fact i h)
  exact ⟨_, e, ⟨t, rfl⟩⟩
theorem Txt.fd (T : Txt w K mg) (i : Nat) {d : He.DefD} (h : fn[i]? = some d := by rfl) : ∃ f, FunD K d.name d.qual d.params d.body d.scope (d.dvs K) (d.kws K) (He.fAd K d.at_) f := by
  obtain ⟨_, s⟩ := T.says
  exact s.t.d.def_ i h
theorem Txt.ex (T : Txt w K mg) : ex K = true := by
  obtain ⟨_, s⟩ := T.says
  exact s.more
theorem Txt.tab (T : Txt w K mg) (i : Nat) {t : He.Tab} (h : ts[i]? = some t := by rfl) : ∃ es n, KDict K w (t.1 K) es n := by
  obtain ⟨_, s⟩ := T.says
  exact s.t.tab i h
end
/-! places of the facts: 0 glo "_wall"; 1 glo "is_integer"; 2 glo "is_within"; 3 glo "is_tuple"; 4 glo "call_numbers"; 5 glo "call_number"; 6 glo "wrong_item"; 7 glo "check_row"; 8 glo "is_table_key"; 9 glo "is_table"; 10 glo "are_marks"; 11 glo "is_expression"; 12 glo "is_part"; 13 glo "is_body_row"; 14 glo "are_body_rows"; 15 glo "is_body"; 16 glo "code_of"; 17 glo "put_rows"; 18 glo "put_if"; 19 glo "put_times"; 20 glo "has_row"; 21 glo "is_cell"; 22 glo "are_cells"; 23 glo "is_name"; 24 glo "is_deed_head"; 25 glo "is_deed"; 26 glo "are_deeds"; 27 glo "_law_hand"; 28 glo "_law_draw"; 29 glo "_law_names"; 30 glo "_law_expression"; 31 glo "_law_rows"; 32 glo "_law_row"; 33 glo "_law_body"; 34 glo "_law_getter"; 35 glo "_law_shape"; 36 glo "_law_calls"; 37 glo "_law_table"; 38 glo "_law_reads"; 39 glo "_law_bad_item"; 40 glo "_law_is_bad"; 41 glo "_law_yes"; 42 glo "_law_right"; 43 glo "_law_wrong"; 44 glo "law"; 45 glo "PastError"; 46 glo "NoName"; 47 glo "NoVault"; 48 glo "NoReader"; 49 glo "NoRow"; 50 glo "Reader"; 51 cls "Reader"; 52 mkr "Reader"; 53 meth "Reader" "many"; 54 meth "Reader" "first"; 55 meth "Reader" "after"; 56 meth "Reader" "marked"; 57 meth "Reader" "reads"; 58 meth "Reader" "read_calls"; 59 meth "Reader" "lead"; 60 meth "Reader" "_check_stand"; 61 noat "Reader" "_numbers"; 62 noat "Reader" "_many"; 63 noat "Reader" "_first"; 64 noat "Reader" "_leads"; 65 noat "Reader" "_marks"; 66 glo "Tally"; 67 cls "Tally"; 68 mkr "Tally"; 69 noat "Tally" "cells"; 70 noat "Tally" "coins"; 71 noat "Tally" "lines"; 72 glo "Vault"; 73 cls "Vault"; 74 mkr "Vault"; 75 meth "Vault" "sizes"; 76 meth "Vault" "first"; 77 meth "Vault" "names"; 78 meth "Vault" "choices"; 79 meth "Vault" "rows"; 80 meth "Vault" "calls"; 81 meth "Vault" "has_coins"; 82 meth "Vault" "shape"; 83 meth "Vault" "starts"; 84 meth "Vault" "_deed"; 85 noat "Vault" "_cells"; 86 noat "Vault" "_deeds"; 87 noat "Vault" "_codes"; 88 noat "Vault" "_coins"; 89 exc "NoName"; 90 exm "NoRow" "NoRow" true; 91 exm "NoName" "NoRow" false; 92 exm "NoReader" "NoRow" false; 93 exm "NoVault" "NoRow" false; 94 free "len"; 95 free "isinstance"; 96 free "int"; 97 free "abs"; 98 free "tuple"; 99 free "list"; 100 free "str"; 101 free "bool"; 102 free "range"; 103 free "zip"; 104 free "enumerate"; 105 free "set"; 106 free "min"; 107 free "max"; 108 free "reversed"; 109 free "sorted"; 110 free "sum"; 111 free "dict"; 112 int "MOST_CELLS" (6); 113 int "GREATEST_SIZE" (9); 114 int "MOST_STANDS" (100000); 115 glo "CHANGED"; 116 glo "HELD"; 117 glo "SIGNS"; 118 glo "FORMS"; 119 int "DEEPEST_EXPRESSION" (6); 120 int "DEEPEST_ROW" (12); 121 int "DEEPEST_TIMES" (2); 122 int "MOST_COINS" (4); 123 int "MOST_ROWS" (2000); 124 int "MOST_DEEDS" (8); 125 int "LONGEST_NAME" (8); 126 int "MOST_CHOICES" (9) -/
section
variable {P : Program} {w : World} {K : PySem.W.Frag} {mg : Str → Option Value} {base : Heap}
theorem Txt.g_wall (T : Txt w K mg) : mg "_wall" = some (.ref (He.ga K "_wall")) := T.glo 0
theorem Txt.g_is_integer (T : Txt w K mg) : mg "is_integer" = some (.ref (He.ga K "is_integer")) := T.glo 1
theorem Txt.g_is_within (T : Txt w K mg) : mg "is_within" = some (.ref (He.ga K "is_within")) := T.glo 2
theorem Txt.g_is_tuple (T : Txt w K mg) : mg "is_tuple" = some (.ref (He.ga K "is_tuple")) := T.glo 3
theorem Txt.g_call_numbers (T : Txt w K mg) : mg "call_numbers" = some (.ref (He.ga K "call_numbers")) := T.glo 4
theorem Txt.g_call_number (T : Txt w K mg) : mg "call_number" = some (.ref (He.ga K "call_number")) := T.glo 5
theorem Txt.g_wrong_item (T : Txt w K mg) : mg "wrong_item" = some (.ref (He.ga K "wrong_item")) := T.glo 6
theorem Txt.g_check_row (T : Txt w K mg) : mg "check_row" = some (.ref (He.ga K "check_row")) := T.glo 7
theorem Txt.g_is_table_key (T : Txt w K mg) : mg "is_table_key" = some (.ref (He.ga K "is_table_key")) := T.glo 8
theorem Txt.g_is_table (T : Txt w K mg) : mg "is_table" = some (.ref (He.ga K "is_table")) := T.glo 9
theorem Txt.g_are_marks (T : Txt w K mg) : mg "are_marks" = some (.ref (He.ga K "are_marks")) := T.glo 10
theorem Txt.g_is_expression (T : Txt w K mg) : mg "is_expression" = some (.ref (He.ga K "is_expression")) := T.glo 11
theorem Txt.g_is_part (T : Txt w K mg) : mg "is_part" = some (.ref (He.ga K "is_part")) := T.glo 12
theorem Txt.g_is_body_row (T : Txt w K mg) : mg "is_body_row" = some (.ref (He.ga K "is_body_row")) := T.glo 13
theorem Txt.g_are_body_rows (T : Txt w K mg) : mg "are_body_rows" = some (.ref (He.ga K "are_body_rows")) := T.glo 14
theorem Txt.g_is_body (T : Txt w K mg) : mg "is_body" = some (.ref (He.ga K "is_body")) := T.glo 15
theorem Txt.g_code_of (T : Txt w K mg) : mg "code_of" = some (.ref (He.ga K "code_of")) := T.glo 16
theorem Txt.g_put_rows (T : Txt w K mg) : mg "put_rows" = some (.ref (He.ga K "put_rows")) := T.glo 17
theorem Txt.g_put_if (T : Txt w K mg) : mg "put_if" = some (.ref (He.ga K "put_if")) := T.glo 18
theorem Txt.g_put_times (T : Txt w K mg) : mg "put_times" = some (.ref (He.ga K "put_times")) := T.glo 19
theorem Txt.g_has_row (T : Txt w K mg) : mg "has_row" = some (.ref (He.ga K "has_row")) := T.glo 20
theorem Txt.g_is_cell (T : Txt w K mg) : mg "is_cell" = some (.ref (He.ga K "is_cell")) := T.glo 21
theorem Txt.g_are_cells (T : Txt w K mg) : mg "are_cells" = some (.ref (He.ga K "are_cells")) := T.glo 22
theorem Txt.g_is_name (T : Txt w K mg) : mg "is_name" = some (.ref (He.ga K "is_name")) := T.glo 23
theorem Txt.g_is_deed_head (T : Txt w K mg) : mg "is_deed_head" = some (.ref (He.ga K "is_deed_head")) := T.glo 24
theorem Txt.g_is_deed (T : Txt w K mg) : mg "is_deed" = some (.ref (He.ga K "is_deed")) := T.glo 25
theorem Txt.g_are_deeds (T : Txt w K mg) : mg "are_deeds" = some (.ref (He.ga K "are_deeds")) := T.glo 26
theorem Txt.g_law_hand (T : Txt w K mg) : mg "_law_hand" = some (.ref (He.ga K "_law_hand")) := T.glo 27
theorem Txt.g_law_draw (T : Txt w K mg) : mg "_law_draw" = some (.ref (He.ga K "_law_draw")) := T.glo 28
theorem Txt.g_law_names (T : Txt w K mg) : mg "_law_names" = some (.ref (He.ga K "_law_names")) := T.glo 29
theorem Txt.g_law_expression (T : Txt w K mg) : mg "_law_expression" = some (.ref (He.ga K "_law_expression")) := T.glo 30
theorem Txt.g_law_rows (T : Txt w K mg) : mg "_law_rows" = some (.ref (He.ga K "_law_rows")) := T.glo 31
theorem Txt.g_law_row (T : Txt w K mg) : mg "_law_row" = some (.ref (He.ga K "_law_row")) := T.glo 32
theorem Txt.g_law_body (T : Txt w K mg) : mg "_law_body" = some (.ref (He.ga K "_law_body")) := T.glo 33
theorem Txt.g_law_getter (T : Txt w K mg) : mg "_law_getter" = some (.ref (He.ga K "_law_getter")) := T.glo 34
theorem Txt.g_law_shape (T : Txt w K mg) : mg "_law_shape" = some (.ref (He.ga K "_law_shape")) := T.glo 35
theorem Txt.g_law_calls (T : Txt w K mg) : mg "_law_calls" = some (.ref (He.ga K "_law_calls")) := T.glo 36
theorem Txt.g_law_table (T : Txt w K mg) : mg "_law_table" = some (.ref (He.ga K "_law_table")) := T.glo 37
theorem Txt.g_law_reads (T : Txt w K mg) : mg "_law_reads" = some (.ref (He.ga K "_law_reads")) := T.glo 38
theorem Txt.g_law_bad_item (T : Txt w K mg) : mg "_law_bad_item" = some (.ref (He.ga K "_law_bad_item")) := T.glo 39
theorem Txt.g_law_is_bad (T : Txt w K mg) : mg "_law_is_bad" = some (.ref (He.ga K "_law_is_bad")) := T.glo 40
theorem Txt.g_law_yes (T : Txt w K mg) : mg "_law_yes" = some (.ref (He.ga K "_law_yes")) := T.glo 41
theorem Txt.g_law_right (T : Txt w K mg) : mg "_law_right" = some (.ref (He.ga K "_law_right")) := T.glo 42
theorem Txt.g_law_wrong (T : Txt w K mg) : mg "_law_wrong" = some (.ref (He.ga K "_law_wrong")) := T.glo 43
theorem Txt.g_law (T : Txt w K mg) : mg "law" = some (.ref (He.ga K "law")) := T.glo 44
theorem Txt.g_PastError (T : Txt w K mg) : mg "PastError" = some (.ref (He.ga K "PastError")) := T.glo 45
theorem Txt.g_NoName (T : Txt w K mg) : mg "NoName" = some (.ref (He.ga K "NoName")) := T.glo 46
theorem Txt.g_NoVault (T : Txt w K mg) : mg "NoVault" = some (.ref (He.ga K "NoVault")) := T.glo 47
theorem Txt.g_NoReader (T : Txt w K mg) : mg "NoReader" = some (.ref (He.ga K "NoReader")) := T.glo 48
theorem Txt.g_NoRow (T : Txt w K mg) : mg "NoRow" = some (.ref (He.ga K "NoRow")) := T.glo 49
theorem Txt.g_Reader (T : Txt w K mg) : mg "Reader" = some (.ref (He.ga K "Reader")) := T.glo 50
theorem Txt.c_Reader (T : Txt w K mg) : Cls K (He.ga K "Reader") := He.cls_ok (T.fact 51)
theorem Txt.k_Reader (T : Txt w K mg) : Mk K (He.ga K "Reader") (He.ma K (He.ga K "Reader") "__init__") := He.mkr_ok (T.fact 52)
theorem Txt.m_Reader_many (T : Txt w K mg) : Meth K (He.ga K "Reader") "many" (He.ma K (He.ga K "Reader") "many") := He.meth_ok (T.fact 53)
theorem Txt.m_Reader_first (T : Txt w K mg) : Meth K (He.ga K "Reader") "first" (He.ma K (He.ga K "Reader") "first") := He.meth_ok (T.fact 54)
theorem Txt.m_Reader_after (T : Txt w K mg) : Meth K (He.ga K "Reader") "after" (He.ma K (He.ga K "Reader") "after") := He.meth_ok (T.fact 55)
theorem Txt.m_Reader_marked (T : Txt w K mg) : Meth K (He.ga K "Reader") "marked" (He.ma K (He.ga K "Reader") "marked") := He.meth_ok (T.fact 56)
theorem Txt.m_Reader_reads (T : Txt w K mg) : Meth K (He.ga K "Reader") "reads" (He.ma K (He.ga K "Reader") "reads") := He.meth_ok (T.fact 57)
theorem Txt.m_Reader_read_calls (T : Txt w K mg) : Meth K (He.ga K "Reader") "read_calls" (He.ma K (He.ga K "Reader") "read_calls") := He.meth_ok (T.fact 58)
theorem Txt.m_Reader_lead (T : Txt w K mg) : Meth K (He.ga K "Reader") "lead" (He.ma K (He.ga K "Reader") "lead") := He.meth_ok (T.fact 59)
theorem Txt.m_Reader_check_stand (T : Txt w K mg) : Meth K (He.ga K "Reader") "_check_stand" (He.ma K (He.ga K "Reader") "_check_stand") := He.meth_ok (T.fact 60)
theorem Txt.n_Reader_numbers (T : Txt w K mg) : NoAttr K (He.ga K "Reader") "_numbers" := He.noat_ok (T.fact 61)
theorem Txt.n_Reader_many (T : Txt w K mg) : NoAttr K (He.ga K "Reader") "_many" := He.noat_ok (T.fact 62)
theorem Txt.n_Reader_first (T : Txt w K mg) : NoAttr K (He.ga K "Reader") "_first" := He.noat_ok (T.fact 63)
theorem Txt.n_Reader_leads (T : Txt w K mg) : NoAttr K (He.ga K "Reader") "_leads" := He.noat_ok (T.fact 64)
theorem Txt.n_Reader_marks (T : Txt w K mg) : NoAttr K (He.ga K "Reader") "_marks" := He.noat_ok (T.fact 65)
theorem Txt.g_Tally (T : Txt w K mg) : mg "Tally" = some (.ref (He.ga K "Tally")) := T.glo 66
theorem Txt.c_Tally (T : Txt w K mg) : Cls K (He.ga K "Tally") := He.cls_ok (T.fact 67)
theorem Txt.k_Tally (T : Txt w K mg) : Mk K (He.ga K "Tally") (He.ma K (He.ga K "Tally") "__init__") := He.mkr_ok (T.fact 68)
theorem Txt.n_Tally_cells (T : Txt w K mg) : NoAttr K (He.ga K "Tally") "cells" := He.noat_ok (T.fact 69)
theorem Txt.n_Tally_coins (T : Txt w K mg) : NoAttr K (He.ga K "Tally") "coins" := He.noat_ok (T.fact 70)
theorem Txt.n_Tally_lines (T : Txt w K mg) : NoAttr K (He.ga K "Tally") "lines" := He.noat_ok (T.fact 71)
theorem Txt.g_Vault (T : Txt w K mg) : mg "Vault" = some (.ref (He.ga K "Vault")) := T.glo 72
theorem Txt.c_Vault (T : Txt w K mg) : Cls K (He.ga K "Vault") := He.cls_ok (T.fact 73)
theorem Txt.k_Vault (T : Txt w K mg) : Mk K (He.ga K "Vault") (He.ma K (He.ga K "Vault") "__init__") := He.mkr_ok (T.fact 74)
theorem Txt.m_Vault_sizes (T : Txt w K mg) : Meth K (He.ga K "Vault") "sizes" (He.ma K (He.ga K "Vault") "sizes") := He.meth_ok (T.fact 75)
theorem Txt.m_Vault_first (T : Txt w K mg) : Meth K (He.ga K "Vault") "first" (He.ma K (He.ga K "Vault") "first") := He.meth_ok (T.fact 76)
theorem Txt.m_Vault_names (T : Txt w K mg) : Meth K (He.ga K "Vault") "names" (He.ma K (He.ga K "Vault") "names") := He.meth_ok (T.fact 77)
theorem Txt.m_Vault_choices (T : Txt w K mg) : Meth K (He.ga K "Vault") "choices" (He.ma K (He.ga K "Vault") "choices") := He.meth_ok (T.fact 78)
theorem Txt.m_Vault_rows (T : Txt w K mg) : Meth K (He.ga K "Vault") "rows" (He.ma K (He.ga K "Vault") "rows") := He.meth_ok (T.fact 79)
theorem Txt.m_Vault_calls (T : Txt w K mg) : Meth K (He.ga K "Vault") "calls" (He.ma K (He.ga K "Vault") "calls") := He.meth_ok (T.fact 80)
theorem Txt.m_Vault_has_coins (T : Txt w K mg) : Meth K (He.ga K "Vault") "has_coins" (He.ma K (He.ga K "Vault") "has_coins") := He.meth_ok (T.fact 81)
theorem Txt.m_Vault_shape (T : Txt w K mg) : Meth K (He.ga K "Vault") "shape" (He.ma K (He.ga K "Vault") "shape") := He.meth_ok (T.fact 82)
theorem Txt.m_Vault_starts (T : Txt w K mg) : Meth K (He.ga K "Vault") "starts" (He.ma K (He.ga K "Vault") "starts") := He.meth_ok (T.fact 83)
theorem Txt.m_Vault_deed (T : Txt w K mg) : Meth K (He.ga K "Vault") "_deed" (He.ma K (He.ga K "Vault") "_deed") := He.meth_ok (T.fact 84)
theorem Txt.n_Vault_cells (T : Txt w K mg) : NoAttr K (He.ga K "Vault") "_cells" := He.noat_ok (T.fact 85)
theorem Txt.n_Vault_deeds (T : Txt w K mg) : NoAttr K (He.ga K "Vault") "_deeds" := He.noat_ok (T.fact 86)
theorem Txt.n_Vault_codes (T : Txt w K mg) : NoAttr K (He.ga K "Vault") "_codes" := He.noat_ok (T.fact 87)
theorem Txt.n_Vault_coins (T : Txt w K mg) : NoAttr K (He.ga K "Vault") "_coins" := He.noat_ok (T.fact 88)
theorem Txt.x_NoName (T : Txt w K mg) : PySem.W.excIn K (He.ga K "NoName") He.veBase "ValueError.__new__" = true ∧ PySem.W.keepIn K (.ref (He.ga K "NoName")) = true ∧ PySem.W.subIn K (.ref (He.ga K "NoName")) (.type "BaseException") = some true ∧ PySem.W.typeIn K (.ref (He.ga K "NoName")) = some (.type "type") := He.exc_ok (T.fact 89 (f := .exc "NoName"))
theorem Txt.xm_NoRow (T : Txt w K mg) : PySem.W.exmOne K (.ref (He.ga K "NoRow")) (.ref (He.ga K "NoRow")) = some true := of_decide_eq_true (T.fact 90 (f := .exm "NoRow" "NoRow" true))
theorem Txt.xm_NoName_NoRow (T : Txt w K mg) : PySem.W.exmOne K (.ref (He.ga K "NoName")) (.ref (He.ga K "NoRow")) = some false := of_decide_eq_true (T.fact 91 (f := .exm "NoName" "NoRow" false))
theorem Txt.xm_NoReader_NoRow (T : Txt w K mg) : PySem.W.exmOne K (.ref (He.ga K "NoReader")) (.ref (He.ga K "NoRow")) = some false := of_decide_eq_true (T.fact 92 (f := .exm "NoReader" "NoRow" false))
theorem Txt.xm_NoVault_NoRow (T : Txt w K mg) : PySem.W.exmOne K (.ref (He.ga K "NoVault")) (.ref (He.ga K "NoRow")) = some false := of_decide_eq_true (T.fact 93 (f := .exm "NoVault" "NoRow" false))
theorem Txt.b_len (T : Txt w K mg) : mg "len" = none := T.fr 94
theorem Txt.b_isinstance (T : Txt w K mg) : mg "isinstance" = none := T.fr 95
theorem Txt.b_int (T : Txt w K mg) : mg "int" = none := T.fr 96
theorem Txt.b_abs (T : Txt w K mg) : mg "abs" = none := T.fr 97
theorem Txt.b_tuple (T : Txt w K mg) : mg "tuple" = none := T.fr 98
theorem Txt.b_list (T : Txt w K mg) : mg "list" = none := T.fr 99
theorem Txt.b_str (T : Txt w K mg) : mg "str" = none := T.fr 100
theorem Txt.b_bool (T : Txt w K mg) : mg "bool" = none := T.fr 101
theorem Txt.b_range (T : Txt w K mg) : mg "range" = none := T.fr 102
theorem Txt.b_zip (T : Txt w K mg) : mg "zip" = none := T.fr 103
theorem Txt.b_enumerate (T : Txt w K mg) : mg "enumerate" = none := T.fr 104
theorem Txt.b_set (T : Txt w K mg) : mg "set" = none := T.fr 105
theorem Txt.b_min (T : Txt w K mg) : mg "min" = none := T.fr 106
theorem Txt.b_max (T : Txt w K mg) : mg "max" = none := T.fr 107
theorem Txt.b_reversed (T : Txt w K mg) : mg "reversed" = none := T.fr 108
theorem Txt.b_sorted (T : Txt w K mg) : mg "sorted" = none := T.fr 109
theorem Txt.b_sum (T : Txt w K mg) : mg "sum" = none := T.fr 110
theorem Txt.b_dict (T : Txt w K mg) : mg "dict" = none := T.fr 111
theorem Txt.i_MOST_CELLS (T : Txt w K mg) : ∃ u, mg "MOST_CELLS" = some u ∧ RelV (.int 6) u := T.int 112
theorem Txt.i_GREATEST_SIZE (T : Txt w K mg) : ∃ u, mg "GREATEST_SIZE" = some u ∧ RelV (.int 9) u := T.int 113
theorem Txt.i_MOST_STANDS (T : Txt w K mg) : ∃ u, mg "MOST_STANDS" = some u ∧ RelV (.int 100000) u := T.int 114
theorem Txt.g_CHANGED (T : Txt w K mg) : mg "CHANGED" = some (.ref (He.ga K "CHANGED")) := T.glo 115
theorem Txt.g_HELD (T : Txt w K mg) : mg "HELD" = some (.ref (He.ga K "HELD")) := T.glo 116
theorem Txt.g_SIGNS (T : Txt w K mg) : mg "SIGNS" = some (.ref (He.ga K "SIGNS")) := T.glo 117
theorem Txt.g_FORMS (T : Txt w K mg) : mg "FORMS" = some (.ref (He.ga K "FORMS")) := T.glo 118
theorem Txt.i_DEEPEST_EXPRESSION (T : Txt w K mg) : ∃ u, mg "DEEPEST_EXPRESSION" = some u ∧ RelV (.int 6) u := T.int 119
theorem Txt.i_DEEPEST_ROW (T : Txt w K mg) : ∃ u, mg "DEEPEST_ROW" = some u ∧ RelV (.int 12) u := T.int 120
theorem Txt.i_DEEPEST_TIMES (T : Txt w K mg) : ∃ u, mg "DEEPEST_TIMES" = some u ∧ RelV (.int 2) u := T.int 121
theorem Txt.i_MOST_COINS (T : Txt w K mg) : ∃ u, mg "MOST_COINS" = some u ∧ RelV (.int 4) u := T.int 122
theorem Txt.i_MOST_ROWS (T : Txt w K mg) : ∃ u, mg "MOST_ROWS" = some u ∧ RelV (.int 2000) u := T.int 123
theorem Txt.i_MOST_DEEDS (T : Txt w K mg) : ∃ u, mg "MOST_DEEDS" = some u ∧ RelV (.int 8) u := T.int 124
theorem Txt.i_LONGEST_NAME (T : Txt w K mg) : ∃ u, mg "LONGEST_NAME" = some u ∧ RelV (.int 8) u := T.int 125
theorem Txt.i_MOST_CHOICES (T : Txt w K mg) : ∃ u, mg "MOST_CHOICES" = some u ∧ RelV (.int 9) u := T.int 126
theorem Txt.f__wall (T : Txt w K mg) : ∃ f, FunD K "_wall" "_wall" (defArgs s__wall) (defBody s__wall) (defScope s__wall) [] [] (He.fAd K ("_wall", none)) f := T.fd 0
theorem Txt.f_NoVault_init (T : Txt w K mg) : ∃ f, FunD K "__init__" "NoVault.__init__" (defArgs s_NoVault_init) (defBody s_NoVault_init) (defScope s_NoVault_init) [] [] (He.fAd K ("NoVault", some "__init__")) f := T.fd 1
theorem Txt.f_NoReader_init (T : Txt w K mg) : ∃ f, FunD K "__init__" "NoReader.__init__" (defArgs s_NoReader_init) (defBody s_NoReader_init) (defScope s_NoReader_init) [] [] (He.fAd K ("NoReader", some "__init__")) f := T.fd 2
theorem Txt.f_NoRow_init (T : Txt w K mg) : ∃ f, FunD K "__init__" "NoRow.__init__" (defArgs s_NoRow_init) (defBody s_NoRow_init) (defScope s_NoRow_init) [] [] (He.fAd K ("NoRow", some "__init__")) f := T.fd 3
theorem Txt.f_is_integer (T : Txt w K mg) : ∃ f, FunD K "is_integer" "is_integer" (defArgs s_is_integer) (defBody s_is_integer) (defScope s_is_integer) [] [] (He.fAd K ("is_integer", none)) f := T.fd 4
theorem Txt.f_is_within (T : Txt w K mg) : ∃ f, FunD K "is_within" "is_within" (defArgs s_is_within) (defBody s_is_within) (defScope s_is_within) [] [] (He.fAd K ("is_within", none)) f := T.fd 5
theorem Txt.f_is_tuple (T : Txt w K mg) : ∃ f, FunD K "is_tuple" "is_tuple" (defArgs s_is_tuple) (defBody s_is_tuple) (defScope s_is_tuple) [] [] (He.fAd K ("is_tuple", none)) f := T.fd 6
theorem Txt.f_call_numbers (T : Txt w K mg) : ∃ f, FunD K "call_numbers" "call_numbers" (defArgs s_call_numbers) (defBody s_call_numbers) (defScope s_call_numbers) [] [] (He.fAd K ("call_numbers", none)) f := T.fd 7
theorem Txt.f_call_number (T : Txt w K mg) : ∃ f, FunD K "call_number" "call_number" (defArgs s_call_number) (defBody s_call_number) (defScope s_call_number) [] [] (He.fAd K ("call_number", none)) f := T.fd 8
theorem Txt.f_wrong_item (T : Txt w K mg) : ∃ f, FunD K "wrong_item" "wrong_item" (defArgs s_wrong_item) (defBody s_wrong_item) (defScope s_wrong_item) [] [] (He.fAd K ("wrong_item", none)) f := T.fd 9
theorem Txt.f_check_row (T : Txt w K mg) : ∃ f, FunD K "check_row" "check_row" (defArgs s_check_row) (defBody s_check_row) (defScope s_check_row) [] [] (He.fAd K ("check_row", none)) f := T.fd 10
theorem Txt.f_Reader_init (T : Txt w K mg) : ∃ f, FunD K "__init__" "Reader.__init__" (defArgs s_Reader_init) (defBody s_Reader_init) (defScope s_Reader_init) [] [] (He.fAd K ("Reader", some "__init__")) f := T.fd 11
theorem Txt.f_Reader_many (T : Txt w K mg) : ∃ f, FunD K "many" "Reader.many" (defArgs s_Reader_many) (defBody s_Reader_many) (defScope s_Reader_many) [] [] (He.fAd K ("Reader", some "many")) f := T.fd 12
theorem Txt.f_Reader_first (T : Txt w K mg) : ∃ f, FunD K "first" "Reader.first" (defArgs s_Reader_first) (defBody s_Reader_first) (defScope s_Reader_first) [] [] (He.fAd K ("Reader", some "first")) f := T.fd 13
theorem Txt.f_Reader_after (T : Txt w K mg) : ∃ f, FunD K "after" "Reader.after" (defArgs s_Reader_after) (defBody s_Reader_after) (defScope s_Reader_after) [] [] (He.fAd K ("Reader", some "after")) f := T.fd 14
theorem Txt.f_Reader_marked (T : Txt w K mg) : ∃ f, FunD K "marked" "Reader.marked" (defArgs s_Reader_marked) (defBody s_Reader_marked) (defScope s_Reader_marked) [] [] (He.fAd K ("Reader", some "marked")) f := T.fd 15
theorem Txt.f_Reader_reads (T : Txt w K mg) : ∃ f, FunD K "reads" "Reader.reads" (defArgs s_Reader_reads) (defBody s_Reader_reads) (defScope s_Reader_reads) [] [] (He.fAd K ("Reader", some "reads")) f := T.fd 16
theorem Txt.f_Reader_read_calls (T : Txt w K mg) : ∃ f, FunD K "read_calls" "Reader.read_calls" (defArgs s_Reader_read_calls) (defBody s_Reader_read_calls) (defScope s_Reader_read_calls) [] [] (He.fAd K ("Reader", some "read_calls")) f := T.fd 17
theorem Txt.f_Reader_lead (T : Txt w K mg) : ∃ f, FunD K "lead" "Reader.lead" (defArgs s_Reader_lead) (defBody s_Reader_lead) (defScope s_Reader_lead) [] [] (He.fAd K ("Reader", some "lead")) f := T.fd 18
theorem Txt.f_Reader_check_stand (T : Txt w K mg) : ∃ f, FunD K "_check_stand" "Reader._check_stand" (defArgs s_Reader_check_stand) (defBody s_Reader_check_stand) (defScope s_Reader_check_stand) [] [] (He.fAd K ("Reader", some "_check_stand")) f := T.fd 19
theorem Txt.f_is_table_key (T : Txt w K mg) : ∃ f, FunD K "is_table_key" "is_table_key" (defArgs s_is_table_key) (defBody s_is_table_key) (defScope s_is_table_key) [] [] (He.fAd K ("is_table_key", none)) f := T.fd 20
theorem Txt.f_is_table (T : Txt w K mg) : ∃ f, FunD K "is_table" "is_table" (defArgs s_is_table) (defBody s_is_table) (defScope s_is_table) [] [] (He.fAd K ("is_table", none)) f := T.fd 21
theorem Txt.f_are_marks (T : Txt w K mg) : ∃ f, FunD K "are_marks" "are_marks" (defArgs s_are_marks) (defBody s_are_marks) (defScope s_are_marks) [] [] (He.fAd K ("are_marks", none)) f := T.fd 22
theorem Txt.f_Tally_init (T : Txt w K mg) : ∃ f, FunD K "__init__" "Tally.__init__" (defArgs s_Tally_init) (defBody s_Tally_init) (defScope s_Tally_init) [] [] (He.fAd K ("Tally", some "__init__")) f := T.fd 23
theorem Txt.f_is_expression (T : Txt w K mg) : ∃ f, FunD K "is_expression" "is_expression" (defArgs s_is_expression) (defBody s_is_expression) (defScope s_is_expression) [] [] (He.fAd K ("is_expression", none)) f := T.fd 24
theorem Txt.f_is_part (T : Txt w K mg) : ∃ f, FunD K "is_part" "is_part" (defArgs s_is_part) (defBody s_is_part) (defScope s_is_part) [] [] (He.fAd K ("is_part", none)) f := T.fd 25
theorem Txt.f_is_body_row (T : Txt w K mg) : ∃ f, FunD K "is_body_row" "is_body_row" (defArgs s_is_body_row) (defBody s_is_body_row) (defScope s_is_body_row) [] [] (He.fAd K ("is_body_row", none)) f := T.fd 26
theorem Txt.f_are_body_rows (T : Txt w K mg) : ∃ f, FunD K "are_body_rows" "are_body_rows" (defArgs s_are_body_rows) (defBody s_are_body_rows) (defScope s_are_body_rows) [] [] (He.fAd K ("are_body_rows", none)) f := T.fd 27
theorem Txt.f_is_body (T : Txt w K mg) : ∃ f, FunD K "is_body" "is_body" (defArgs s_is_body) (defBody s_is_body) (defScope s_is_body) [] [] (He.fAd K ("is_body", none)) f := T.fd 28
theorem Txt.f_code_of (T : Txt w K mg) : ∃ f, FunD K "code_of" "code_of" (defArgs s_code_of) (defBody s_code_of) (defScope s_code_of) [] [] (He.fAd K ("code_of", none)) f := T.fd 29
theorem Txt.f_put_rows (T : Txt w K mg) : ∃ f, FunD K "put_rows" "put_rows" (defArgs s_put_rows) (defBody s_put_rows) (defScope s_put_rows) [] [] (He.fAd K ("put_rows", none)) f := T.fd 30
theorem Txt.f_put_if (T : Txt w K mg) : ∃ f, FunD K "put_if" "put_if" (defArgs s_put_if) (defBody s_put_if) (defScope s_put_if) [] [] (He.fAd K ("put_if", none)) f := T.fd 31
theorem Txt.f_put_times (T : Txt w K mg) : ∃ f, FunD K "put_times" "put_times" (defArgs s_put_times) (defBody s_put_times) (defScope s_put_times) [] [] (He.fAd K ("put_times", none)) f := T.fd 32
theorem Txt.f_Vault_init (T : Txt w K mg) : ∃ f, FunD K "__init__" "Vault.__init__" (defArgs s_Vault_init) (defBody s_Vault_init) (defScope s_Vault_init) [] [] (He.fAd K ("Vault", some "__init__")) f := T.fd 33
theorem Txt.f_Vault_sizes (T : Txt w K mg) : ∃ f, FunD K "sizes" "Vault.sizes" (defArgs s_Vault_sizes) (defBody s_Vault_sizes) (defScope s_Vault_sizes) [] [] (He.fAd K ("Vault", some "sizes")) f := T.fd 34
theorem Txt.f_Vault_first (T : Txt w K mg) : ∃ f, FunD K "first" "Vault.first" (defArgs s_Vault_first) (defBody s_Vault_first) (defScope s_Vault_first) [] [] (He.fAd K ("Vault", some "first")) f := T.fd 35
theorem Txt.f_Vault_names (T : Txt w K mg) : ∃ f, FunD K "names" "Vault.names" (defArgs s_Vault_names) (defBody s_Vault_names) (defScope s_Vault_names) [] [] (He.fAd K ("Vault", some "names")) f := T.fd 36
theorem Txt.f_Vault_choices (T : Txt w K mg) : ∃ f, FunD K "choices" "Vault.choices" (defArgs s_Vault_choices) (defBody s_Vault_choices) (defScope s_Vault_choices) [] [] (He.fAd K ("Vault", some "choices")) f := T.fd 37
theorem Txt.f_Vault_rows (T : Txt w K mg) : ∃ f, FunD K "rows" "Vault.rows" (defArgs s_Vault_rows) (defBody s_Vault_rows) (defScope s_Vault_rows) [] [] (He.fAd K ("Vault", some "rows")) f := T.fd 38
theorem Txt.f_Vault_calls (T : Txt w K mg) : ∃ f, FunD K "calls" "Vault.calls" (defArgs s_Vault_calls) (defBody s_Vault_calls) (defScope s_Vault_calls) [] [] (He.fAd K ("Vault", some "calls")) f := T.fd 39
theorem Txt.f_Vault_has_coins (T : Txt w K mg) : ∃ f, FunD K "has_coins" "Vault.has_coins" (defArgs s_Vault_has_coins) (defBody s_Vault_has_coins) (defScope s_Vault_has_coins) [] [] (He.fAd K ("Vault", some "has_coins")) f := T.fd 40
theorem Txt.f_Vault_shape (T : Txt w K mg) : ∃ f, FunD K "shape" "Vault.shape" (defArgs s_Vault_shape) (defBody s_Vault_shape) (defScope s_Vault_shape) [] [] (He.fAd K ("Vault", some "shape")) f := T.fd 41
theorem Txt.f_Vault_starts (T : Txt w K mg) : ∃ f, FunD K "starts" "Vault.starts" (defArgs s_Vault_starts) (defBody s_Vault_starts) (defScope s_Vault_starts) [] [] (He.fAd K ("Vault", some "starts")) f := T.fd 42
theorem Txt.f_Vault_deed (T : Txt w K mg) : ∃ f, FunD K "_deed" "Vault._deed" (defArgs s_Vault_deed) (defBody s_Vault_deed) (defScope s_Vault_deed) [] [] (He.fAd K ("Vault", some "_deed")) f := T.fd 43
theorem Txt.f_Vault_eq (T : Txt w K mg) : ∃ f, FunD K "__eq__" "Vault.__eq__" (defArgs s_Vault_eq) (defBody s_Vault_eq) (defScope s_Vault_eq) [] [] (He.fAd K ("Vault", some "__eq__")) f := T.fd 44
theorem Txt.f_has_row (T : Txt w K mg) : ∃ f, FunD K "has_row" "has_row" (defArgs s_has_row) (defBody s_has_row) (defScope s_has_row) [] [] (He.fAd K ("has_row", none)) f := T.fd 45
theorem Txt.f_is_cell (T : Txt w K mg) : ∃ f, FunD K "is_cell" "is_cell" (defArgs s_is_cell) (defBody s_is_cell) (defScope s_is_cell) [] [] (He.fAd K ("is_cell", none)) f := T.fd 46
theorem Txt.f_are_cells (T : Txt w K mg) : ∃ f, FunD K "are_cells" "are_cells" (defArgs s_are_cells) (defBody s_are_cells) (defScope s_are_cells) [] [] (He.fAd K ("are_cells", none)) f := T.fd 47
theorem Txt.f_is_name (T : Txt w K mg) : ∃ f, FunD K "is_name" "is_name" (defArgs s_is_name) (defBody s_is_name) (defScope s_is_name) [] [] (He.fAd K ("is_name", none)) f := T.fd 48
theorem Txt.f_is_deed_head (T : Txt w K mg) : ∃ f, FunD K "is_deed_head" "is_deed_head" (defArgs s_is_deed_head) (defBody s_is_deed_head) (defScope s_is_deed_head) [] [] (He.fAd K ("is_deed_head", none)) f := T.fd 49
theorem Txt.f_is_deed (T : Txt w K mg) : ∃ f, FunD K "is_deed" "is_deed" (defArgs s_is_deed) (defBody s_is_deed) (defScope s_is_deed) [] [] (He.fAd K ("is_deed", none)) f := T.fd 50
theorem Txt.f_are_deeds (T : Txt w K mg) : ∃ f, FunD K "are_deeds" "are_deeds" (defArgs s_are_deeds) (defBody s_are_deeds) (defScope s_are_deeds) [] [] (He.fAd K ("are_deeds", none)) f := T.fd 51
theorem Txt.f_l_hand (T : Txt w K mg) : ∃ f, FunD K "_law_hand" "_law_hand" (defArgs s_l_hand) (defBody s_l_hand) (defScope s_l_hand) [] [] (He.fAd K ("_law_hand", none)) f := T.fd 52
theorem Txt.f_l_draw (T : Txt w K mg) : ∃ f, FunD K "_law_draw" "_law_draw" (defArgs s_l_draw) (defBody s_l_draw) (defScope s_l_draw) [] [] (He.fAd K ("_law_draw", none)) f := T.fd 53
theorem Txt.f_l_names (T : Txt w K mg) : ∃ f, FunD K "_law_names" "_law_names" (defArgs s_l_names) (defBody s_l_names) (defScope s_l_names) [] [] (He.fAd K ("_law_names", none)) f := T.fd 54
theorem Txt.f_l_expression (T : Txt w K mg) : ∃ f, FunD K "_law_expression" "_law_expression" (defArgs s_l_expression) (defBody s_l_expression) (defScope s_l_expression) [] [] (He.fAd K ("_law_expression", none)) f := T.fd 55
theorem Txt.f_l_rows (T : Txt w K mg) : ∃ f, FunD K "_law_rows" "_law_rows" (defArgs s_l_rows) (defBody s_l_rows) (defScope s_l_rows) [] [] (He.fAd K ("_law_rows", none)) f := T.fd 56
theorem Txt.f_l_row (T : Txt w K mg) : ∃ f, FunD K "_law_row" "_law_row" (defArgs s_l_row) (defBody s_l_row) (defScope s_l_row) [] [] (He.fAd K ("_law_row", none)) f := T.fd 57
theorem Txt.f_l_body (T : Txt w K mg) : ∃ f, FunD K "_law_body" "_law_body" (defArgs s_l_body) (defBody s_l_body) (defScope s_l_body) [] [] (He.fAd K ("_law_body", none)) f := T.fd 58
theorem Txt.f_l_getter (T : Txt w K mg) : ∃ f, FunD K "_law_getter" "_law_getter" (defArgs s_l_getter) (defBody s_l_getter) (defScope s_l_getter) [] [] (He.fAd K ("_law_getter", none)) f := T.fd 59
theorem Txt.f_l_shape (T : Txt w K mg) : ∃ f, FunD K "_law_shape" "_law_shape" (defArgs s_l_shape) (defBody s_l_shape) (defScope s_l_shape) [] [] (He.fAd K ("_law_shape", none)) f := T.fd 60
theorem Txt.f_l_calls (T : Txt w K mg) : ∃ f, FunD K "_law_calls" "_law_calls" (defArgs s_l_calls) (defBody s_l_calls) (defScope s_l_calls) [] [] (He.fAd K ("_law_calls", none)) f := T.fd 61
theorem Txt.f_l_table (T : Txt w K mg) : ∃ f, FunD K "_law_table" "_law_table" (defArgs s_l_table) (defBody s_l_table) (defScope s_l_table) [] [] (He.fAd K ("_law_table", none)) f := T.fd 62
theorem Txt.f_l_reads (T : Txt w K mg) : ∃ f, FunD K "_law_reads" "_law_reads" (defArgs s_l_reads) (defBody s_l_reads) (defScope s_l_reads) [] [] (He.fAd K ("_law_reads", none)) f := T.fd 63
theorem Txt.f_l_bad_item (T : Txt w K mg) : ∃ f, FunD K "_law_bad_item" "_law_bad_item" (defArgs s_l_bad_item) (defBody s_l_bad_item) (defScope s_l_bad_item) [] [] (He.fAd K ("_law_bad_item", none)) f := T.fd 64
theorem Txt.f_l_is_bad (T : Txt w K mg) : ∃ f, FunD K "_law_is_bad" "_law_is_bad" (defArgs s_l_is_bad) (defBody s_l_is_bad) (defScope s_l_is_bad) [] [] (He.fAd K ("_law_is_bad", none)) f := T.fd 65
theorem Txt.f_l_yes (T : Txt w K mg) : ∃ f, FunD K "_law_yes" "_law_yes" (defArgs s_l_yes) (defBody s_l_yes) (defScope s_l_yes) [] [] (He.fAd K ("_law_yes", none)) f := T.fd 66
theorem Txt.f_l_right (T : Txt w K mg) : ∃ f, FunD K "_law_right" "_law_right" (defArgs s_l_right) (defBody s_l_right) (defScope s_l_right) [] [] (He.fAd K ("_law_right", none)) f := T.fd 67
theorem Txt.f_l_wrong (T : Txt w K mg) : ∃ f, FunD K "_law_wrong" "_law_wrong" (defArgs s_l_wrong) (defBody s_l_wrong) (defScope s_l_wrong) [] [] (He.fAd K ("_law_wrong", none)) f := T.fd 68
theorem Txt.f_law (T : Txt w K mg) : ∃ f, FunD K "law" "law" (defArgs s_law) (defBody s_law) (defScope s_law) [] [] (He.fAd K ("law", none)) f := T.fd 69
theorem Txt.e_CHANGED (T : Txt w K mg) : He.tupB K "CHANGED" [.str "a", .str "b", .str "c", .str "d"] = true := (He.ba T.ex).1
theorem Txt.e_HELD (T : Txt w K mg) : He.tupB K "HELD" [.str "a", .str "b", .str "c", .str "d", .str "x"] = true := (He.ba (He.ba T.ex).2).1
theorem Txt.e_SIGNS (T : Txt w K mg) : He.tupB K "SIGNS" [.str "+", .str "-", .str "*", .str "=", .str "<"] = true := (He.ba (He.ba (He.ba T.ex).2).2).1
theorem Txt.e_FORMS (T : Txt w K mg) : formsB K (He.ga K "FORMS") [("read", ["REG", "CELL"]), ("set", ["CELL", "E"]), ("swap", ["REG", "CELL", "E", "E"]), ("keep", ["REG", "E"]), ("coin", ["REG"]), ("if", ["E", "ROWS", "ROWS"]), ("times", ["E", "ROWS"]), ("answer", ["E"])] = true := (He.ba (He.ba (He.ba (He.ba T.ex).2).2).2).1
theorem Txt.e_NoVault (T : Txt w K mg) : oexB K "NoVault" "part" = true := (He.ba (He.ba (He.ba (He.ba (He.ba T.ex).2).2).2).2).1
theorem Txt.e_NoReader (T : Txt w K mg) : oexB K "NoReader" "part" = true := (He.ba (He.ba (He.ba (He.ba (He.ba (He.ba T.ex).2).2).2).2).2).1
theorem Txt.e_NoRow (T : Txt w K mg) : oexB K "NoRow" "index" = true := (He.ba (He.ba (He.ba (He.ba (He.ba (He.ba (He.ba T.ex).2).2).2).2).2).2).1
theorem Txt.e_PastError (T : Txt w K mg) : pinB K "PastError" = true := (He.ba (He.ba (He.ba (He.ba (He.ba (He.ba (He.ba T.ex).2).2).2).2).2).2).2
theorem Txt.t_FORMS (T : Txt w K mg) : ∃ es n, KDict K w (He.ga K "FORMS") es n := T.tab 0
end
end M

set_option Elab.async false
set_option linter.all false
set_option maxRecDepth 100000
set_option maxHeartbeats 2000000
namespace M
open PySem PySem.Spec PyProof.Rows L2
/-! ### defs by their names, what they promise -/
/-- the global name x holds a def that keeps sp at level k -/
structure Ca (P : Program) (w : World) (K : PySem.W.Frag) (mg : Str → Option Value) (base : Heap) (k : Nat) (x : Str) (sp : Sp) : Prop where
  ex : ∃ (f : Addr) (fd : FuncData) (ps : List Str), FnOk P w K mg base CX0 k f fd ps sp ∧ mg x = some (.ref f) ∧ PySem.W.keepIn K (.ref f) = true ∧ Binds K fd ps []
/-- a method of the class C -/
structure Me (P : Program) (w : World) (K : PySem.W.Frag) (mg : Str → Option Value) (base : Heap) (k : Nat) (C : Addr) (m : Str) (sp : Sp) : Prop where
  ex : ∃ (f : Addr) (fd : FuncData) (ps : List Str), Cls K C ∧ Meth K C m f ∧ FnOk P w K mg base CX0 k f fd ps sp ∧ Binds K fd ps []
/-- the class x is made by its __init__ -/
structure Ma (P : Program) (w : World) (K : PySem.W.Frag) (mg : Str → Option Value) (base : Heap) (k : Nat) (x : Str) (C : Addr) (sp : Sp) : Prop where
  ex : ∃ (f : Addr) (fd : FuncData) (ps : List Str), Mk K C f ∧ FnOk P w K mg base CX0 k f fd ps sp ∧ mg x = some (.ref C) ∧ Binds K fd ps []
section
variable {P : Program} {w : World} {K : PySem.W.Frag} {mg : Str → Option Value} {base : Heap} {x m q : Str} {st : Stmt} {N ps : List Str} {k : Nat} {sp : Sp} {C f : Addr}
abbrev BindsH (x q : Str) (st : Stmt) (ps : List Str) : Prop := ∀ (kV doc pm : Value) (an : Option Addr) (cdv ct : Value) (us : List Value), us.length = ps.length → bindArgs (PySem.W.fnOf x q (defArgs st) (defBody st) (defScope st) .none kV doc pm an cdv ct) ⟨us, []⟩ = pure (ps.zip us)
abbrev BodyH (P : Program) (w : World) (K : PySem.W.Frag) (mg : Str → Option Value) (base : Heap) (q : Str) (st : Stmt) (N : List Str) (k : Nat) (f : Addr) (sp : Sp) : Prop := ∀ (cdv : Value) (A : Around) (outer : List Env) (s : Shared) (H : Hp) (vs : List V) (Q : VK) (E : XK), Room k (A.deeper (envOfC q (defScope st) s.heap.objs.size f cdv)) → sp vs H Q E →
      ∃ t, PSs (cxOf CX0 P w K mg base N q (defScope st) f cdv A outer s H E).nox (defBody st) t ∧ t { nx := fun _ H' => Q .non H', rt := Q } (start N vs) H
theorem fn_d {fd : FuncData} (F : FunD K x q (defArgs st) (defBody st) (defScope st) [] [] f fd) (S : FnScope N ps (defScope st)) (len : ∀ vs H Q E, sp vs H Q E → vs.length = ps.length)
    (hbody : BodyH P w K mg base q st N k f sp) : FnOk P w K mg base CX0 (k + 1) f fd ps sp := by
  refine F.ok S len (fun cdv A outer s H vs Q E hr h => ?_)
  obtain ⟨t, h1, h2⟩ := hbody cdv A outer s H vs Q E hr h
  exact ⟨t, h1.nox, h2⟩
theorem ca_of (F : ∃ fd, FunD K x x (defArgs st) (defBody st) (defScope st) [] [] (He.fAd K (x, none)) fd) (g : mg x = some (.ref (He.ga K x))) (S : FnScope N ps (defScope st)) (hb : BindsH x x st ps) (len : ∀ vs H Q E, sp vs H Q E → vs.length = ps.length)
    (hbody : BodyH P w K mg base x st N k (He.fAd K (x, none)) sp) : Ca P w K mg base (k + 1) x sp := by
  obtain ⟨fd, F⟩ := F
  exact ⟨_, fd, ps, fn_d F S len hbody, g, F.kp, F.bindsN hb⟩
theorem me_of {C : Str} (F : ∃ fd, FunD K m q (defArgs st) (defBody st) (defScope st) [] [] (He.fAd K (C, some m)) fd) (c : Cls K (He.ga K C)) (g : Meth K (He.ga K C) m (He.ma K (He.ga K C) m)) (S : FnScope N ps (defScope st)) (hb : BindsH m q st ps) (len : ∀ vs H Q E, sp vs H Q E → vs.length = ps.length)
    (hbody : BodyH P w K mg base q st N k (He.fAd K (C, some m)) sp) : Me P w K mg base (k + 1) (He.ga K C) m sp := by
  obtain ⟨fd, F⟩ := F
  exact ⟨_, fd, ps, c, g, fn_d F S len hbody, F.bindsN hb⟩
theorem ma_of {C : Str} (F : ∃ fd, FunD K "__init__" q (defArgs st) (defBody st) (defScope st) [] [] (He.fAd K (C, some "__init__")) fd) (g : mg C = some (.ref (He.ga K C))) (mk : Mk K (He.ga K C) (He.ma K (He.ga K C) "__init__")) (S : FnScope N ps (defScope st)) (hb : BindsH "__init__" q st ps) (len : ∀ vs H Q E, sp vs H Q E → vs.length = ps.length)
    (hbody : BodyH P w K mg base q st N k (He.fAd K (C, some "__init__")) sp) : Ma P w K mg base (k + 1) C (He.ga K C) sp := by
  obtain ⟨fd, F⟩ := F
  exact ⟨_, fd, ps, mk, fn_d F S len hbody, g, F.bindsN hb⟩
theorem Ca.mono {j : Nat} (c : Ca P w K mg base j x sp) (h : j ≤ k) : Ca P w K mg base k x sp := by
  obtain ⟨f, fd, ps, F, r⟩ := c.ex
  exact ⟨f, fd, ps, F.mono h, r⟩
end
section
variable {X : Cx} {k j : Nat} {x m : Str} {sp : Sp} {C : Addr} {p pos apos : Pos} {e o : Expr} {es : List Expr} {t : TA} {ta : TE}
theorem pe_ca (c : Ca X.prog X.w X.K X.mg X.base k x sp) (hr : Room j X.A) (ha : PA X (e :: es) t) (hk : k ≤ j := by decide) (hg : Gl X x := by rfl)
    (hdb : (x == ("__debug__" : Str)) = false := by decide) (he : starEach (e :: es) X.env = (false, eval e X.env) :: starEach es X.env := by rfl) (hpl : (backTo pos (starEach es X.env)).any (·.1) = false := by rfl) :
    PE X (.Call (.Name x p) (e :: es) [] pos) (tCall sp [] E0 t) := by
  obtain ⟨f, fd, ps, F, hm, kp, b⟩ := c.ex
  exact pe_call F (hr.mono hk) hg hm kp b .nil pass0 ha hdb he hpl
theorem pe_ma (c : Ma X.prog X.w X.K X.mg X.base k x C sp) (hr : Room j X.A) (ha : PA X (e :: es) t) (hk : k + 1 ≤ j := by decide) (hg : Gl X x := by rfl)
    (hdb : (x == ("__debug__" : Str)) = false := by decide) (he : starEach (e :: es) X.env = (false, eval e X.env) :: starEach es X.env := by rfl) (hpl : (backTo pos (starEach es X.env)).any (·.1) = false := by rfl) :
    PE X (.Call (.Name x p) (e :: es) [] pos) (tMake C sp [] E0 t) := by
  obtain ⟨f, fd, ps, M, F, hm, b⟩ := c.ex
  exact pe_make M F (hr.mono hk) hg hm b .nil pass0 ha hdb he hpl
theorem pe_me0 {pl : Sem Bool} (c : Me X.prog X.w X.K X.mg X.base k C m sp) (hr : Room j X.A) (he : PE X o ta) (hk : k ≤ j := by decide)
    (ht : eval (.Call (.Attribute o m apos) [] [] pos) X.env = (do
      let ov ← eval o X.env
      standAt apos.atName
      let (f, first) ← holding [ov] (getMethod ov m pl)
      callWith pos f first (backTo pos (starEach [] X.env)) (backToKw pos (keywordEach [] X.env))) := by rfl) :
    PE X (.Call (.Attribute o m apos) [] [] pos) (tMeth C m sp [] E0 ta tNil) := by
  obtain ⟨f, fd, ps, hc, hm, F, b⟩ := c.ex
  exact pe_meth0 (pl := pl) he hc hm F (hr.mono hk) b .nil pass0 ht
theorem pe_me {pl : Sem Bool} (c : Me X.prog X.w X.K X.mg X.base k C m sp) (hr : Room j X.A) (he : PE X o ta) (ha : PA X (e :: es) t) (hk : k ≤ j := by decide)
    (hst : starEach (e :: es) X.env = (false, eval e X.env) :: starEach es X.env := by rfl) (hpl : (backTo pos (starEach es X.env)).any (·.1) = false := by rfl)
    (ht : eval (.Call (.Attribute o m apos) (e :: es) [] pos) X.env = (do
      let ov ← eval o X.env
      standAt apos.atName
      let (f, first) ← holding [ov] (getMethod ov m pl)
      callWith pos f first (backTo pos (starEach (e :: es) X.env)) (backToKw pos (keywordEach [] X.env))) := by rfl) :
    PE X (.Call (.Attribute o m apos) (e :: es) [] pos) (tMeth C m sp [] E0 ta t) := by
  obtain ⟨f, fd, ps, hc, hm, F, b⟩ := c.ex
  exact pe_meth (pl := pl) he hc hm F (hr.mono hk) b .nil pass0 ha hst hpl ht
/-- isinstance(a, b) -/
theorem pe_isi {a b : Expr} {ta tb : TE} (h : X.mg "isinstance" = none) (ha : PE X a ta) (hb : PE X b tb) (hg : Gl X "isinstance" := by rfl)
    (he : starEach [a, b] X.env = (false, eval a X.env) :: starEach [b] X.env := by rfl) (hpl : (backTo pos (starEach [b] X.env)).any (·.1) = false := by rfl)
    (he2 : starEach [b] X.env = (false, eval b X.env) :: starEach [] X.env := by rfl) :
    PE X (.Call (.Name "isinstance" p) [a, b] [] pos) (tCB (rIsi X.K) (tCons ta (tCons tb tNil))) :=
  pe_callB call_isi hg h boot_isinstance (pa_cons ha (pa_cons hb pa_nil he2) he) (he := he) (hpl := hpl)
/-- a built-in class as a value -/
theorem pe_ty {n : String} {x : Str} (h : X.mg x = none) (hv : bootBuiltins x = some (.type n)) (hg : Gl X x := by rfl) (hn : x ≠ "__name__" := by decide) (hd : (x == ("__debug__" : Str)) = false := by decide) : PE X (.Name x pos) (tC (.ty n)) := pe_bltn hg h hv rfl hn hd
theorem pe_gi {n : Int} {x : Str} (h : ∃ u, X.mg x = some u ∧ RelV (.int n) u) (hg : Gl X x := by rfl) (hd : (x == ("__debug__" : Str)) = false := by decide) : PE X (.Name x pos) (tC (.int n)) := by
  obtain ⟨u, hm, r⟩ := h
  exact pe_glob hg hm r hd
theorem pe_gr {x : Str} {a : Addr} (h : X.mg x = some (.ref a)) (hg : Gl X x := by rfl) (hd : (x == ("__debug__" : Str)) = false := by decide) : PE X (.Name x pos) (tC (.ref a)) := pe_glob hg h rfl hd
end
section
variable {X : Cx} {i j k : Nat} {x y z : Str} {p1 p2 p3 pos : Pos} {n : Nat}
/-- a, b as a target -/
theorem pg_two (K : PySem.W.Frag) (i j : Nat) (hK : X.K = K) (hc : X.calm = true) (nd : X.N.Nodup) (hi : X.N[i]? = some x) (hj : X.N[j]? = some y) (hx : Loc X.env.scope x) (hy : Loc X.env.scope y)
    (fx : X.fn x = true ∨ X.env.scope.names.lookup x = some .local) (fy : X.fn y = true ∨ X.env.scope.names.lookup y = some .local) :
    PG X (.Tuple [.Name x p1, .Name y p2] n pos) (gTup K 2 (gCons (gName i) (gCons (gName j) gNil))) := hK ▸
  pg_tup hc (pgs_cons (pg_name nd hi hx fx) (pgs_cons (pg_name nd hj hy fy) pgs_nil))
/-- a, b, c as a target -/
theorem pg_three (K : PySem.W.Frag) (i j k : Nat) (hK : X.K = K) (hc : X.calm = true) (nd : X.N.Nodup) (hi : X.N[i]? = some x) (hj : X.N[j]? = some y) (hk : X.N[k]? = some z) (hx : Loc X.env.scope x) (hy : Loc X.env.scope y) (hz : Loc X.env.scope z)
    (fx : X.fn x = true ∨ X.env.scope.names.lookup x = some .local) (fy : X.fn y = true ∨ X.env.scope.names.lookup y = some .local) (fz : X.fn z = true ∨ X.env.scope.names.lookup z = some .local) :
    PG X (.Tuple [.Name x p1, .Name y p2, .Name z p3] n pos) (gTup K 3 (gCons (gName i) (gCons (gName j) (gCons (gName k) gNil)))) := hK ▸
  pg_tup hc (pgs_cons (pg_name nd hi hx fx) (pgs_cons (pg_name nd hj hy fy) (pgs_cons (pg_name nd hk hz fz) pgs_nil)))
end
theorem boot_int : bootBuiltins "int" = some (.type "int") := by decide +kernel
theorem boot_bool : bootBuiltins "bool" = some (.type "bool") := by decide +kernel
theorem boot_str : bootBuiltins "str" = some (.type "str") := by decide +kernel
theorem boot_list : bootBuiltins "list" = some (.type "list") := by decide +kernel
theorem boot_tuple : bootBuiltins "tuple" = some (.type "tuple") := by decide +kernel
theorem boot_abs : bootBuiltins "abs" = some (.builtin "abs") := by decide +kernel
theorem boot_max : bootBuiltins "max" = some (.builtin "max") := by decide +kernel
theorem boot_min : bootBuiltins "min" = some (.builtin "min") := by decide +kernel
theorem boot_set : bootBuiltins "set" = some (.type "set") := by decide +kernel
/-! ### kinds of values -/
/-- the kinds that the program asks for -/
inductive Kd where
  | non | bool | int | str | list | tuple | dict | obj
  deriving DecidableEq
def Kd.name : Kd → String
  | .non => "NoneType" | .bool => "bool" | .int => "int" | .str => "str" | .list => "list" | .tuple => "tuple" | .dict => "dict" | .obj => "object"
/-- isinstance's answer -/
def Kd.is (k c : Kd) : Bool := decide (k = c) || (decide (k = .bool) && decide (c = .int))
theorem kd_kit {K : PySem.W.Frag} (k c : Kd) (h : k ≠ .obj) (h2 : c ≠ .obj) : PySem.W.kitOne K (.type k.name) (.type c.name) = some (k.is c) := by
  refine kit_ty ?_
  cases k <;> cases c <;> first | decide +kernel | exact absurd rfl h | exact absurd rfl h2
/-- v is of the kind k -/
inductive Of (K : PySem.W.Frag) (H : Hp) : V → Kd → Prop where
  | non : Of K H .non .non
  | bl (b : Bool) : Of K H (.bl b) .bool
  | int (i : Int) : Of K H (.int i) .int
  | str (x : Str) : Of K H (.str x) .str
  | list {a : Addr} {xs : List V} (h : SqL K H a xs) : Of K H (.ref a) .list
  | tuple {a : Addr} {xs : List V} (h : SqT K H a xs) : Of K H (.ref a) .tuple
  | dict {a : Addr} (h : TyX K H (.ref a) (.type "dict")) : Of K H (.ref a) .dict
  | obj {a C : Addr} (h : TyX K H (.ref a) (.ref C)) (hk : ∀ c : Kd, c ≠ .obj → PySem.W.kitOne K (.ref C) (.type c.name) = some false) : Of K H (.ref a) .obj
theorem ty_sqL {K : PySem.W.Frag} {H : Hp} {a : Addr} {xs : List V} (h : SqL K H a xs) : TyX K H (.ref a) (.type "list") := by
  rcases h with (h | ⟨o, h⟩) | ⟨o, its, n, h1, h2, _⟩
  · exact .base (.lst h)
  · exact .base (.frz h)
  · exact .kList h1 h2
theorem ty_sqT {K : PySem.W.Frag} {H : Hp} {a : Addr} {xs : List V} (h : SqT K H a xs) : TyX K H (.ref a) (.type "tuple") := by
  rcases h with (h | ⟨o, h⟩) | ⟨o, its, n, h1, h2, _⟩
  · exact .base (.tup h)
  · exact .fTuple h
  · exact .kTuple h1 h2
/-- what isinstance(v, c) comes to -/
theorem isi_k {K : PySem.W.Frag} {H : Hp} {v : V} {k : Kd} (c : Kd) {Q : VK} (h : Of K H v k) (q : Q (.bl (k.is c)) H) (hc : c ≠ .obj := by decide) : rIsi K [v, .ty c.name] H Q := by
  cases h with
  | non => exact ⟨_, _, _, _, _, rfl, .ty _, .base .non, kd_kit .non c (by decide) hc, q⟩
  | bl b => exact ⟨_, _, _, _, _, rfl, .ty _, .base (.bl b), kd_kit .bool c (by decide) hc, q⟩
  | int b => exact ⟨_, _, _, _, _, rfl, .ty _, .base (.int b), kd_kit .int c (by decide) hc, q⟩
  | str b => exact ⟨_, _, _, _, _, rfl, .ty _, .base (.str b), kd_kit .str c (by decide) hc, q⟩
  | list b => exact ⟨_, _, _, _, _, rfl, .ty _, ty_sqL b, kd_kit .list c (by decide) hc, q⟩
  | tuple b => exact ⟨_, _, _, _, _, rfl, .ty _, ty_sqT b, kd_kit .tuple c (by decide) hc, q⟩
  | dict b => exact ⟨_, _, _, _, _, rfl, .ty _, b, kd_kit .dict c (by decide) hc, q⟩
  | obj b hk => 
    have e : Kd.is .obj c = false := by cases c <;> first | rfl | exact absurd rfl hc
    rw [e] at q
    exact ⟨_, _, _, _, _, rfl, .ty _, b, hk c hc, q⟩
theorem pe_imp {X : Cx} {e : Expr} {t t' : TE} (h : PE X e t) (i : ∀ σ H Q, t' σ H Q → t σ H Q) : PE X e t' := ⟨fun pins s σ H Q I q => h.run pins s σ H Q I (i σ H Q q)⟩
theorem callR_imp {X : Cx} {f : Value} {r r' : List V → Hp → VK → Prop} (h : CallR X f r) (i : ∀ vs H Q, r' vs H Q → r vs H Q) : CallR X f r' := fun pins s σ H xs us Q I rv q => h pins s σ H xs us Q I rv (i xs H Q q)
/-- isinstance(v, c): its kind -/
def rIs (K : PySem.W.Frag) (c : Kd) : List V → Hp → VK → Prop := fun xs H Q => ∃ (v : V) (k : Kd), xs = [v, .ty c.name] ∧ Of K H v k ∧ Q (.bl (k.is c)) H
theorem call_is {X : Cx} (c : Kd) (hc : c ≠ .obj := by decide) : CallR X (.builtin "isinstance") (rIs X.K c) := callR_imp call_isi fun vs H Q ⟨v, k, e, h, q⟩ => by
  subst e
  exact isi_k c h q hc
section
variable {X : Cx} {a : Expr} {ta : TE} {x : Str} {p p2 pos : Pos}
theorem pe_is (c : Kd) (h : X.mg "isinstance" = none) (ha : PE X a ta) (hm : X.mg x = none) (hv : bootBuiltins x = some (.type c.name)) (hc : c ≠ .obj := by decide) (hg2 : Gl X x := by rfl) (hn : x ≠ "__name__" := by decide) (hd : (x == ("__debug__" : Str)) = false := by decide) (hg : Gl X "isinstance" := by rfl)
    (he : starEach [a, .Name x p2] X.env = (false, eval a X.env) :: starEach [.Name x p2] X.env := by rfl) (hpl : (backTo pos (starEach [.Name x p2] X.env)).any (·.1) = false := by rfl)
    (he2 : starEach [.Name x p2] X.env = (false, eval (.Name x p2) X.env) :: starEach [] X.env := by rfl) :
    PE X (.Call (.Name "isinstance" p) [a, .Name x p2] [] pos) (tCB (rIs X.K c) (tCons ta (tCons (tC (.ty c.name)) tNil))) :=
  pe_callB (call_is c hc) hg h boot_isinstance (pa_cons ha (pa_cons (pe_ty (pos := p2) hm hv hg2 hn hd) pa_nil he2) he) (he := he) (hpl := hpl)
end
/-! ### data -/
theorem same_t {K : PySem.W.Frag} {H H' : Hp} {a : Addr} {xs : List V} (e : Same H H') (h : SqT K H a xs) : SqT K H' a xs := by
  rcases h with (h | ⟨o, h⟩) | h
  · exact .inl (.inl (e _ _ h))
  · exact .inl (.inr ⟨o, e _ _ h⟩)
  · exact .inr h
theorem same_new {H : Hp} {p : Addr} {o : HO} (h : H p = none) : Same H (upd H p o) := fun a u e => by
  rw [upd_ne (ne_of_none e h)]
  exact e
mutual
theorem dp_same {K : PySem.W.Frag} {H H' : Hp} (e : Same H H') : ∀ {v : V} {d : PyData}, Dp K H v d → Dp K H' v d
  | _, _, .non => .non
  | _, _, .bl b => .bl b
  | _, _, .int i => .int i
  | _, _, .str x => .str x
  | _, _, .lst h r => .lst (e.seq h) (dps_same e r)
  | _, _, .tup h r => .tup (same_t e h) (dps_same e r)
theorem dps_same {K : PySem.W.Frag} {H H' : Hp} (e : Same H H') : ∀ {vs : List V} {ds : List PyData}, DpAll K H vs ds → DpAll K H' vs ds
  | _, _, .nil => .nil
  | _, _, .cons h r => .cons (dp_same e h) (dps_same e r)
end
def kdOf : PyData → Kd
  | .bool _ => .bool
  | .int _ => .int
  | .str _ => .str
  | .list _ => .list
  | .tuple _ => .tuple
  | _ => .non
theorem dp_kd {K : PySem.W.Frag} {H : Hp} {v : V} {d : PyData} (h : Dp K H v d) : Of K H v (kdOf d) := by
  cases h with
  | non => exact .non
  | bl b => exact .bl b
  | int i => exact .int i
  | str x => exact .str x
  | lst h _ => exact .list h
  | tup h _ => exact .tuple h
end M

set_option Elab.async false
set_option linter.all false
set_option maxRecDepth 100000
set_option maxHeartbeats 2000000
namespace M
open PySem PySem.Spec PyProof.Rows L2

section
variable {P : Program} {w : World} {K : PySem.W.Frag} {mg : Str → Option Value} {base : Heap}
/-! ### pastless.checks -/
def spInteger (K : PySem.W.Frag) : Sp := fun vs H Q _ => ∃ (v : V) (k : Kd), vs = [v] ∧ Of K H v k ∧ Q (.bl (decide (k = .int))) H
theorem ca_is_integer (T : Txt w K mg) : Ca P w K mg base 1 "is_integer" (spInteger K) := by
  refine ca_of (N := ["value"]) (ps := ["value"]) T.f_is_integer T.g_is_integer ⟨rfl, rfl, rfl, by decide +kernel, rfl, by decide +kernel, by decide +kernel⟩ (fun _ _ _ _ _ _ us hl => match us, hl with | [_], _ => rfl)
    (fun vs H Q E h => by obtain ⟨v, k, rfl, hk, q⟩ := h; rfl) (fun cdv A outer s H vs Q E hr h => ?_)
  have nd : (["value"] : List Str).Nodup := by decide +kernel
  obtain ⟨v, k, rfl, hk, q⟩ := h
  refine ⟨_, pss_one (ps_ret (pe_and (pe_is .int T.b_isinstance (pv 0) T.b_int boot_int) (pe_one (pe_not (pe_is .bool T.b_isinstance (pv 0) T.b_bool boot_bool))))), ?_⟩
  refine ⟨_, rfl, _, _, rfl, hk, _, rfl, ?_⟩
  cases k <;> first | exact iteF q | exact iteT ⟨_, rfl, _, _, rfl, hk, _, rfl, q⟩
def spWithin : Sp := fun vs H Q _ => ∃ (i lo hi : Int), vs = [.int i, .int lo, .int hi] ∧ Q (.bl (decide (lo ≤ i) && decide (i ≤ hi))) H
theorem ca_is_within (T : Txt w K mg) : Ca P w K mg base 2 "is_within" (spWithin) := by
  refine ca_of (N := ["value", "least", "greatest"]) (ps := ["value", "least", "greatest"]) T.f_is_within T.g_is_within ⟨rfl, rfl, rfl, by decide +kernel, rfl, by decide +kernel, by decide +kernel⟩ (fun _ _ _ _ _ _ us hl => match us, hl with | [_, _, _], _ => rfl)
    (fun vs H Q E h => by obtain ⟨i, lo, hi, rfl, q⟩ := h; rfl) (fun cdv A outer s H vs Q E hr h => ?_)
  have nd : (["value", "least", "greatest"] : List Str).Nodup := by decide +kernel
  obtain ⟨i, lo, hi, rfl, q⟩ := h
  refine ⟨_, pss_one (ps_ret (pe_and (pe_ca (ca_is_integer T) hr (pa_cons (pv 0) pa_nil)) (pe_one (pe_chain op_le op_le (pv 1) (pv 0) (pv 2))))), ?_⟩
  refine ⟨_, rfl, _, _, rfl, .int i, _, rfl, iteT ?_⟩
  refine ⟨_, rfl, _, rfl, _, _, rfl, rfl, _, rfl, ?_⟩
  by_cases c : lo ≤ i
  · rw [decide_eq_true c] at q ⊢
    exact iteT ⟨_, rfl, _, _, rfl, rfl, q⟩
  · rw [decide_eq_false c] at q ⊢
    exact iteF q
/-- within its bounds -/
theorem within_t {i lo hi : Int} (h : lo ≤ i ∧ i ≤ hi) : (decide (lo ≤ i) && decide (i ≤ hi)) = true := by simp [h.1, h.2]
def spTuple (K : PySem.W.Frag) : Sp := fun vs H Q _ => ∃ (a : Addr) (xs : List V) (n : Int), vs = [.ref a, .int n] ∧ SqT K H a xs ∧ Q (.bl (decide ((xs.length : Int) = n))) H
theorem ca_is_tuple (T : Txt w K mg) : Ca P w K mg base 1 "is_tuple" (spTuple K) := by
  refine ca_of (N := ["value", "length"]) (ps := ["value", "length"]) T.f_is_tuple T.g_is_tuple ⟨rfl, rfl, rfl, by decide +kernel, rfl, by decide +kernel, by decide +kernel⟩ (fun _ _ _ _ _ _ us hl => match us, hl with | [_, _], _ => rfl)
    (fun vs H Q E h => by obtain ⟨a, xs, n, rfl, hs, q⟩ := h; rfl) (fun cdv A outer s H vs Q E hr h => ?_)
  have nd : (["value", "length"] : List Str).Nodup := by decide +kernel
  obtain ⟨a, xs, n, rfl, hs, q⟩ := h
  refine ⟨_, pss_one (ps_ret (pe_and (pe_is .tuple T.b_isinstance (pv 0) T.b_tuple boot_tuple) (pe_one (pe_cmpR op_eq (pe_callB call_len_seq (by rfl) T.b_len PySem.boot_len (pa_cons (pv 0) pa_nil)) (pv 1) (nomark _))))), ?_⟩
  refine ⟨_, rfl, _, _, rfl, .tuple hs, _, rfl, iteT ?_⟩
  refine ⟨_, rfl, _, _, rfl, .inr hs, _, rfl, rfl, ?_⟩
  rw [show (decide (V.int (xs.length : Int) = V.int n)) = decide ((xs.length : Int) = n) from by simp]
  exact q
/-- hs is a state of cells of the sizes ss -/
def StateOk (ss hs : List Int) : Prop := ss.length = hs.length ∧ ∀ (i : Nat) (s h : Int), ss[i]? = some s → hs[i]? = some h → 0 ≤ h ∧ h < s
theorem get_map {l : List Int} {i : Nat} {x : V} (h : (l.map V.int)[i]? = some x) : ∃ z, l[i]? = some z ∧ x = .int z := by
  rw [List.getElem?_map] at h
  cases e : l[i]? with
  | none => rw [e] at h; cases h
  | some z => rw [e] at h; exact ⟨z, rfl, (Option.some.inj h).symm⟩
def spState (K : PySem.W.Frag) : Sp := fun vs H Q _ => ∃ (a b : Addr) (ss hs : List Int), vs = [.ref a, .ref b] ∧ SqT K H a (ss.map .int) ∧ SqT K H b (hs.map .int) ∧ StateOk ss hs ∧ ∀ H', Same H H' → Q (.bl true) H'
end

end M

set_option Elab.async false
set_option linter.all false
set_option maxRecDepth 100000
set_option maxHeartbeats 2000000
namespace M
open PySem PySem.Spec PyProof.Rows L2

/-! ### what bodies, codes and vaults are -/
inductive Exp where
  | num (n : Int) | reg (r : Str) | op (s : Str) (a b : Exp)
def Exp.d : Exp → PyData
  | .num n => .int n
  | .reg r => .str r
  | .op s a b => .tuple [.str s, a.d, b.d]
inductive Row where
  | read (r : Str) (c : Int) | set (c : Int) (e : Exp) | swap (r : Str) (c : Int) (e f : Exp) | keep (r : Str) (e : Exp) | coin (r : Str)
  | iff (e : Exp) (a b : List Row) | times (e : Exp) (a : List Row) | ans (e : Exp)
mutual
def Row.d : Row → PyData
  | .read r c => .tuple [.str "read", .str r, .int c]
  | .set c e => .tuple [.str "set", .int c, e.d]
  | .swap r c e f => .tuple [.str "swap", .str r, .int c, e.d, f.d]
  | .keep r e => .tuple [.str "keep", .str r, e.d]
  | .coin r => .tuple [.str "coin", .str r]
  | .iff e a b => .tuple [.str "if", e.d, .tuple (rowsD a), .tuple (rowsD b)]
  | .times e a => .tuple [.str "times", e.d, .tuple (rowsD a)]
  | .ans e => .tuple [.str "answer", e.d]
def rowsD : List Row → List PyData
  | [] => []
  | r :: rs => r.d :: rowsD rs
end
/-- a row of a code -/
inductive FR where
  | row (r : Row) | unless (e : Exp) (p : Nat) | on (p : Nat) | rounds (e : Exp) | round (p : Nat) | hole
def FR.d : FR → PyData
  | .row r => r.d
  | .unless e p => .tuple [.str "unless", e.d, .int p]
  | .on p => .tuple [.str "on", .int p]
  | .rounds e => .tuple [.str "rounds", e.d]
  | .round p => .tuple [.str "round", .int p]
  | .hole => .tuple []
mutual
def putRow : Row → List FR → List FR
  | .iff e a b, c =>
    let c1 := putRows a (c ++ [FR.hole])
    let c2 := putRows b ((c1 ++ [FR.hole]).set c.length (FR.unless e (c1.length + 1)))
    c2.set c1.length (FR.on c2.length)
  | .times e a, c =>
    let c1 := putRows a (c ++ [FR.rounds e, FR.hole])
    (c1 ++ [FR.on (c.length + 1)]).set (c.length + 1) (FR.round (c1.length + 1))
  | .read r k, c => c ++ [.row (.read r k)]
  | .set k e, c => c ++ [.row (.set k e)]
  | .swap r k e f, c => c ++ [.row (.swap r k e f)]
  | .keep r e, c => c ++ [.row (.keep r e)]
  | .coin r, c => c ++ [.row (.coin r)]
  | .ans e, c => c ++ [.row (.ans e)]
def putRows : List Row → List FR → List FR
  | [], c => c
  | r :: rs, c => putRows rs (putRow r c)
end
def codeOf (rows : List Row) : List FR := putRows rows [] ++ [.row (.ans (.num 0))]
structure Vlt where
  cells : List (Int × Int)
  deeds : List (Str × Int × List Row)
def cellD (c : Int × Int) : PyData := .tuple [.int c.1, .int c.2]
def deedD (d : Str × Int × List Row) : PyData := .tuple [.str d.1, .int d.2.1, .tuple (rowsD d.2.2)]
def Vlt.calls (v : Vlt) : List (Str × Int) := v.deeds.flatMap fun d => (List.range d.2.1.toNat).map fun (j : Nat) => (d.1, (j : Int))
def codeD (rows : List Row) : PyData := .tuple ((codeOf rows).map FR.d)
/-- what the attributes of a vault hold -/
def vflds (a d c : Addr) (b : Bool) : List (Str × V) := putF "_coins" (.bl b) (putF "_codes" (.ref c) (putF "_deeds" (.ref d) (putF "_cells" (.ref a) [])))
theorem v1 : ¬ (("_cells" : Str) = "_deeds") := by decide +kernel
theorem v2 : ¬ (("_cells" : Str) = "_codes") := by decide +kernel
theorem v3 : ¬ (("_cells" : Str) = "_coins") := by decide +kernel
theorem v4 : ¬ (("_deeds" : Str) = "_codes") := by decide +kernel
theorem v5 : ¬ (("_deeds" : Str) = "_coins") := by decide +kernel
theorem v6 : ¬ (("_codes" : Str) = "_coins") := by decide +kernel
theorem vf_cells (a d c : Addr) (b : Bool) : (vflds a d c b).lookup ("_cells" : Str) = some (.ref a) := by
  unfold vflds
  rw [lookup_putF, if_neg v3, lookup_putF, if_neg v2, lookup_putF, if_neg v1, lookup_putF, if_pos rfl]
theorem vf_deeds (a d c : Addr) (b : Bool) : (vflds a d c b).lookup ("_deeds" : Str) = some (.ref d) := by
  unfold vflds
  rw [lookup_putF, if_neg v5, lookup_putF, if_neg v4, lookup_putF, if_pos rfl]
theorem vf_codes (a d c : Addr) (b : Bool) : (vflds a d c b).lookup ("_codes" : Str) = some (.ref c) := by
  unfold vflds
  rw [lookup_putF, if_neg v6, lookup_putF, if_pos rfl]
theorem vf_coins (a d c : Addr) (b : Bool) : (vflds a d c b).lookup ("_coins" : Str) = some (.bl b) := by
  unfold vflds
  rw [lookup_putF, if_pos rfl]
theorem vf_no (a d c : Addr) (b : Bool) {m : Str} (h1 : ¬ m = "_cells") (h2 : ¬ m = "_deeds") (h3 : ¬ m = "_codes") (h4 : ¬ m = "_coins") : (vflds a d c b).lookup m = none := by
  unfold vflds
  rw [lookup_putF, if_neg h4, lookup_putF, if_neg h3, lookup_putF, if_neg h2, lookup_putF, if_neg h1]
  rfl
/-- the codes by the names of the deeds -/
def CodesR (K : PySem.W.Frag) (H : Hp) : List (Key × V) → List (Str × Int × List Row) → Prop
  | [], [] => True
  | (k, v) :: r, d :: ds => k = Sum.inr d.1 ∧ Dp K H v (codeD d.2.2) ∧ CodesR K H r ds
  | _, _ => False
/-- a vault stands at p -/
structure VaultAt (K : PySem.W.Frag) (H : Hp) (p : Addr) (v : Vlt) : Prop where
  ob : ∃ (dx a d c : Addr) (b : Bool) (kvs : List (Key × V)), H p = some (.ins (He.ga K "Vault") dx (vflds a d c b)) ∧ Dp K H (.ref a) (.tuple (v.cells.map cellD)) ∧ Dp K H (.ref d) (.tuple (v.deeds.map deedD)) ∧ H c = some (.dK kvs) ∧ CodesR K H kvs v.deeds
/-- the bounds of a vault -/
structure VOk (v : Vlt) : Prop where
  c1 : v.cells.length ≤ 6
  d1 : v.deeds.length ≤ 8
  ch : ∀ d ∈ v.deeds, 1 ≤ d.2.1 ∧ d.2.1 ≤ 9
  nd : (v.deeds.map (·.1)).Nodup
theorem codes_same {K : PySem.W.Frag} {H H' : Hp} (e : Same H H') : ∀ {kvs : List (Key × V)} {ds : List (Str × Int × List Row)}, CodesR K H kvs ds → CodesR K H' kvs ds
  | [], [], _ => trivial
  | (_, _) :: _, _ :: _, h => ⟨h.1, dp_same e h.2.1, codes_same e h.2.2⟩
  | [], _ :: _, h => h.elim
  | _ :: _, [], h => h.elim
theorem VaultAt.same {K : PySem.W.Frag} {H H' : Hp} {p : Addr} {v : Vlt} (e : Same H H') (h : VaultAt K H p v) : VaultAt K H' p v := by
  obtain ⟨dx, a, d, c, b, kvs, h1, h2, h3, h4, h5⟩ := h.ob
  exact ⟨dx, a, d, c, b, kvs, e _ _ h1, dp_same e h2, dp_same e h3, e _ _ h4, codes_same e h5⟩
/-! ### data taken apart -/
section
variable {K : PySem.W.Frag} {H : Hp}
theorem dp_tup {v : V} {ds : List PyData} (h : Dp K H v (.tuple ds)) : ∃ (a : Addr) (xs : List V), v = .ref a ∧ SqT K H a xs ∧ DpAll K H xs ds := by
  cases h with
  | tup h r => exact ⟨_, _, rfl, h, r⟩
theorem dp_lst {v : V} {ds : List PyData} (h : Dp K H v (.list ds)) : ∃ (a : Addr) (xs : List V), v = .ref a ∧ SqL K H a xs ∧ DpAll K H xs ds := by
  cases h with
  | lst h r => exact ⟨_, _, rfl, h, r⟩
theorem dp_int {v : V} {i : Int} (h : Dp K H v (.int i)) : v = .int i := by
  cases h
  rfl
theorem dp_str {v : V} {i : Str} (h : Dp K H v (.str i)) : v = .str i := by
  cases h
  rfl
theorem dps_len : ∀ {vs : List V} {ds : List PyData}, DpAll K H vs ds → vs.length = ds.length
  | _, _, .nil => rfl
  | _, _, .cons _ r => congrArg (· + 1) (dps_len r)
theorem dps_get : ∀ {vs : List V} {ds : List PyData} {i : Nat} {v : V}, DpAll K H vs ds → vs[i]? = some v → ∃ d, ds[i]? = some d ∧ Dp K H v d
  | _, _, i, v, .nil, h => by simp at h
  | _, _, 0, v, .cons h r, e => by
    cases (Option.some.inj e)
    exact ⟨_, rfl, h⟩
  | _, _, i + 1, v, .cons h r, e => dps_get (i := i) r e
theorem dps_at : ∀ {vs : List V} {ds : List PyData} {i : Nat} {d : PyData}, DpAll K H vs ds → ds[i]? = some d → ∃ v, vs[i]? = some v ∧ Dp K H v d
  | _, _, i, v, .nil, h => by simp at h
  | _, _, 0, v, .cons h r, e => by
    cases (Option.some.inj e)
    exact ⟨_, rfl, h⟩
  | _, _, i + 1, v, .cons h r, e => dps_at (i := i) r e
theorem dps_app : ∀ {vs ws : List V} {ds es : List PyData}, DpAll K H vs ds → DpAll K H ws es → DpAll K H (vs ++ ws) (ds ++ es)
  | _, _, _, _, .nil, r => r
  | _, _, _, _, .cons h t, r => .cons h (dps_app t r)
theorem dps_set : ∀ {vs : List V} {ds : List PyData} {i : Nat} {v : V} {d : PyData}, DpAll K H vs ds → Dp K H v d → DpAll K H (vs.set i v) (ds.set i d)
  | _, _, _, _, _, .nil, _ => .nil
  | _, _, 0, _, _, .cons _ r, z => .cons z r
  | _, _, i + 1, _, _, .cons h r, z => .cons h (dps_set (i := i) r z)
theorem dp2 {v : V} {d e : PyData} (h : Dp K H v (.tuple [d, e])) : ∃ (a : Addr) (x y : V), v = .ref a ∧ SqT K H a [x, y] ∧ Dp K H x d ∧ Dp K H y e := by
  obtain ⟨a, xs, rfl, h, r⟩ := dp_tup h
  cases r with | cons h1 r => cases r with | cons h2 r => cases r with | nil => exact ⟨a, _, _, rfl, h, h1, h2⟩
theorem dp3 {v : V} {d e f : PyData} (h : Dp K H v (.tuple [d, e, f])) : ∃ (a : Addr) (x y z : V), v = .ref a ∧ SqT K H a [x, y, z] ∧ Dp K H x d ∧ Dp K H y e ∧ Dp K H z f := by
  obtain ⟨a, xs, rfl, h, r⟩ := dp_tup h
  cases r with | cons h1 r => cases r with | cons h2 r => cases r with | cons h3 r => cases r with | nil => exact ⟨a, _, _, _, rfl, h, h1, h2, h3⟩
theorem dps_ints : ∀ {vs : List V} {is : List Int}, DpAll K H vs (is.map PyData.int) → vs = is.map V.int
  | _, [], .nil => rfl
  | _, i :: is, .cons h r => by
    rw [dp_int h, dps_ints r]
    rfl
theorem ints_dps : ∀ {is : List Int}, DpAll K H (is.map V.int) (is.map PyData.int)
  | [] => .nil
  | i :: is => .cons (.int i) ints_dps
end
/-! ### what a list that grows leaves as it was -/
/-- all but what stands at D is as it was -/
def But (D : Addr) (H H' : Hp) : Prop := ∀ b o, b ≠ D → H b = some o → H' b = some o
theorem But.upd {D : Addr} {H : Hp} {o : HO} : But D H (upd H D o) := fun b u hb e => by
  rw [upd_ne hb]
  exact e
theorem same_but {D : Addr} {H H' : Hp} (s : Same H H') : But D H H' := fun b o _ e => s b o e
theorem But.trans {D : Addr} {H H1 H2 : Hp} (s : But D H H1) (t : But D H1 H2) : But D H H2 := fun b o hb e => t b o hb (s b o hb e)
/-- no list within -/
inductive NoL : PyData → Prop where
  | non : NoL .none
  | bool (b : Bool) : NoL (.bool b)
  | int (i : Int) : NoL (.int i)
  | str (x : Str) : NoL (.str x)
  | tup {ds : List PyData} (h : ∀ d ∈ ds, NoL d) : NoL (.tuple ds)
/-- what stands at D may change -/
def Ch (H : Hp) (D : Addr) : Prop := (∀ xs, H D ≠ some (.tup xs)) ∧ ∀ o u, H D ≠ some (.frz o u)
theorem Ch.lst {H : Hp} {D : Addr} {l : List V} (h : H D = some (.lst l)) : Ch H D := ⟨fun _ e => (by rw [h] at e; cases e), fun _ _ e => (by rw [h] at e; cases e)⟩
theorem Ch.dK {H : Hp} {D : Addr} {l : List (Key × V)} (h : H D = some (.dK l)) : Ch H D := ⟨fun _ e => (by rw [h] at e; cases e), fun _ _ e => (by rw [h] at e; cases e)⟩
theorem Ch.ins {H : Hp} {D C dx : Addr} {l : List (Str × V)} (h : H D = some (.ins C dx l)) : Ch H D := ⟨fun _ e => (by rw [h] at e; cases e), fun _ _ e => (by rw [h] at e; cases e)⟩
theorem Ch.new {H : Hp} {D : Addr} (h : H D = none) : Ch H D := ⟨fun _ e => (by rw [h] at e; cases e), fun _ _ e => (by rw [h] at e; cases e)⟩
section
variable {K : PySem.W.Frag} {H H' : Hp} {D : Addr}
theorem sqT_but (hD : Ch H D) (s : But D H H') {a : Addr} {xs : List V} (h : SqT K H a xs) : SqT K H' a xs := by
  rcases h with (h | ⟨o, h⟩) | h
  · exact .inl (.inl (s _ _ (fun e => hD.1 _ (e ▸ h)) h))
  · exact .inl (.inr ⟨o, s _ _ (fun e => hD.2 _ _ (e ▸ h)) h⟩)
  · exact .inr h
mutual
theorem dp_but (hD : Ch H D) (s : But D H H') : ∀ {v : V} {d : PyData}, Dp K H v d → NoL d → Dp K H' v d
  | _, _, .non, _ => .non
  | _, _, .bl b, _ => .bl b
  | _, _, .int i, _ => .int i
  | _, _, .str x, _ => .str x
  | _, _, .lst _ _, n => nomatch n
  | _, _, .tup h r, n => .tup (sqT_but hD s h) (dps_but hD s r (by cases n with | tup h => exact h))
theorem dps_but (hD : Ch H D) (s : But D H H') : ∀ {vs : List V} {ds : List PyData}, DpAll K H vs ds → (∀ d ∈ ds, NoL d) → DpAll K H' vs ds
  | _, _, .nil, _ => .nil
  | _, _, .cons h r, n => .cons (dp_but hD s h (n _ List.mem_cons_self)) (dps_but hD s r fun d hd => n d (List.mem_cons_of_mem _ hd))
end
end
/-! ### comprehensions and loops that leave all that was as it was -/
section
variable {J : It} {n : Nat} {G : Hp → Prop} {Y : Nat → Hp → V → Hp → Prop}
/-- a list comprehension: its i-th item is R i -/
theorem lc_out (w : Walk J n G Y) {g : TG} {te : TE} {vs : List Nat} {σ : L2.St} {H1 : Hp} {D : Addr} {Qd : Hp → Prop} (hD : H1 D = none) (hn : n ≤ 100000) (R : Nat → V → Hp → Prop) (hR : ∀ i y H H', Ch H D → But D H H' → R i y H → R i y H')
    (hG : ∀ H, Same H1 H → G H)
    (hs : ∀ (i : Nat) (x : V) (H H' : Hp) (N : VK) (F : Hp → Prop), i < n → Same H1 H → Y i H x H' → (∀ y H4, Same H H4 → R i y H4 → N y H4) → g x (wipe σ vs) H' fun σ2 H2 => wipe σ2 vs = wipe σ vs ∧ if true = true then te σ2 H2 N else F H2)
    (hd : ∀ H ys, Same H1 H → H D = some (.lst ys) → ys.length = n → (∀ i y, ys[i]? = some y → R i y H) → Qd H) :
    ∃ W : Nat → Nat → Hp → Prop, (∃ m, W 0 m (upd H1 D (.lst []))) ∧ ∀ i m H, W i m H →
      (J.stop i H ∧ Qd H) ∨ (J.go i H ∧ ∃ Nx : Hp → Prop, (∀ H', Nx H' → ∃ m', m' < m ∧ W (i + 1) m' H') ∧ ∀ x H', J.yld i H x H' → g x (wipe σ vs) H' fun σ2 H2 => wipe σ2 vs = wipe σ vs ∧ tYes σ2 H2 fun b H3 =>
        if b = true then te σ2 H3 fun y H4 => ∃ acc, H4 D = some (.lst acc) ∧ acc.length < sizeLine ∧ Nx (upd H4 D (.lst (acc ++ [y]))) else Nx H3) := by
  let Pv : Nat → Hp → Prop := fun i H => ∃ ys, Same H1 H ∧ H D = some (.lst ys) ∧ ys.length = i ∧ ∀ j y, ys[j]? = some y → R j y H
  refine lc_it w Pv ⟨[], same_new hD, upd_same, rfl, fun j y e => by simp at e⟩ (fun i H _ ⟨_, s, _⟩ => hG H s) (fun i x H H' hi ⟨ys, s, eD, el, hr⟩ y => ?_) (fun H ⟨ys, s, eD, el, hr⟩ => hd H ys s eD el hr)
  refine hs i x H H' (fun y H4 => ∃ acc, H4 D = some (.lst acc) ∧ acc.length < sizeLine ∧ Pv (i + 1) (upd H4 D (.lst (acc ++ [y])))) (fun H3 => Pv (i + 1) H3) hi s y fun z H4 s4 rz => ⟨ys, s4 _ _ eD, by rw [sizeLine_eq]; omega, ys ++ [z], fun b o e => ?_, upd_same, by simp [el], fun j u e => ?_⟩
  · rw [upd_ne (ne_of_none e hD)]
    exact s4 b o (s b o e)
  · have bt : But D H (upd H4 D (.lst (ys ++ [z]))) := (same_but s4 (D := D)).trans But.upd
    by_cases hj : j < ys.length
    · rw [List.getElem?_append_left hj] at e
      exact hR j u H _ (.lst eD) bt (hr j u e)
    · rw [List.getElem?_append_right (by omega)] at e
      have e0 : j - ys.length = 0 := by
        cases q : j - ys.length with
        | zero => rfl
        | succ m => rw [q] at e; simp at e
      rw [e0] at e
      cases (Option.some.inj e)
      have ej : j = i := by omega
      subst ej
      exact hR _ _ H4 _ (.lst (s4 _ _ eD)) But.upd rz
end

end M

set_option Elab.async false
set_option linter.all false
set_option maxRecDepth 100000
set_option maxHeartbeats 2000000
namespace M
open PySem PySem.Spec PyProof.Rows L2

theorem map_of {α : Type} {cs : List α} {f : α → V} {ys : List V} (hl : ys.length = cs.length) (h : ∀ (i : Nat) (y : V), ys[i]? = some y → ∃ c, cs[i]? = some c ∧ y = f c) : ys = cs.map f := by
  refine List.ext_getElem? fun i => ?_
  rw [List.getElem?_map]
  cases e : ys[i]? with
  | some y =>
    obtain ⟨c, hc, rfl⟩ := h i y e
    rw [hc]
    rfl
  | none =>
    have q : cs[i]? = none := by
      rw [List.getElem?_eq_none_iff] at e ⊢
      omega
    rw [q]
    rfl
theorem get_mapA {α β : Type} {l : List α} {f : α → β} {i : Nat} {x : β} (h : (l.map f)[i]? = some x) : ∃ z, l[i]? = some z ∧ x = f z := by
  rw [List.getElem?_map] at h
  cases e : l[i]? with
  | none => rw [e] at h; cases h
  | some z => rw [e] at h; exact ⟨z, rfl, (Option.some.inj h).symm⟩
section
variable {P : Program} {w : World} {K : PySem.W.Frag} {mg : Str → Option Value} {base : Heap}
/-! ### pastless.vaults: what a vault tells -/
def spSizes (K : PySem.W.Frag) (f : Int × Int → Int) : Sp := fun vs H Q _ => ∃ (p : Addr) (v : Vlt), vs = [.ref p] ∧ VaultAt K H p v ∧ v.cells.length ≤ 6 ∧ ∀ a H', Same H H' → H' a = some (.tup ((v.cells.map f).map V.int)) → Q (.ref a) H'
theorem me_Vault_first (T : Txt w K mg) : Me P w K mg base 1 (He.ga K "Vault") "first" (spSizes K (·.2)) := by
  refine me_of (N := ["self", "_", "held"]) (ps := ["self"]) T.f_Vault_first T.c_Vault T.m_Vault_first ⟨rfl, rfl, rfl, by decide +kernel, rfl, by decide +kernel, by decide +kernel⟩ (fun _ _ _ _ _ _ us hl => match us, hl with | [_], _ => rfl)
    (fun vs H Q E h => by obtain ⟨p, v, rfl, hv, hl, q⟩ := h; rfl) (fun cdv A outer s H vs Q E hr h => ?_)
  have nd : (["self", "_", "held"] : List Str).Nodup := by decide +kernel
  obtain ⟨p, v, rfl, hv, hl, q⟩ := h
  obtain ⟨dx, a, d, c, b, kvs, h1, h2, h3, h4, h5⟩ := hv.ob
  obtain ⟨a, xs, ea, hx, hxs⟩ := dp_tup h2
  cases ea
  refine ⟨_, pss_one (ps_ret (pe_tupleOf (by rfl) T.b_tuple (pe_lc (own := [("_", 1), ("held", 2)]) (tt := tYes) rfl nd (pi_tup (pe_fld (pv 0) rfl)) (blkOk_by (N := ["self", "_", "held"]) (sc := defScope s_Vault_first) (by decide +kernel))
    (fun _ _ _ _ _ => pg_two K 1 2 rfl rfl nd rfl rfl (.inl rfl) (.inl rfl) (.inr rfl) (.inr rfl)) (fun _ _ _ _ _ => pts_nil) (fun _ _ _ _ _ => pv 2)))), ?_⟩
  have el : xs.length = v.cells.length := by rw [dps_len hxs, List.length_map]
  refine ⟨_, rfl, p, _, _, _, _, rfl, h1, T.c_Vault, T.n_Vault_cells, vf_cells .., a, rfl, ⟨_, hx⟩, fun D hD => ?_⟩
  refine lc_out (n := xs.length) walk_tup hD (by omega) (fun i y H => ∃ c, v.cells[i]? = some c ∧ y = .int c.2) (fun _ _ _ _ _ _ h => h) (fun H' s => same_t s hx) (fun i x H' H2 N F hi s y k => ?_) (fun H' ys s hD' hl' hr => ?_)
  · obtain ⟨rfl, ex⟩ := y
    obtain ⟨dd, ed, hdd⟩ := dps_get hxs ex
    obtain ⟨cc, ec, rfl⟩ := get_mapA ed
    obtain ⟨t, x1, x2, rfl, ht, e1, e2⟩ := dp2 (dp_same s hdd)
    cases dp_int e2
    refine ⟨t, _, rfl, ht, rfl, _, _, rfl, _, _, rfl, rfl, rfl, iteT ⟨_, rfl, k _ _ (Same.refl _) ⟨cc, ec, rfl⟩⟩⟩
  · have em : ys = (v.cells.map (·.2)).map V.int := by
      rw [List.map_map]
      exact map_of (by omega) fun i y e => by
        obtain ⟨c, h1, h2⟩ := hr i y e
        exact ⟨c, h1, h2⟩
    refine .inl ⟨D, ys, rfl, SqL.of hD', fun t ht => ?_⟩
    rw [em]
    exact q t _ (s.trans (same_new ht)) upd_same
end

end M

set_option Elab.async false
set_option linter.all false
set_option maxRecDepth 100000
set_option maxHeartbeats 2000000
namespace M
open PySem PySem.Spec PyProof.Rows L2

/-! ### any walk: Pv by the turn and the heap -/
section
variable {J : It} {n : Nat} {G : Hp → Prop} {Y : Nat → Hp → V → Hp → Prop}
theorem it_any (w : Walk J n G Y) {B : (Hp → Prop) → V → Hp → Prop} {H1 : Hp} {Qd : Hp → Prop} (Pv : Nat → Hp → Prop) (h0 : Pv 0 H1) (hG : ∀ i H, i ≤ n → Pv i H → G H) (hs : ∀ i x H H', i < n → Pv i H → Y i H x H' → B (Pv (i + 1)) x H')
    (hd : ∀ H, Pv n H → Qd H) : ∃ W : Nat → Nat → Hp → Prop, (∃ m, W 0 m H1) ∧ ∀ i m H, W i m H → (J.stop i H ∧ Qd H) ∨ (J.go i H ∧ ∃ Nx : Hp → Prop, (∀ H', Nx H' → ∃ m', m' < m ∧ W (i + 1) m' H') ∧ ∀ x H', J.yld i H x H' → B Nx x H') := by
  refine ⟨fun i m H => m + i = n ∧ Pv i H, ⟨n, rfl, h0⟩, fun i m H ⟨hm, hp⟩ => ?_⟩
  have hg := hG i H (by omega) hp
  rcases Nat.lt_or_ge i n with hi | hi
  · exact .inr ⟨w.goes i H hi hg, Pv (i + 1), fun H' hp' => ⟨m - 1, by omega, by omega, hp'⟩, fun x H' y => hs i x H H' hi hp (w.yields i H x H' hi hg y)⟩
  · obtain rfl : i = n := by omega
    exact .inl ⟨w.stops H hg, hd H hp⟩
end
/-- the tuples of calls -/
def TupsAt (H : Hp) : List V → List (Str × Int) → Prop
  | [], [] => True
  | y :: ys, c :: cs => (∃ t, y = .ref t ∧ H t = some (.tup [.str c.1, .int c.2])) ∧ TupsAt H ys cs
  | _, _ => False
theorem tups_but {D : Addr} {H H' : Hp} (hD : Ch H D) (s : But D H H') : ∀ {ys : List V} {cs : List (Str × Int)}, TupsAt H ys cs → TupsAt H' ys cs
  | [], [], _ => trivial
  | _ :: _, _ :: _, ⟨⟨t, e, h⟩, r⟩ => ⟨⟨t, e, s t _ (fun z => hD.1 _ (z ▸ h)) h⟩, tups_but hD s r⟩
  | [], _ :: _, h => h.elim
  | _ :: _, [], h => h.elim
theorem tups_same {H H' : Hp} (s : Same H H') : ∀ {ys : List V} {cs : List (Str × Int)}, TupsAt H ys cs → TupsAt H' ys cs
  | [], [], _ => trivial
  | _ :: _, _ :: _, ⟨⟨t, e, h⟩, r⟩ => ⟨⟨t, e, s t _ h⟩, tups_same s r⟩
  | [], _ :: _, h => h.elim
  | _ :: _, [], h => h.elim
theorem tups_len {H : Hp} : ∀ {ys : List V} {cs : List (Str × Int)}, TupsAt H ys cs → ys.length = cs.length
  | [], [], _ => rfl
  | _ :: _, _ :: _, ⟨_, r⟩ => congrArg (· + 1) (tups_len r)
  | [], _ :: _, h => h.elim
  | _ :: _, [], h => h.elim
theorem tups_snoc {H : Hp} {t : Addr} {c : Str × Int} (ht : H t = some (.tup [.str c.1, .int c.2])) : ∀ {ys : List V} {cs : List (Str × Int)}, TupsAt H ys cs → TupsAt H (ys ++ [.ref t]) (cs ++ [c])
  | [], [], _ => ⟨⟨t, rfl, ht⟩, trivial⟩
  | _ :: _, _ :: _, ⟨h, r⟩ => ⟨h, tups_snoc ht r⟩
  | [], _ :: _, h => h.elim
  | _ :: _, [], h => h.elim
theorem tups_get {H : Hp} : ∀ {ys : List V} {cs : List (Str × Int)} {i : Nat} {y : V}, TupsAt H ys cs → ys[i]? = some y → ∃ c t, cs[i]? = some c ∧ y = .ref t ∧ H t = some (.tup [.str c.1, .int c.2])
  | [], [], i, y, _, e => by simp at e
  | _ :: _, c :: _, 0, y, ⟨⟨t, e, h⟩, r⟩, z => by
    cases (Option.some.inj z)
    exact ⟨c, t, rfl, e, h⟩
  | _ :: _, _ :: _, i + 1, y, ⟨h, r⟩, z => tups_get (i := i) r z
  | [], _ :: _, _, _, h, _ => h.elim
  | _ :: _, [], _, _, h, _ => h.elim
theorem take_more {α : Type} {l : List α} {i : Nat} {x : α} (h : l[i]? = some x) : l.take (i + 1) = l.take i ++ [x] := by
  rw [List.take_add_one, h]
  rfl
theorem range_more (j : Nat) : List.range (j + 1) = List.range j ++ [j] := List.range_succ
/-- all but the dict of a name -/
theorem codes_get {K : PySem.W.Frag} {H : Hp} : ∀ {kvs : List (Key × V)} {ds : List (Str × Int × List Row)} {d : Str × Int × List Row}, CodesR K H kvs ds → (ds.map (·.1)).Nodup → d ∈ ds → ∃ v, valV kvs (Sum.inr d.1 : Key) = some v ∧ Dp K H v (codeD d.2.2)
  | [], [], d, _, _, h => by cases h
  | (k, v) :: r, e :: ds, d, h, n, hd => by
    obtain ⟨rfl, hv, hr⟩ := h
    rw [List.map_cons, List.nodup_cons] at n
    by_cases q : e.1 = d.1
    · have : d = e := by
        rcases List.mem_cons.mp hd with z | z
        · exact z
        · exact absurd (q ▸ List.mem_map.mpr ⟨d, z, rfl⟩) n.1
      subst this
      refine ⟨v, ?_, hv⟩
      unfold valV
      rw [List.find?_cons_of_pos (by simp)]
      rfl
    · have hd' : d ∈ ds := by
        rcases List.mem_cons.mp hd with z | z
        · exact absurd (by rw [z]) q
        · exact z
      obtain ⟨u, hu, hw⟩ := codes_get hr n.2 hd'
      refine ⟨u, ?_, hw⟩
      unfold valV at hu ⊢
      rw [List.find?_cons_of_neg (by simp [q])]
      exact hu
  | [], _ :: _, _, h, _, _ => h.elim
  | _ :: _, [], _, h, _, _ => h.elim
/-! ### no lists within -/
theorem Exp.noL : ∀ e : Exp, NoL e.d
  | .num n => .int n
  | .reg r => .str r
  | .op s a b => .tup fun d h => by
    rcases List.mem_cons.mp h with rfl | h
    · exact .str s
    rcases List.mem_cons.mp h with rfl | h
    · exact a.noL
    rcases List.mem_cons.mp h with rfl | h
    · exact b.noL
    cases h
mutual
theorem Row.noL : ∀ r : Row, NoL r.d
  | .read r c => .tup (by intro d h; simp at h; rcases h with rfl | rfl | rfl <;> constructor)
  | .set c e => .tup (by intro d h; simp at h; rcases h with rfl | rfl | rfl <;> first | exact e.noL | constructor)
  | .swap r c e f => .tup (by intro d h; simp at h; rcases h with rfl | rfl | rfl | rfl | rfl <;> first | exact e.noL | exact f.noL | constructor)
  | .keep r e => .tup (by intro d h; simp at h; rcases h with rfl | rfl | rfl <;> first | exact e.noL | constructor)
  | .coin r => .tup (by intro d h; simp at h; rcases h with rfl | rfl <;> constructor)
  | .iff e a b => .tup (by intro d h; simp at h; rcases h with rfl | rfl | rfl | rfl <;> first | exact e.noL | exact .tup (rows_noL a) | exact .tup (rows_noL b) | constructor)
  | .times e a => .tup (by intro d h; simp at h; rcases h with rfl | rfl | rfl <;> first | exact e.noL | exact .tup (rows_noL a) | constructor)
  | .ans e => .tup (by intro d h; simp at h; rcases h with rfl | rfl <;> first | exact e.noL | constructor)
theorem rows_noL : ∀ rs : List Row, ∀ d ∈ rowsD rs, NoL d
  | [], d, h => by cases h
  | r :: rs, d, h => by
    rcases List.mem_cons.mp h with rfl | h
    · exact r.noL
    · exact rows_noL rs d h
end
theorem FR.noL : ∀ r : FR, NoL r.d
  | .row r => r.noL
  | .unless e p => .tup (by intro d h; simp at h; rcases h with rfl | rfl | rfl <;> first | exact e.noL | constructor)
  | .on p => .tup (by intro d h; simp at h; rcases h with rfl | rfl <;> constructor)
  | .rounds e => .tup (by intro d h; simp at h; rcases h with rfl | rfl <;> first | exact e.noL | constructor)
  | .round p => .tup (by intro d h; simp at h; rcases h with rfl | rfl <;> constructor)
  | .hole => .tup (by intro d h; cases h)
theorem code_noL (rs : List Row) : NoL (codeD rs) := .tup fun d h => by
  obtain ⟨r, _, rfl⟩ := List.mem_map.mp h
  exact r.noL
section
variable {P : Program} {w : World} {K : PySem.W.Frag} {mg : Str → Option Value} {base : Heap}
def spCalls (K : PySem.W.Frag) : Sp := fun vs H Q _ => ∃ (p : Addr) (v : Vlt), vs = [.ref p] ∧ VaultAt K H p v ∧ VOk v ∧ ∀ a ys H', Same H H' → H' a = some (.lst ys) → TupsAt H' ys v.calls → Q (.ref a) H'
theorem me_Vault_calls (T : Txt w K mg) : Me P w K mg base 1 (He.ga K "Vault") "calls" (spCalls K) := by
  refine me_of (N := ["self", "name", "choices", "_", "argument"]) (ps := ["self"]) T.f_Vault_calls T.c_Vault T.m_Vault_calls ⟨rfl, rfl, rfl, by decide +kernel, rfl, by decide +kernel, by decide +kernel⟩ (fun _ _ _ _ _ _ us hl => match us, hl with | [_], _ => rfl)
    (fun vs H Q E h => by obtain ⟨p, v, rfl, hv, ok, q⟩ := h; rfl) (fun cdv A outer s H vs Q E hr h => ?_)
  have nd : (["self", "name", "choices", "_", "argument"] : List Str).Nodup := by decide +kernel
  obtain ⟨p, v, rfl, hv, ok, q⟩ := h
  obtain ⟨dx, a, d, c, b, kvs, h1, h2, h3, h4, h5⟩ := hv.ob
  obtain ⟨d, xs, ea, hx, hxs⟩ := dp_tup h3
  cases ea
  refine ⟨_, pss_one (ps_ret (pe_lc2 (own := [("name", 1), ("choices", 2), ("_", 3), ("argument", 4)]) (vs1 := [4]) (tt := tYes) (tt1 := tYes) rfl nd (pi_tup (pe_fld (pv 0) rfl)) (blkOk_by (N := ["self", "name", "choices", "_", "argument"]) (sc := defScope s_Vault_calls) (by decide +kernel)) (by decide)
    (fun _ _ _ _ _ => pg_three K 1 2 3 rfl rfl nd rfl rfl rfl (.inl rfl) (.inl rfl) (.inl rfl) (.inr rfl) (.inr rfl) (.inr rfl)) (fun _ _ _ _ _ => pts_nil) (fun _ _ _ _ _ => pi_range1 rfl T.b_range (pa_cons (pv 2) pa_nil)) (fun _ _ _ _ _ => pg_name (i := 4) nd rfl (.inl rfl)) (fun _ _ _ _ _ => pts_nil)
    (fun _ _ _ _ _ => pe_tup (pa_cons (pv 1) (pa_cons (pv 4) pa_nil))))), ?_⟩
  have el : xs.length = v.deeds.length := by rw [dps_len hxs, List.length_map]
  refine ⟨_, rfl, p, _, _, _, _, rfl, h1, T.c_Vault, T.n_Vault_deeds, vf_deeds .., d, rfl, ⟨_, hx⟩, fun D hD => ?_⟩
  let F : List (Str × Int × List Row) → List (Str × Int) := fun l => l.flatMap fun d => (List.range d.2.1.toNat).map fun (j : Nat) => (d.1, (j : Int))
  have FS : ∀ l d, F (l ++ [d]) = F l ++ (List.range d.2.1.toNat).map fun (j : Nat) => (d.1, (j : Int)) := fun l d => by simp [F]
  have bnd : ∀ l, (∀ d ∈ l, d.2.1 ≤ 9) → (F l).length ≤ 9 * l.length := by
    intro l
    induction l with
    | nil => intro _; simp [F]
    | cons d r ih =>
      intro h
      have e : F (d :: r) = ((List.range d.2.1.toNat).map fun (j : Nat) => (d.1, (j : Int))) ++ F r := by simp [F]
      have h1 := h d List.mem_cons_self
      have h2 := ih fun d hd => h d (List.mem_cons_of_mem _ hd)
      rw [e, List.length_append, List.length_map, List.length_range, List.length_cons]
      omega
  refine it_any (n := xs.length) walk_tup (fun i H' => ∃ ys, Same H H' ∧ H' D = some (.lst ys) ∧ TupsAt H' ys (F (v.deeds.take i))) ⟨[], same_new hD, upd_same, trivial⟩ (fun i H' _ ⟨_, s, _⟩ => same_t s hx) ?_ ?_
  · rintro i x H' H2 hi ⟨ys, s, eD, hy⟩ ⟨rfl, ex⟩
    obtain ⟨dd, ed, hdd⟩ := dps_get hxs ex
    obtain ⟨cc, ec, rfl⟩ := get_mapA ed
    obtain ⟨t, x1, x2, x3, rfl, ht, e1, e2, e3⟩ := dp3 (dp_same s hdd)
    cases dp_str e1
    cases dp_int e2
    have hc := ok.ch cc (List.mem_of_getElem? ec)
    refine ⟨t, _, rfl, ht, rfl, _, _, rfl, _, _, rfl, _, _, rfl, rfl, rfl, ?_⟩
    refine ⟨_, rfl, cc.2.1, rfl, by omega, by omega, ?_⟩
    refine it_any (n := cc.2.1.toNat) walk_range (fun j H' => ∃ ys, Same H H' ∧ H' D = some (.lst ys) ∧ TupsAt H' ys (F (v.deeds.take i) ++ (List.range j).map fun (j : Nat) => (cc.1, (j : Int)))) ⟨ys, s, eD, by simpa using hy⟩ (fun _ _ _ _ => trivial) ?_ ?_
    · rintro j x H3 H4 hj ⟨zs, s3, eD3, hz⟩ ⟨rfl, rfl⟩
      refine ⟨rfl, _, rfl, _, rfl, (by show 2 ≤ sizeLine; decide), fun t ht => ?_⟩
      have ntD : D ≠ t := ne_of_none eD3 ht
      have hlz := tups_len hz
      have hb := bnd (v.deeds.take i) fun d hd => (ok.ch d (List.mem_of_mem_take hd)).2
      have hl8 : (v.deeds.take i).length ≤ 8 := by rw [List.length_take]; have := ok.d1; omega
      rw [List.length_append, List.length_map, List.length_range] at hlz
      refine ⟨zs, by rw [upd_ne ntD]; exact eD3, by rw [sizeLine_eq]; omega, zs ++ [.ref t], fun b o e => ?_, upd_same, ?_⟩
      · rw [upd_ne (ne_of_none e hD), upd_ne (ne_of_none (s3 b o e) ht)]
        exact s3 b o e
      · rw [range_more, List.map_append, ← List.append_assoc]
        refine tups_snoc ?_ (tups_but (D := D) (H := upd H4 t (.tup [.str cc.1, .int (0 + (j : Int))])) (.lst (l := zs) (by rw [upd_ne ntD]; exact eD3)) But.upd (tups_same (same_new ht) hz))
        rw [upd_ne (Ne.symm ntD), upd_same]
        simp
    · rintro H3 ⟨zs, s3, eD3, hz⟩
      refine ⟨zs, s3, eD3, ?_⟩
      rw [take_more ec, FS]
      exact hz
  · rintro H' ⟨ys, s, eD, hy⟩
    refine q D ys H' s eD ?_
    rw [el, List.take_length] at hy
    exact hy
end

end M

set_option Elab.async false
set_option linter.all false
set_option maxRecDepth 100000
set_option maxHeartbeats 2000000
namespace M
open PySem PySem.Spec PyProof.Rows L2

/-! ### pastless.bodies: what a body may be -/
def regs4 : List Str := ["a", "b", "c", "d"]
def regs5 : List Str := ["a", "b", "c", "d", "x"]
def signs : List Str := ["+", "-", "*", "=", "<"]
def Exp.ok : Exp → Prop
  | .num n => 0 ≤ n ∧ n ≤ 9
  | .reg r => r ∈ regs5
  | .op s a b => s ∈ signs ∧ a.ok ∧ b.ok
def Exp.dep : Exp → Nat
  | .op _ a b => Nat.max a.dep b.dep + 1
  | _ => 0
/-- a part of a row -/
inductive Prt where
  | reg (r : Str) | cell (k : Int) | ex (e : Exp) | rows (rs : List Row)
def Prt.d : Prt → PyData
  | .reg r => .str r
  | .cell k => .int k
  | .ex e => e.d
  | .rows rs => .tuple (rowsD rs)
def Prt.kind : Prt → Str
  | .reg _ => "REG"
  | .cell _ => "CELL"
  | .ex _ => "E"
  | .rows _ => "ROWS"
def Row.word : Row → Str
  | .read .. => "read" | .set .. => "set" | .swap .. => "swap" | .keep .. => "keep" | .coin .. => "coin" | .iff .. => "if" | .times .. => "times" | .ans .. => "answer"
def Row.prts : Row → List Prt
  | .read r c => [.reg r, .cell c]
  | .set c e => [.cell c, .ex e]
  | .swap r c e f => [.reg r, .cell c, .ex e, .ex f]
  | .keep r e => [.reg r, .ex e]
  | .coin r => [.reg r]
  | .iff e a b => [.ex e, .rows a, .rows b]
  | .times e a => [.ex e, .rows a]
  | .ans e => [.ex e]
theorem row_d (r : Row) : r.d = .tuple (.str r.word :: r.prts.map Prt.d) := by cases r <;> rfl
theorem rowsD_map : ∀ rs : List Row, rowsD rs = rs.map Row.d
  | [] => rfl
  | r :: rs => congrArg (r.d :: ·) (rowsD_map rs)
mutual
/-- rows in all, rows "coin" -/
def Row.cl : Row → Nat
  | .iff _ a b => 1 + (rowsCl a + rowsCl b)
  | .times _ a => 1 + rowsCl a
  | _ => 1
def rowsCl : List Row → Nat
  | [] => 0
  | r :: rs => r.cl + rowsCl rs
end
mutual
def Row.cc : Row → Nat
  | .iff _ a b => rowsCc a + rowsCc b
  | .times _ a => rowsCc a
  | .coin _ => 1
  | _ => 0
def rowsCc : List Row → Nat
  | [] => 0
  | r :: rs => r.cc + rowsCc rs
end
def Prt.cl : Prt → Nat
  | .rows rs => rowsCl rs
  | _ => 0
def Prt.cc : Prt → Nat
  | .rows rs => rowsCc rs
  | _ => 0
def sumN : List Nat → Nat
  | [] => 0
  | n :: r => n + sumN r
def Exp.good (e : Exp) : Prop := e.ok ∧ e.dep ≤ 6
mutual
def Row.ok (c : Int) (deep loops : Nat) : Row → Prop
  | .read r k => r ∈ regs4 ∧ 0 ≤ k ∧ k < c
  | .set k e => (0 ≤ k ∧ k < c) ∧ e.good
  | .swap r k e f => r ∈ regs4 ∧ (0 ≤ k ∧ k < c) ∧ e.good ∧ f.good
  | .keep r e => r ∈ regs4 ∧ e.good
  | .coin r => r ∈ regs4 ∧ loops = 0
  | .iff e a b => e.good ∧ rowsOk c (deep + 1) loops a ∧ rowsOk c (deep + 1) loops b
  | .times e a => e.good ∧ loops < 2 ∧ rowsOk c (deep + 1) (loops + 1) a
  | .ans e => e.good
def rowsOk (c : Int) (deep loops : Nat) : List Row → Prop
  | [] => True
  | r :: rs => deep ≤ 12 ∧ r.ok c deep loops ∧ rowsOk c deep loops rs
end
def Prt.ok (c : Int) (deep loops : Nat) : Prt → Prop
  | .reg r => r ∈ regs4
  | .cell k => 0 ≤ k ∧ k < c
  | .ex e => e.good
  | .rows rs => rowsOk c (deep + 1) loops rs
/-- the loops within which the parts of a row stand -/
def Row.lp (loops : Nat) : Row → Nat
  | .times .. => loops + 1
  | _ => loops
theorem row_prts {c : Int} {deep loops : Nat} {r : Row} (h : r.ok c deep loops) : ∀ p ∈ r.prts, p.ok c deep (r.lp loops) := by
  intro p hp
  cases r with
  | read r k => simp [Row.prts] at hp; simp [Row.ok] at h; rcases hp with rfl | rfl; exact h.1; exact h.2
  | set k e => simp [Row.prts] at hp; simp only [Row.ok] at h; rcases hp with rfl | rfl; exact h.1; exact h.2
  | swap r k e f => simp [Row.prts] at hp; simp only [Row.ok] at h; rcases hp with rfl | rfl | rfl | rfl; exact h.1; exact h.2.1; exact h.2.2.1; exact h.2.2.2
  | keep r e => simp [Row.prts] at hp; simp only [Row.ok] at h; rcases hp with rfl | rfl; exact h.1; exact h.2
  | coin r => simp [Row.prts] at hp; simp only [Row.ok] at h; subst hp; exact h.1
  | iff e a b => simp [Row.prts] at hp; simp only [Row.ok] at h; rcases hp with rfl | rfl | rfl; exact h.1; exact h.2.1; exact h.2.2
  | times e a => simp [Row.prts] at hp; simp only [Row.ok] at h; rcases hp with rfl | rfl; exact h.1; exact h.2.2
  | ans e => simp [Row.prts] at hp; simp only [Row.ok] at h; subst hp; exact h
theorem row_cl (r : Row) : r.cl = 1 + sumN (r.prts.map Prt.cl) := by cases r <;> simp [Row.cl, Row.prts, sumN, Prt.cl]
def Row.co : Row → Nat
  | .coin _ => 1
  | _ => 0
theorem row_cc (r : Row) : r.cc = r.co + sumN (r.prts.map Prt.cc) := by cases r <;> simp [Row.cc, Row.co, Row.prts, sumN, Prt.cc]
theorem sumN_take {l : List Nat} {i : Nat} {x : Nat} (h : l[i]? = some x) : sumN (l.take (i + 1)) = sumN (l.take i) + x := by
  induction l generalizing i with
  | nil => simp at h
  | cons a r ih =>
    cases i with
    | zero =>
      cases (Option.some.inj h)
      simp [sumN]
    | succ i =>
      have := ih (i := i) h
      show a + sumN (r.take (i + 1)) = a + sumN (r.take i) + x
      omega
theorem sumN_le (l : List Nat) (i : Nat) : sumN (l.take i) ≤ sumN l := by
  induction l generalizing i with
  | nil => simp [sumN]
  | cons a r ih =>
    cases i with
    | zero => simp [sumN]
    | succ i =>
      have := ih i
      show a + sumN (r.take i) ≤ a + sumN r
      omega
/-! ### what the module has written -/
section
variable {P : Program} {w : World} {K : PySem.W.Frag} {mg : Str → Option Value} {base : Heap}
theorem sq_HELD (T : Txt w K mg) (H : Hp) : SqT K H (He.ga K "HELD") (regs5.map V.str) := He.tupB_ok T.e_HELD H
theorem sq_SIGNS (T : Txt w K mg) (H : Hp) : SqT K H (He.ga K "SIGNS") (signs.map V.str) := He.tupB_ok T.e_SIGNS H
theorem sq_CHANGED (T : Txt w K mg) (H : Hp) : SqT K H (He.ga K "CHANGED") (regs4.map V.str) := He.tupB_ok T.e_CHANGED H
theorem in_regs5 : ∀ r ∈ regs5, inV (.str r) (regs5.map V.str) = true := by
  intro r h
  rw [show regs5 = (["a", "b", "c", "d", "x"] : List Str) from rfl] at h
  simp only [List.mem_cons, List.not_mem_nil, or_false] at h
  rcases h with rfl | rfl | rfl | rfl | rfl <;> decide +kernel
theorem in_regs4 : ∀ r ∈ regs4, inV (.str r) (regs4.map V.str) = true := by
  intro r h
  rw [show regs4 = (["a", "b", "c", "d"] : List Str) from rfl] at h
  simp only [List.mem_cons, List.not_mem_nil, or_false] at h
  rcases h with rfl | rfl | rfl | rfl <;> decide +kernel
theorem in_signs : ∀ r ∈ signs, inV (.str r) (signs.map V.str) = true := by
  intro r h
  rw [show signs = (["+", "-", "*", "=", "<"] : List Str) from rfl] at h
  simp only [List.mem_cons, List.not_mem_nil, or_false] at h
  rcases h with rfl | rfl | rfl | rfl | rfl <;> decide +kernel
/-- a def that promises nothing -/
theorem ca_false {x : Str} {st : Stmt} {ps : List Str} {k : Nat} (F : ∃ fd, FunD K x x (defArgs st) (defBody st) (defScope st) [] [] (He.fAd K (x, none)) fd) (g : mg x = some (.ref (He.ga K x))) (hb : BindsH x x st ps) : Ca P w K mg base k x (fun _ _ _ _ => False) := by
  obtain ⟨fd, F⟩ := F
  exact ⟨_, fd, ps, ⟨fun _ _ _ _ h => h.elim, fun _ _ _ _ _ _ _ _ _ _ _ _ _ h => h.elim⟩, g, F.kp, F.bindsN hb⟩
/-- is_expression, n tuples deep at most but one -/
def spE (K : PySem.W.Frag) : Nat → Sp
  | 0 => fun _ _ _ _ => False
  | n + 1 => fun vs H Q _ => ∃ (v : V) (e : Exp) (deep : Nat), vs = [v, .int deep] ∧ Dp K H v e.d ∧ e.ok ∧ e.dep ≤ n ∧ deep + e.dep ≤ 6 ∧ Q (.bl true) H
theorem ca_is_expression (T : Txt w K mg) : ∀ n : Nat, Ca P w K mg base (n + 2) "is_expression" (spE K n)
  | 0 => ca_false (ps := ["value", "deep"]) T.f_is_expression T.g_is_expression (fun _ _ _ _ _ _ us hl => match us, hl with | [_, _], _ => rfl)
  | n + 1 => by
    have ih := ca_is_expression T n
    refine ca_of (N := ["value", "deep", "sign", "one", "other"]) (ps := ["value", "deep"]) T.f_is_expression T.g_is_expression ⟨rfl, rfl, rfl, by decide +kernel, rfl, by decide +kernel, by decide +kernel⟩ (fun _ _ _ _ _ _ us hl => match us, hl with | [_, _], _ => rfl)
      (fun vs H Q E h => by obtain ⟨v, e, deep, rfl, hv, ok, hd, h6, q⟩ := h; rfl) (fun cdv A outer s H vs Q E hr h => ?_)
    have nd : (["value", "deep", "sign", "one", "other"] : List Str).Nodup := by decide +kernel
    obtain ⟨v, e, deep, rfl, hv, ok, hd, h6, q⟩ := h
    refine ⟨_, pss_cons (ps_if (pt_val (pe_ca (ca_is_integer T) hr (pa_cons (pv 0) pa_nil) (by omega))) (pss_one (ps_ret (pe_chain op_le op_le pe_int (pv 0) pe_int))) pss_nil)
      (pss_cons (ps_if (pt_val (pe_is .str T.b_isinstance (pv 0) T.b_str boot_str)) (pss_one (ps_ret (pe_cmpR op_in_seq (pv 0) (pe_gr T.g_HELD) (by rfl)))) pss_nil)
      (pss_cons (ps_if (PW.pt (pw_or (pt_not (pt_val (pe_ca (ca_is_tuple T) hr (pa_cons (pv 0) (pa_cons pe_int pa_nil)) (by omega)))) (pw_or1 (pt_cmpR op_eq (pv 1) (pe_gi T.i_DEEPEST_EXPRESSION) (nomark _))))) (pss_one (ps_ret pe_bl)) pss_nil)
      (pss_cons (ps_asg (pv 0) (pg_three K 2 3 4 rfl rfl nd rfl rfl rfl (.inl rfl) (.inl rfl) (.inl rfl) (.inr rfl) (.inr rfl) (.inr rfl)))
      (pss_one (ps_ret (pe_and (pe_cmpR op_in_seq (pv 2) (pe_gr T.g_SIGNS) (by rfl)) (pe_and (pe_ca ih hr (pa_cons (pv 3) (pa_cons (pe_op op_add (pv 1) pe_int) pa_nil)) (by omega)) (pe_one (pe_ca ih hr (pa_cons (pv 4) (pa_cons (pe_op op_add (pv 1) pe_int) pa_nil)) (by omega)))))))))), ?_⟩
    cases e with
    | num m =>
      cases dp_int hv
      refine ⟨_, rfl, _, _, rfl, .int m, _, rfl, iteT ?_⟩
      refine ⟨_, rfl, _, _, rfl, rfl, _, rfl, ?_⟩
      rw [decide_eq_true ok.1]
      refine iteT ⟨_, _, rfl, rfl, ?_⟩
      show Q (.bl (decide (m ≤ 9))) H
      rw [decide_eq_true ok.2]
      exact q
    | reg r =>
      cases dp_str hv
      refine ⟨_, rfl, _, _, rfl, .str r, _, rfl, iteF ?_⟩
      refine ⟨_, rfl, _, _, rfl, .str r, _, rfl, iteT ?_⟩
      refine ⟨_, rfl, _, _, rfl, .inr (sq_HELD T H), rfl, by decide +kernel, ?_⟩
      show Q (.bl (inV (.str r) (regs5.map V.str))) H
      rw [in_regs5 r ok]
      exact q
    | op s a b =>
      obtain ⟨p, x, y, z, rfl, hp, hx, hy, hz⟩ := dp3 hv
      cases dp_str hx
      have hn : 1 ≤ n := by have : Nat.max a.dep b.dep + 1 ≤ n := hd; omega
      obtain ⟨m, rfl⟩ : ∃ m, n = m + 1 := ⟨n - 1, by omega⟩
      have hd' : Nat.max a.dep b.dep + 1 ≤ m + 1 := hd
      have h6' : deep + (Nat.max a.dep b.dep + 1) ≤ 6 := h6
      have ha : a.dep ≤ Nat.max a.dep b.dep := Nat.le_max_left ..
      have hb : b.dep ≤ Nat.max a.dep b.dep := Nat.le_max_right ..
      refine ⟨_, rfl, _, _, rfl, .tuple hp, _, rfl, iteF ?_⟩
      refine ⟨_, rfl, _, _, rfl, .tuple hp, _, rfl, iteF ?_⟩
      refine ⟨_, rfl, p, _, _, rfl, hp, _, rfl, iteF ?_⟩
      refine ⟨_, rfl, rfl, _, rfl, ?_⟩
      rw [decide_eq_false (show ¬ V.int (deep : Int) = V.int 6 from fun e => by have := V.int.inj e; omega)]
      refine iteF ?_
      refine ⟨_, rfl, p, _, rfl, hp, rfl, _, _, rfl, _, _, rfl, _, _, rfl, rfl, ?_⟩
      refine ⟨_, rfl, _, _, rfl, .inr (sq_SIGNS T H), rfl, by decide +kernel, _, rfl, ?_⟩
      rw [show inV (.str s) (signs.map V.str) = true from in_signs s ok.1]
      refine iteT ?_
      refine ⟨_, rfl, _, rfl, _, _, rfl, rfl, y, a, deep + 1, by simp, hy, ok.2.1, by omega, by omega, _, rfl, iteT ?_⟩
      exact ⟨_, rfl, _, rfl, _, _, rfl, rfl, z, b, deep + 1, by simp, hz, ok.2.2, by omega, by omega, q⟩
end

end M

set_option Elab.async false
set_option linter.all false
set_option maxRecDepth 100000
set_option maxHeartbeats 2000000
namespace M
open PySem PySem.Spec PyProof.Rows L2

theorem at0 {a : V} {xs : List V} : atI (a :: xs) 0 = some a := atI_nat (xs := a :: xs) (j := 0) rfl
theorem at1 {a b : V} {xs : List V} : atI (a :: b :: xs) 1 = some b := atI_nat (xs := a :: b :: xs) (j := 1) rfl
theorem at2 {a b c : V} {xs : List V} : atI (a :: b :: c :: xs) 2 = some c := atI_nat (xs := a :: b :: c :: xs) (j := 2) rfl
theorem at3 {a b c d : V} {xs : List V} : atI (a :: b :: c :: d :: xs) 3 = some d := atI_nat (xs := a :: b :: c :: d :: xs) (j := 3) rfl
theorem at4 {a b c d e : V} {xs : List V} : atI (a :: b :: c :: d :: e :: xs) 4 = some e := atI_nat (xs := a :: b :: c :: d :: e :: xs) (j := 4) rfl
/-! ### d.get(x) of a written dict -/
section
variable {X : Cx} {d : Addr} {es : Array DictEntry} {n : Nat} {o e : Expr} {apos cpos : Pos} {to te : TE}
/-- what d.get(x) gives: what is written at x -/
def tKGet (K : PySem.W.Frag) (d : Addr) (to te : TE) : TE := fun σ H Q => to σ H fun x H1 => x = .ref d ∧ te σ H1 fun y H2 => ∃ (z : Str) (u0 : Value) (v0 : V), y = .str z ∧ PySem.W.nsIn K d z = some (some u0) ∧ RelV v0 u0 ∧ Q v0 H2
theorem pe_kget (D : KDict X.K X.w d es n) (ho : PE X o to) (he : PE X e te) (m : M1 X o "get" apos e cpos) : PE X (.Call (.Attribute o "get" apos) [e] [] cpos) (tKGet X.K d to te) := by
  refine ⟨fun pins s σ H Q I h => ?_⟩
  refine wpAny_Call_method m.base m.few m.line PySem.F.plainAttrs_dict PySem.F.slot_dict_get PySem.F.type_dict_get (thn (ho.run pins s σ H _ I h) fun u s1 hu => ?_)
  obtain ⟨x, H1, I1, rx, ex, q1⟩ := hu
  subst ex
  cases rx
  have M1 : s1.heap.MapOf (strKind X.prog X.w) d _ := PySem.W.mapOf_K (prog := X.prog) I1.kIn D.at_ D.lit
  refine ⟨M1.typeIs, M1.noDict, ?_⟩
  rw [m.trees]
  refine Calls.callWith_builtin rfl (Calls.evalArgs_plain (Calls.spliced_cons (thn (he.run pins s1 σ H1 _ I1 q1) fun iv s2 hv => Calls.spliced_nil ?_)))
  obtain ⟨y, H2, I2, ry, z, u0, v0, ey, hz, r0, q2⟩ := hv
  subst ey
  obtain ⟨t, et⟩ := ry
  subst et
  have M2 : s2.heap.MapOf (strKind X.prog X.w) d _ := PySem.W.mapOf_K (prog := X.prog) I2.kIn D.at_ D.lit
  refine call_meetsIn PySem.F.slot_dict_get M2.typeIs PySem.F.entry_dict_get (PySem.F.args_dict_get_2 _ _) (meets_dict_get (strKind X.prog X.w) d (PySem.strKind_is X.prog X.w z t) D.low) ⟨_, M2, ?_⟩
  rw [PySem.W.find_K D.at_ hz]
  exact ⟨v0, H2, I2.tok _, r0, q2⟩
end
/-! ### the tally of a body -/
def tfl (c co li : Int) : List (Str × V) := putF "lines" (.int li) (putF "coins" (.int co) (putF "cells" (.int c) []))
theorem t1 : ¬ (("cells" : Str) = "coins") := by decide +kernel
theorem t2 : ¬ (("cells" : Str) = "lines") := by decide +kernel
theorem t3 : ¬ (("coins" : Str) = "lines") := by decide +kernel
theorem tfl_eq (c co li : Int) : tfl c co li = ([("cells", V.int c), ("coins", V.int co), ("lines", V.int li)] : List (Str × V)) := by
  unfold tfl
  simp only [putF, if_neg t1, if_neg t2, if_neg t3]
theorem tf_cells (c co li : Int) : (tfl c co li).lookup ("cells" : Str) = some (.int c) := by
  unfold tfl
  rw [lookup_putF, if_neg t2, lookup_putF, if_neg t1, lookup_putF, if_pos rfl]
theorem tf_coins (c co li : Int) : (tfl c co li).lookup ("coins" : Str) = some (.int co) := by
  unfold tfl
  rw [lookup_putF, if_neg t3, lookup_putF, if_pos rfl]
theorem tf_lines (c co li : Int) : (tfl c co li).lookup ("lines" : Str) = some (.int li) := by
  unfold tfl
  rw [lookup_putF, if_pos rfl]
theorem tf_putL (c co li y : Int) : putF "lines" (.int y) (tfl c co li) = tfl c co y := by
  rw [tfl_eq, tfl_eq]
  simp only [putF]
  rw [if_neg t2, if_neg t3, if_pos trivial]
theorem tf_putC (c co li y : Int) : putF "coins" (.int y) (tfl c co li) = tfl c y li := by
  rw [tfl_eq, tfl_eq]
  simp only [putF]
  rw [if_neg t1, if_pos trivial]
def TallyAt (K : PySem.W.Frag) (H : Hp) (t : Addr) (c co li : Int) : Prop := ∃ dx, H t = some (.ins (He.ga K "Tally") dx (tfl c co li))
theorem forms_of {K : PySem.W.Frag} {a : Addr} {kvs : List (Str × List Str)} (h : formsB K a kvs = true) {q : Str × List Str} (hq : q ∈ kvs) (H : Hp) : ∃ t, PySem.W.nsIn K a q.1 = some (some (.ref t)) ∧ SqT K H t (q.2.map V.str) := by
  have z := List.all_eq_true.mp h q hq
  split at z
  · rename_i t e
    split at z
    · rename_i c its n sl e2
      obtain ⟨h1, z⟩ := He.ba z
      obtain ⟨h2, h3⟩ := He.ba z
      have h1 := of_decide_eq_true h1
      subst h1
      refine ⟨t, e, .inr ⟨_, its, n, e2, rfl, rfl, of_decide_eq_true h2, He.relAll_ok h3⟩⟩
    · cases z
  · cases z
/-- the forms as the module has written them -/
def forms : List (Str × List Str) := [("read", ["REG", "CELL"]), ("set", ["CELL", "E"]), ("swap", ["REG", "CELL", "E", "E"]), ("keep", ["REG", "E"]), ("coin", ["REG"]), ("if", ["E", "ROWS", "ROWS"]), ("times", ["E", "ROWS"]), ("answer", ["E"])]
theorem row_form (r : Row) : (r.word, r.prts.map Prt.kind) ∈ forms := by
  unfold forms
  cases r <;> simp [Row.word, Row.prts, Prt.kind]
section
variable {P : Program} {w : World} {K : PySem.W.Frag} {mg : Str → Option Value} {base : Heap}
theorem form_at (T : Txt w K mg) (r : Row) (H : Hp) : ∃ t, PySem.W.nsIn K (He.ga K "FORMS") r.word = some (some (.ref t)) ∧ SqT K H t ((r.prts.map Prt.kind).map V.str) := forms_of (kvs := forms) T.e_FORMS (row_form r) H
def spTally (K : PySem.W.Frag) : Sp := fun vs H Q _ => ∃ (p dx : Addr) (c : Int), vs = [.ref p, .int c] ∧ H p = some (.ins (He.ga K "Tally") dx []) ∧ Q .non (upd H p (.ins (He.ga K "Tally") dx (tfl c 0 0)))
theorem ma_Tally (T : Txt w K mg) : Ma P w K mg base 1 "Tally" (He.ga K "Tally") (spTally K) := by
  refine ma_of (N := ["self", "cells"]) (ps := ["self", "cells"]) T.f_Tally_init T.g_Tally T.k_Tally ⟨rfl, rfl, rfl, by decide +kernel, rfl, by decide +kernel, by decide +kernel⟩ (fun _ _ _ _ _ _ us hl => match us, hl with | [_, _], _ => rfl)
    (fun vs H Q E h => by obtain ⟨p, dx, c, rfl, hp, q⟩ := h; rfl) (fun cdv A outer s H vs Q E hr h => ?_)
  have nd : (["self", "cells"] : List Str).Nodup := by decide +kernel
  obtain ⟨p, dx, c, rfl, hp, q⟩ := h
  refine ⟨_, pss_cons (ps_fld (pv 0) (pv 1) rfl) (pss_cons (ps_fld (pv 0) pe_int rfl) (pss_one (ps_fld (pv 0) pe_int rfl))), ?_⟩
  refine ⟨_, rfl, _, rfl, p, _, dx, _, rfl, hp, T.c_Tally, T.n_Tally_cells, (by show 0 < 1000; decide), ?_⟩
  refine ⟨_, rfl, p, _, dx, _, rfl, upd_same, T.c_Tally, T.n_Tally_coins, (by show 1 < 1000; decide), ?_⟩
  refine ⟨_, rfl, p, _, dx, _, rfl, upd_same, T.c_Tally, T.n_Tally_lines, (by show 2 < 1000; decide), ?_⟩
  rw [upd_upd, upd_upd]
  exact q
/-! ### the rows of a body, n ifs and times deep at most but one -/
def spRows (K : PySem.W.Frag) : Nat → Sp
  | 0 => fun _ _ _ _ => False
  | n + 1 => fun vs H Q _ => ∃ (v : V) (rs : List Row) (deep loops : Nat) (t : Addr) (c : Int) (co li : Nat), vs = [v, .int deep, .int loops, .ref t] ∧ Dp K H v (.tuple (rowsD rs)) ∧ TallyAt K H t c co li ∧ rowsOk c deep loops rs ∧ 14 ≤ deep + (n + 1) ∧ co + rowsCc rs ≤ 4 ∧ li + rowsCl rs ≤ 2000 ∧
    ∀ H', But t H H' → TallyAt K H' t c ((co + rowsCc rs : Nat) : Int) ((li + rowsCl rs : Nat) : Int) → Q (.bl true) H'
def spPart (K : PySem.W.Frag) (n : Nat) : Sp := fun vs H Q _ => ∃ (v : V) (p : Prt) (deep loops : Nat) (t : Addr) (c : Int) (co li : Nat), vs = [.str p.kind, v, .int deep, .int loops, .ref t] ∧ Dp K H v p.d ∧ TallyAt K H t c co li ∧ p.ok c deep loops ∧ (14 ≤ deep + (n + 1) ∧ deep ≤ 12) ∧ co + p.cc ≤ 4 ∧ li + p.cl ≤ 2000 ∧
    ∀ H', But t H H' → TallyAt K H' t c ((co + p.cc : Nat) : Int) ((li + p.cl : Nat) : Int) → Q (.bl true) H'
theorem ca_is_part {n : Nat} (R : Ca P w K mg base (3 * n + 10) "are_body_rows" (spRows K n)) (T : Txt w K mg) : Ca P w K mg base (3 * n + 11) "is_part" (spPart K n) := by
    refine ca_of (N := ["kind", "value", "deep", "loops", "tally"]) (ps := ["kind", "value", "deep", "loops", "tally"]) T.f_is_part T.g_is_part ⟨rfl, rfl, rfl, by decide +kernel, rfl, by decide +kernel, by decide +kernel⟩ (fun _ _ _ _ _ _ us hl => match us, hl with | [_, _, _, _, _], _ => rfl)
      (fun vs H Q E h => by obtain ⟨v, p, deep, loops, t, c, co, li, rfl, hv, ht, ok, hd, hc, hl, q⟩ := h; rfl) (fun cdv A outer s H vs Q E hr h => ?_)
    have nd : (["kind", "value", "deep", "loops", "tally"] : List Str).Nodup := by decide +kernel
    obtain ⟨v, p, deep, loops, t, c, co, li, rfl, hv, ht, ok, hd, hc, hl, q⟩ := h
    refine ⟨_, pss_cons (ps_if (pt_cmpR op_eq (pv 0) pe_str (nomark _)) (pss_one (ps_ret (pe_cmpR op_in_seq (pv 1) (pe_gr T.g_CHANGED) (by rfl)))) pss_nil)
      (pss_cons (ps_if (pt_cmpR op_eq (pv 0) pe_str (nomark _)) (pss_one (ps_ret (pe_ca (ca_is_within T) hr (pa_cons (pv 1) (pa_cons pe_int (pa_cons (pe_op op_sub (pe_fld (pv 4) rfl) pe_int) pa_nil))) (by omega)))) pss_nil)
      (pss_cons (ps_if (pt_cmpR op_eq (pv 0) pe_str (nomark _)) (pss_one (ps_ret (pe_ca (ca_is_expression T 7) hr (pa_cons (pv 1) (pa_cons pe_int pa_nil)) (by omega)))) pss_nil)
      (pss_one (ps_ret (pe_ca R hr (pa_cons (pv 1) (pa_cons (pe_op op_add (pv 2) pe_int) (pa_cons (pv 3) (pa_cons (pv 4) pa_nil)))) (by omega)))))), ?_⟩
    obtain ⟨dx, ht'⟩ := id ht
    cases p with
    | reg r =>
      cases dp_str hv
      refine ⟨_, rfl, rfl, _, rfl, iteT ?_⟩
      refine ⟨_, rfl, _, _, rfl, .inr (sq_CHANGED T H), rfl, by decide +kernel, ?_⟩
      show Q (.bl (inV (.str r) (regs4.map V.str))) H
      rw [in_regs4 r ok]
      exact q H (fun b o _ e => e) ht
    | cell k =>
      cases dp_int hv
      refine ⟨_, rfl, rfl, _, rfl, iteF ?_⟩
      refine ⟨_, rfl, rfl, _, rfl, iteT ?_⟩
      refine ⟨_, rfl, _, rfl, t, _, dx, _, _, rfl, ht', T.c_Tally, T.n_Tally_cells, tf_cells .., _, _, rfl, rfl, k, 0, c - 1, rfl, ?_⟩
      rw [within_t ⟨ok.1, by have := ok.2; omega⟩]
      exact q H (fun b o _ e => e) ht
    | ex e =>
      refine ⟨_, rfl, rfl, _, rfl, iteF ?_⟩
      refine ⟨_, rfl, rfl, _, rfl, iteF ?_⟩
      refine ⟨_, rfl, rfl, _, rfl, iteT ?_⟩
      exact ⟨_, rfl, v, e, 0, rfl, hv, ok.1, ok.2, by have := ok.2; omega, q H (fun b o _ e => e) ht⟩
    | rows rs =>
      refine ⟨_, rfl, rfl, _, rfl, iteF ?_⟩
      refine ⟨_, rfl, rfl, _, rfl, iteF ?_⟩
      refine ⟨_, rfl, rfl, _, rfl, iteF ?_⟩
      obtain ⟨m, rfl⟩ : ∃ m, n = m + 1 := ⟨n - 1, by omega⟩
      exact ⟨_, rfl, _, rfl, _, _, rfl, rfl, _, rfl, _, rfl, v, rs, deep + 1, loops, t, c, co, li, by simp, hv, ht, ok, by omega, hc, hl, q⟩
end

end M

set_option Elab.async false
set_option linter.all false
set_option maxRecDepth 100000
set_option maxHeartbeats 2000000
namespace M
open PySem PySem.Spec PyProof.Rows L2

theorem cut1 (x : V) (xs : List V) : cutV (x :: xs) (some 1) none = xs := by
  unfold cutV
  rw [show (some (1 : Int)) = some ((1 : Nat) : Int) from rfl, HT.sIx_nat, HT.sIx_none, show min 1 (x :: xs).length = 1 from by simp]
  simp
theorem cut1_not (x : V) (xs : List V) : ¬ (HT.sIx (x :: xs).length 0 (some 1) = 0 ∧ HT.sIx (x :: xs).length (x :: xs).length none = (x :: xs).length) := by
  rw [show (some (1 : Int)) = some ((1 : Nat) : Int) from rfl, HT.sIx_nat, show min 1 (x :: xs).length = 1 from by simp]
  intro h
  exact absurd h.1 (by decide)
theorem word_coin {r : Row} (h : r.word = "coin") : ∃ x, r = .coin x := by
  cases r with
  | read r c => exact absurd (show ("read" : Str) = "coin" from h) (by decide +kernel)
  | set c e => exact absurd (show ("set" : Str) = "coin" from h) (by decide +kernel)
  | swap r c e f => exact absurd (show ("swap" : Str) = "coin" from h) (by decide +kernel)
  | keep r e => exact absurd (show ("keep" : Str) = "coin" from h) (by decide +kernel)
  | coin r => exact ⟨r, rfl⟩
  | iff e a b => exact absurd (show ("if" : Str) = "coin" from h) (by decide +kernel)
  | times e a => exact absurd (show ("times" : Str) = "coin" from h) (by decide +kernel)
  | ans e => exact absurd (show ("answer" : Str) = "coin" from h) (by decide +kernel)
theorem word_times {r : Row} (h : r.word = "times") : ∃ e a, r = .times e a := by
  cases r with
  | read r c => exact absurd (show ("read" : Str) = "times" from h) (by decide +kernel)
  | set c e => exact absurd (show ("set" : Str) = "times" from h) (by decide +kernel)
  | swap r c e f => exact absurd (show ("swap" : Str) = "times" from h) (by decide +kernel)
  | keep r e => exact absurd (show ("keep" : Str) = "times" from h) (by decide +kernel)
  | coin r => exact absurd (show ("coin" : Str) = "times" from h) (by decide +kernel)
  | iff e a b => exact absurd (show ("if" : Str) = "times" from h) (by decide +kernel)
  | times e a => exact ⟨e, a, rfl⟩
  | ans e => exact absurd (show ("answer" : Str) = "times" from h) (by decide +kernel)
theorem lp_eq {loops : Nat} {r : Row} (h : r.word ≠ "times") : r.lp loops = loops := by
  cases r <;> first | rfl | exact absurd rfl h
theorem co_eq {r : Row} (h : r.word ≠ "coin") : r.co = 0 := by
  cases r <;> first | rfl | exact absurd rfl h
section
variable {P : Program} {w : World} {K : PySem.W.Frag} {mg : Str → Option Value} {base : Heap}
def spRow (K : PySem.W.Frag) (n : Nat) : Sp := fun vs H Q _ => ∃ (v : V) (r : Row) (deep loops : Nat) (t : Addr) (c : Int) (co li : Nat), vs = [v, .int deep, .int loops, .ref t] ∧ Dp K H v r.d ∧ TallyAt K H t c co li ∧ r.ok c deep loops ∧ (14 ≤ deep + (n + 1) ∧ deep ≤ 12) ∧ co + r.cc ≤ 4 ∧ li + sumN (r.prts.map Prt.cl) ≤ 2000 ∧
    ∀ H', But t H H' → TallyAt K H' t c ((co + r.cc : Nat) : Int) ((li + sumN (r.prts.map Prt.cl) : Nat) : Int) → Q (.bl true) H'
theorem ca_is_body_row {n : Nat} (R : Ca P w K mg base (3 * n + 11) "is_part" (spPart K n)) (T : Txt w K mg) : Ca P w K mg base (3 * n + 12) "is_body_row" (spRow K n) := by
    refine ca_of (N := ["row", "deep", "loops", "tally", "form", "kind", "part"]) (ps := ["row", "deep", "loops", "tally"]) T.f_is_body_row T.g_is_body_row ⟨rfl, rfl, rfl, by decide +kernel, rfl, by decide +kernel, by decide +kernel⟩ (fun _ _ _ _ _ _ us hl => match us, hl with | [_, _, _, _], _ => rfl)
      (fun vs H Q E h => by obtain ⟨v, r, deep, loops, t, c, co, li, rfl, hv, ht, ok, hd, hc, hl, q⟩ := h; rfl) (fun cdv A outer s H vs Q E hr h => ?_)
    have nd : (["row", "deep", "loops", "tally", "form", "kind", "part"] : List Str).Nodup := by decide +kernel
    obtain ⟨v, r, deep, loops, t, c, co, li, rfl, hv, ht, ok, hd, hc, hl, q⟩ := h
    obtain ⟨es, nn, D⟩ := T.t_FORMS
    rw [row_d] at hv
    obtain ⟨a, xs, rfl, ha, hxs⟩ := dp_tup hv
    obtain ⟨y, ys, rfl, hy, hys⟩ : ∃ y ys, xs = y :: ys ∧ Dp K H y (.str r.word) ∧ DpAll K H ys (r.prts.map Prt.d) := by
      cases hxs with | cons h1 h2 => exact ⟨_, _, rfl, h1, h2⟩
    cases dp_str hy
    obtain ⟨f, hf, hfs⟩ := form_at T r H
    refine ⟨_, pss_cons (ps_if (PW.pt (pw_or (pt_not (pt_val (pe_is .tuple T.b_isinstance (pv 0) T.b_tuple boot_tuple))) (pw_or (pt_cmpR op_eq (pe_callB call_len_seq (by rfl) T.b_len PySem.boot_len (pa_cons (pv 0) pa_nil)) pe_int (nomark _)) (pw_or1 (pt_not (pt_val (pe_is .str T.b_isinstance (pe_ix ix_tup (pv 0) pe_int (fun _ _ => rfl)) T.b_str boot_str))))))) (pss_one (ps_ret pe_bl)) pss_nil)
      (pss_cons (ps_set (i := 4) nd rfl (.inl rfl) (pe_kget D (pe_gr T.g_FORMS) (pe_ix ix_tup (pv 0) pe_int (fun _ _ => rfl)) ⟨rfl, rfl, rfl, rfl⟩))
      (pss_cons (ps_if (PW.pt (pw_or (pt_cmp (pc_isN (pv 4))) (pw_or1 (pt_cmpR op_ne (pe_callB call_len_seq (by rfl) T.b_len PySem.boot_len (pa_cons (pv 0) pa_nil)) (pe_op op_add pe_int (pe_callB call_len_seq (by rfl) T.b_len PySem.boot_len (pa_cons (pv 4) pa_nil))) (nomark _))))) (pss_one (ps_ret pe_bl)) pss_nil)
      (C8.pss_cut (ps_if (pt_cmpR op_eq (pe_ix ix_tup (pv 0) pe_int (fun _ _ => rfl)) pe_str (nomark _)) (pss_cons (ps_fldaug (pv 3) pe_int in_add) (pss_one (ps_if (PW.pt (pw_or (pt_cmpR op_gt (pv 2) pe_int (nomark _)) (pw_or1 (pt_cmpR op_gt (pe_fld (pv 3) rfl) (pe_gi T.i_MOST_COINS) (nomark _))))) (pss_one (ps_ret pe_bl)) pss_nil))) pss_nil)
      (C8.pss_cut (ps_if (pt_cmpR op_eq (pe_ix ix_tup (pv 0) pe_int (fun _ _ => rfl)) pe_str (nomark _)) (pss_cons (ps_aug (i := 2) nd rfl (.inl rfl) pe_int ip_add) (pss_one (ps_if (pt_cmpR op_gt (pv 2) (pe_gi T.i_DEEPEST_TIMES) (nomark _)) (pss_one (ps_ret pe_bl)) pss_nil))) pss_nil)
      (pss_cons (ps_for PassesOwn.never rfl (RZ.pi_zipA (by rfl) T.b_zip (pa_cons (pv 4) (pa_cons (pe_slice sl_tup (pv 0) (po_some pe_int) po_none) pa_nil))) (pg_two K 5 6 rfl rfl nd rfl rfl (.inl rfl) (.inl rfl) (.inr rfl) (.inr rfl))
        (pss_one (ps_if (pt_not (pt_val (pe_ca R hr (pa_cons (pv 5) (pa_cons (pv 6) (pa_cons (pv 1) (pa_cons (pv 2) (pa_cons (pv 3) pa_nil)))))  (by omega)))) (pss_one (ps_ret pe_bl)) pss_nil)))
      (pss_one (ps_ret pe_bl))))))), ?_⟩
    have lxs : ys.length = r.prts.length := by rw [dps_len hys, List.length_map]
    -- a tuple of a word and more
    refine ⟨_, rfl, _, _, rfl, .tuple ha, _, rfl, iteF ?_⟩
    refine ⟨_, rfl, _, _, rfl, .inr ha, rfl, _, rfl, ?_⟩
    rw [decide_eq_false (show ¬ V.int (((.str r.word :: ys : List V).length : Nat) : Int) = V.int 0 from fun e => by have := V.int.inj e; simp at this; omega)]
    refine iteF ?_
    refine ⟨_, rfl, _, _, _, _, rfl, rfl, ha, at0, _, _, rfl, .str _, _, rfl, iteF ?_⟩
    -- its form
    refine ⟨rfl, _, rfl, _, _, _, _, rfl, rfl, ha, at0, r.word, _, .ref f, rfl, hf, rfl, ?_⟩
    refine ⟨_, rfl, _, rfl, iteF ?_⟩
    refine ⟨_, rfl, _, _, rfl, .inr ha, _, rfl, _, _, rfl, .inr hfs, _, _, rfl, rfl, rfl, _, rfl, ?_⟩
    refine iteNS (by rw [List.length_cons, lxs, List.length_map, List.length_map]; congr 1; omega) ?_
    -- the coins
    refine ⟨fun σ' H' => σ' = [some (.ref a), some (.int deep), some (.int loops), some (.ref t), some (.ref f), none, none] ∧ But t H H' ∧ TallyAt K H' t c ((co + r.co : Nat) : Int) li, ?_, ?_⟩
    · refine ⟨_, rfl, _, _, _, _, rfl, rfl, ha, at0, rfl, _, rfl, ?_⟩
      by_cases e : r.word = "coin"
      · rw [e]
        refine iteT ?_
        obtain ⟨dx, ht'⟩ := ht
        refine ⟨_, rfl, t, _, dx, _, _, rfl, ht', T.c_Tally, T.n_Tally_coins, tf_coins .., _, _, rfl, rfl, dx, _, ht', (by rw [tfl_eq]; show 3 < 1000; decide), ?_⟩
        rw [tf_putC]
        obtain ⟨x, rfl⟩ := word_coin e
        have e1 : (Row.coin x).co = 1 := rfl
        have e2 : loops = 0 := ok.2
        have e3 := row_cc (.coin x)
        refine ⟨_, rfl, _, _, rfl, rfl, _, rfl, ?_⟩
        rw [decide_eq_false (show ¬ (0 : Int) < (loops : Int) from by omega)]
        refine iteF ⟨_, rfl, t, _, dx, _, _, rfl, upd_same, T.c_Tally, T.n_Tally_coins, tf_coins .., _, _, rfl, rfl, _, rfl, ?_⟩
        rw [decide_eq_false (show ¬ (4 : Int) < (co : Int) + 1 from by omega)]
        refine iteF ⟨rfl, But.upd, dx, ?_⟩
        rw [upd_same, e1]
        rfl
      · rw [decide_eq_false (show ¬ V.str r.word = V.str "coin" from fun z => e (V.str.inj z))]
        refine iteF ⟨rfl, fun b o _ z => z, ?_⟩
        rw [co_eq e]
        exact ht
    rintro σ1 H1 ⟨rfl, b1, ht1⟩
    -- the times
    have ch : Ch H t := by obtain ⟨dx, z⟩ := ht; exact .ins z
    have ch1 : Ch H1 t := by obtain ⟨dx, z⟩ := ht1; exact .ins z
    have ha1 := sqT_but ch b1 ha
    refine ⟨fun σ' H' => σ' = [some (.ref a), some (.int deep), some (.int ((r.lp loops : Nat) : Int)), some (.ref t), some (.ref f), none, none] ∧ H' = H1, ?_, ?_⟩
    · refine ⟨_, rfl, _, _, _, _, rfl, rfl, ha1, at0, rfl, _, rfl, ?_⟩
      by_cases e : r.word = "times"
      · rw [e]
        refine iteT ?_
        have ⟨e1, e2⟩ : r.lp loops = loops + 1 ∧ loops < 2 := by
          obtain ⟨x, y, rfl⟩ := word_times e
          exact ⟨rfl, ok.2.1⟩
        refine ⟨_, rfl, _, _, rfl, rfl, ?_⟩
        refine ⟨_, rfl, _, _, rfl, rfl, _, rfl, ?_⟩
        rw [decide_eq_false (show ¬ (2 : Int) < (loops : Int) + 1 from by omega)]
        refine iteF ⟨?_, rfl⟩
        rw [e1]
        rfl
      · rw [decide_eq_false (show ¬ V.str r.word = V.str "times" from fun z => e (V.str.inj z))]
        refine iteF ⟨?_, rfl⟩
        rw [lp_eq e]
    rintro σ2 H2 ⟨rfl, rfl⟩
    -- the parts
    refine ⟨_, rfl, _, rfl, _, rfl, a, _, rfl, ha1, cut1_not _ _, fun p np => ?_⟩
    rw [cut1]
    have hfs1 : SqT K H2 f ((r.prts.map Prt.kind).map V.str) := sqT_but ch b1 hfs
    have ntp : t ≠ p := fun z => by obtain ⟨dx, y⟩ := ht1; rw [z, np] at y; cases y
    have sn : Same H2 (upd H2 p (.tup ys)) := same_new np
    refine ⟨f, p, _, _, rfl, .inr ⟨same_t sn hfs1, .of upd_same, RZ.for_zipT (xs := (r.prts.map Prt.kind).map V.str) (ys := ys) (by simp [lxs]) (fun i σ' H' => ∃ x y, σ' = [some (.ref a), some (.int deep), some (.int ((r.lp loops : Nat) : Int)), some (.ref t), some (.ref f), x, y] ∧ But t (upd H2 p (.tup ys)) H' ∧ TallyAt K H' t c ((co + r.co + sumN ((r.prts.map Prt.cc).take i) : Nat) : Int) ((li + sumN ((r.prts.map Prt.cl).take i) : Nat) : Int))
      ⟨none, none, rfl, fun b o _ z => z, by obtain ⟨dx, y⟩ := ht1; exact ⟨dx, sn _ _ y⟩⟩ (fun i σ' H' ⟨_, _, _, bt, _⟩ => ⟨sqT_but (H := upd H2 p (.tup ys)) (by obtain ⟨dx, y⟩ := ht1; exact .ins (sn _ _ y)) bt (same_t sn hfs1), sqT_but (H := upd H2 p (.tup ys)) (by obtain ⟨dx, y⟩ := ht1; exact .ins (sn _ _ y)) bt (.of upd_same)⟩) ?_ ?_⟩⟩
    · rintro i x y tt σ' H' hx hy' ⟨_, _, rfl, bt, hta⟩ ntt
      obtain ⟨kk, hk, rfl⟩ := get_mapA hx
      obtain ⟨pp, hp, rfl⟩ := get_mapA hk
      obtain ⟨dd, hdd, hyd⟩ := dps_get hys hy'
      obtain ⟨pp', hp', rfl⟩ := get_mapA hdd
      rw [hp] at hp'
      cases hp'
      have okp := row_prts ok pp (List.mem_of_getElem? hp)
      have nl : NoL pp.d := by
        have := r.noL
        rw [row_d] at this
        cases this with
        | tup h => exact h _ (List.mem_cons_of_mem _ (List.mem_map.mpr ⟨pp, List.mem_of_getElem? hp, rfl⟩))
      have chp : Ch (upd H2 p (.tup ys)) t := by obtain ⟨dx, y⟩ := ht1; exact .ins (sn _ _ y)
      have hy2 : Dp K H' y pp.d := dp_but chp bt (dp_same sn (dp_but ch b1 hyd nl)) nl
      have sn2 : Same H' (upd H' tt (.tup [.str pp.kind, y])) := same_new ntt
      have ntt' : t ≠ tt := fun z => by obtain ⟨dx, y⟩ := hta; rw [z, ntt] at y; cases y
      have ec : ((r.prts.map Prt.cc)[i]?) = some pp.cc := by rw [List.getElem?_map, hp]; rfl
      have el : ((r.prts.map Prt.cl)[i]?) = some pp.cl := by rw [List.getElem?_map, hp]; rfl
      have sc := sumN_take ec
      have sl := sumN_take el
      have lc := sumN_le (r.prts.map Prt.cc) (i + 1)
      have ll := sumN_le (r.prts.map Prt.cl) (i + 1)
      have rc := row_cc r
      refine ⟨tt, _, rfl, SqT.of upd_same, rfl, _, _, rfl, _, _, rfl, rfl, ?_⟩
      refine ⟨_, rfl, _, rfl, _, rfl, _, rfl, _, rfl, y, pp, deep, r.lp loops, t, c, co + r.co + sumN ((r.prts.map Prt.cc).take i), li + sumN ((r.prts.map Prt.cl).take i), rfl, dp_same sn2 hy2, by obtain ⟨dx, z⟩ := hta; exact ⟨dx, sn2 _ _ z⟩, okp, hd, by omega, by omega, fun H3 b3 ht3 => ⟨_, rfl, iteF ⟨_, _, rfl, ?_, ?_⟩⟩⟩
      · exact fun b o hb z => b3 b o hb (sn2 b o (bt b o hb z))
      · rw [sc, sl, ← Nat.add_assoc, ← Nat.add_assoc]
        exact ht3
    · rintro σ' H' ⟨_, _, rfl, bt, hta⟩
      have rc := row_cc r
      refine q H' (fun b o hb z => bt b o hb (sn b o (b1 b o hb z))) ?_
      rw [List.length_map, List.length_map, List.take_of_length_le (by simp), List.take_of_length_le (by simp)] at hta
      rw [rc, ← Nat.add_assoc]
      exact hta
end

end M

set_option Elab.async false
set_option linter.all false
set_option maxRecDepth 100000
set_option maxHeartbeats 2000000
namespace M
open PySem PySem.Spec PyProof.Rows L2

def rowsOkAt {c : Int} {deep loops : Nat} : ∀ {rs : List Row}, rowsOk c deep loops rs → ∀ r ∈ rs, deep ≤ 12 ∧ r.ok c deep loops
  | [], _, r, h => by cases h
  | a :: rs, h, r, hr => by
    have h : deep ≤ 12 ∧ a.ok c deep loops ∧ rowsOk c deep loops rs := h
    rcases List.mem_cons.mp hr with rfl | hr
    · exact ⟨h.1, h.2.1⟩
    · exact rowsOkAt h.2.2 r hr
theorem rowsCl_sum : ∀ rs : List Row, rowsCl rs = sumN (rs.map Row.cl)
  | [] => rfl
  | r :: rs => by rw [rowsCl, rowsCl_sum rs]; rfl
theorem rowsCc_sum : ∀ rs : List Row, rowsCc rs = sumN (rs.map Row.cc)
  | [] => rfl
  | r :: rs => by rw [rowsCc, rowsCc_sum rs]; rfl
section
variable {P : Program} {w : World} {K : PySem.W.Frag} {mg : Str → Option Value} {base : Heap}
theorem ca_are_body_rows {n : Nat} (R : Ca P w K mg base (3 * n + 12) "is_body_row" (spRow K n)) (T : Txt w K mg) : Ca P w K mg base (3 * n + 13) "are_body_rows" (spRows K (n + 1)) := by
    refine ca_of (N := ["rows", "deep", "loops", "tally", "row"]) (ps := ["rows", "deep", "loops", "tally"]) T.f_are_body_rows T.g_are_body_rows ⟨rfl, rfl, rfl, by decide +kernel, rfl, by decide +kernel, by decide +kernel⟩ (fun _ _ _ _ _ _ us hl => match us, hl with | [_, _, _, _], _ => rfl)
      (fun vs H Q E h => by obtain ⟨v, rs, deep, loops, t, c, co, li, rfl, hv, ht, ok, hd, hc, hl, q⟩ := h; rfl) (fun cdv A outer s H vs Q E hr h => ?_)
    have nd : (["rows", "deep", "loops", "tally", "row"] : List Str).Nodup := by decide +kernel
    obtain ⟨v, rs, deep, loops, t, c, co, li, rfl, hv, ht, ok, hd, hc, hl, q⟩ := h
    obtain ⟨a, xs, rfl, ha, hxs⟩ := dp_tup hv
    have lxs : xs.length = rs.length := by rw [dps_len hxs, rowsD_map, List.length_map]
    have ch : Ch H t := by obtain ⟨dx, z⟩ := ht; exact .ins z
    refine ⟨_, (pss_cons (ps_if (pt_not (pt_val (pe_is .tuple T.b_isinstance (pv 0) T.b_tuple boot_tuple))) (pss_one (ps_ret pe_bl)) pss_nil)
      (pss_cons (ps_for PassesOwn.never rfl (pi_tup (pv 0)) (pg_name (i := 4) nd rfl (.inl rfl)) (pss_cons (ps_fldaug (pv 3) pe_int in_add)
      (pss_one (ps_if (PW.pt (pw_or (pt_cmpR op_gt (pv 1) (pe_gi T.i_DEEPEST_ROW) (nomark _)) (pw_or (pt_cmpR op_gt (pe_fld (pv 3) rfl) (pe_gi T.i_MOST_ROWS) (nomark _)) (pw_or1 (pt_not (pt_val (pe_ca R hr (pa_cons (pv 4) (pa_cons (pv 1) (pa_cons (pv 2) (pa_cons (pv 3) pa_nil)))) (by omega)))))))) (pss_one (ps_ret pe_bl)) pss_nil))))
      (pss_one (ps_ret pe_bl)))), ?_⟩
    refine ⟨_, rfl, _, _, rfl, .tuple ha, _, rfl, iteF ?_⟩
    refine ⟨_, rfl, a, rfl, ⟨_, ha⟩, for_tup (xs := xs) (fun i σ' H' => ∃ x, σ' = [some (.ref a), some (.int deep), some (.int loops), some (.ref t), x] ∧ But t H H' ∧ TallyAt K H' t c ((co + sumN ((rs.map Row.cc).take i) : Nat) : Int) ((li + sumN ((rs.map Row.cl).take i) : Nat) : Int))
      ⟨none, rfl, fun b o _ z => z, ht⟩ (fun i σ' H' _ ⟨_, _, bt, _⟩ => sqT_but ch bt ha) ?_ ?_⟩
    · rintro i x σ' H' hx ⟨_, rfl, bt, hta⟩
      obtain ⟨dd, hdd, hxd⟩ := dps_get hxs hx
      rw [rowsD_map] at hdd
      obtain ⟨r, hr', rfl⟩ := get_mapA hdd
      have okr := rowsOkAt ok r (List.mem_of_getElem? hr')
      have ec : ((rs.map Row.cc)[i]?) = some r.cc := by rw [List.getElem?_map, hr']; rfl
      have el : ((rs.map Row.cl)[i]?) = some r.cl := by rw [List.getElem?_map, hr']; rfl
      have sc := sumN_take ec
      have sl := sumN_take el
      have lc := sumN_le (rs.map Row.cc) (i + 1)
      have ll := sumN_le (rs.map Row.cl) (i + 1)
      have rl := row_cl r
      have s1 := rowsCl_sum rs
      have s2 := rowsCc_sum rs
      have hx2 : Dp K H' x r.d := dp_but ch bt hxd r.noL
      obtain ⟨dx, hta'⟩ := id hta
      refine ⟨_, rfl, t, _, dx, _, _, rfl, hta', T.c_Tally, T.n_Tally_lines, tf_lines .., _, _, rfl, rfl, dx, _, hta', (by rw [tfl_eq]; show 3 < 1000; decide), ?_⟩
      rw [tf_putL]
      refine ⟨_, rfl, _, _, rfl, rfl, _, rfl, ?_⟩
      rw [decide_eq_false (show ¬ (12 : Int) < (deep : Int) from by omega)]
      refine iteF ⟨_, rfl, t, _, dx, _, _, rfl, upd_same, T.c_Tally, T.n_Tally_lines, tf_lines .., _, _, rfl, rfl, _, rfl, ?_⟩
      rw [decide_eq_false (show ¬ (2000 : Int) < ((li + sumN ((rs.map Row.cl).take i) : Nat) : Int) + 1 from by omega)]
      have ch' : Ch H' t := .ins hta'
      refine iteF ⟨_, rfl, _, rfl, _, rfl, _, rfl, x, r, deep, loops, t, c, co + sumN ((rs.map Row.cc).take i), li + sumN ((rs.map Row.cl).take i) + 1, rfl, dp_but ch' But.upd hx2 r.noL, ⟨dx, by rw [upd_same]; rfl⟩, okr.2, ⟨by omega, okr.1⟩, by omega, by omega, fun H3 b3 ht3 => ⟨_, rfl, iteF ⟨_, rfl, ?_, ?_⟩⟩⟩
      · exact fun b o hb z => b3 b o hb (by rw [upd_ne hb]; exact bt b o hb z)
      · rw [sc, sl, ← Nat.add_assoc, show li + (sumN ((rs.map Row.cl).take i) + r.cl) = li + sumN ((rs.map Row.cl).take i) + 1 + sumN (r.prts.map Prt.cl) from by omega]
        exact ht3
    · rintro σ' H' ⟨_, rfl, bt, hta⟩
      refine q H' bt ?_
      rw [lxs, List.take_of_length_le (by simp), List.take_of_length_le (by simp)] at hta
      rw [rowsCl_sum, rowsCc_sum]
      exact hta
theorem ca_rows (T : Txt w K mg) : ∀ n, Ca P w K mg base (3 * n + 10) "are_body_rows" (spRows K n)
  | 0 => ca_false (ps := ["rows", "deep", "loops", "tally"]) T.f_are_body_rows T.g_are_body_rows (fun _ _ _ _ _ _ us hl => match us, hl with | [_, _, _, _], _ => rfl)
  | n + 1 => ca_are_body_rows (ca_is_body_row (ca_is_part (ca_rows T n) T) T) T
def spBody (K : PySem.W.Frag) : Sp := fun vs H Q _ => ∃ (v : V) (rs : List Row) (c : Int), vs = [v, .int c] ∧ Dp K H v (.tuple (rowsD rs)) ∧ rowsOk c 1 0 rs ∧ rowsCc rs ≤ 4 ∧ rowsCl rs ≤ 2000 ∧ ∀ H', Same H H' → Q (.bl true) H'
theorem ca_is_body (T : Txt w K mg) : Ca P w K mg base 50 "is_body" (spBody K) := by
  refine ca_of (N := ["rows", "cells"]) (ps := ["rows", "cells"]) T.f_is_body T.g_is_body ⟨rfl, rfl, rfl, by decide +kernel, rfl, by decide +kernel, by decide +kernel⟩ (fun _ _ _ _ _ _ us hl => match us, hl with | [_, _], _ => rfl)
    (fun vs H Q E h => by obtain ⟨v, rs, c, rfl, hv, ok, hc, hl, q⟩ := h; rfl) (fun cdv A outer s H vs Q E hr h => ?_)
  have nd : (["rows", "cells"] : List Str).Nodup := by decide +kernel
  obtain ⟨v, rs, c, rfl, hv, ok, hc, hl, q⟩ := h
  refine ⟨_, pss_one (ps_ret (pe_ca (ca_rows T 13) hr (pa_cons (pv 0) (pa_cons pe_int (pa_cons pe_int (pa_cons (pe_ma (ma_Tally T) hr (pa_cons (pv 1) pa_nil)) pa_nil)))))), ?_⟩
  refine ⟨_, rfl, _, rfl, fun t dx nt nd ndt => ?_⟩
  have s0 : ∀ o : HO, Same H (upd (upd H dx (.own t)) t o) := fun o b u e => by
    rw [upd_ne (ne_of_none e nt), upd_ne (ne_of_none e nd)]
    exact e
  refine ⟨t, dx, c, rfl, upd_same, rfl, v, rs, 1, 0, t, c, 0, 0, rfl, ?_, ⟨dx, upd_same⟩, ok, (by decide), by omega, by omega, fun H' bt _ => ?_⟩
  · rw [upd_upd]
    exact dp_same (s0 _) hv
  · rw [upd_upd] at bt
    exact q H' fun b o e => bt b o (ne_of_none e nt) (s0 _ b o e)
end

end M

set_option Elab.async false
set_option linter.all false
set_option maxRecDepth 100000
set_option maxHeartbeats 2000000
namespace M
open PySem PySem.Spec PyProof.Rows L2

def CellOk (c : Int × Int) : Prop := 1 ≤ c.1 ∧ c.1 ≤ 9 ∧ 0 ≤ c.2 ∧ c.2 < c.1
def NameOk (s : Str) : Prop := 1 ≤ s.length ∧ s.length ≤ 8 ∧ ∀ c ∈ s.cps.toList, 97 ≤ c ∧ c ≤ 122
def DeedOk (c : Int) (d : Str × Int × List Row) : Prop := NameOk d.1 ∧ (1 ≤ d.2.1 ∧ d.2.1 ≤ 9) ∧ rowsOk c 1 0 d.2.2 ∧ rowsCc d.2.2 ≤ 4 ∧ rowsCl d.2.2 ≤ 2000
/-- what a vault is -/
structure VGood (v : Vlt) : Prop where
  c0 : 1 ≤ v.cells.length
  c1 : v.cells.length ≤ 6
  cs : ∀ c ∈ v.cells, CellOk c
  d0 : 1 ≤ v.deeds.length
  d1 : v.deeds.length ≤ 8
  ds : ∀ d ∈ v.deeds, DeedOk v.cells.length d
  nd : (v.deeds.map (·.1)).Nodup
theorem VGood.ok {v : Vlt} (g : VGood v) : VOk v := ⟨g.c1, g.d1, fun d hd => (g.ds d hd).2.1, g.nd⟩
theorem deed_noL (d : Str × Int × List Row) : NoL (deedD d) := .tup (by
  intro e h
  simp at h
  rcases h with rfl | rfl | rfl
  · exact .str _
  · exact .int _
  · exact .tup (rows_noL _))
theorem cell_noL (c : Int × Int) : NoL (cellD c) := .tup (by
  intro e h
  simp at h
  rcases h with rfl | rfl <;> constructor)
theorem sign_le {a c : Nat} (h : a ≤ c) : (!decide (([c] : List Nat) < [a])) = true := by
  have : ¬ (([c] : List Nat) < [a]) := by
    rw [List.cons_lt_cons_iff]
    rintro (h1 | ⟨_, h2⟩)
    · omega
    · exact absurd h2 (by simp)
  rw [decide_eq_false this]
  rfl
theorem Ch.ext {H : Hp} {D : Addr} {φ : Heap → Prop} (h : H D = some (.ext φ)) : Ch H D := ⟨fun _ e => (by rw [h] at e; cases e), fun _ _ e => (by rw [h] at e; cases e)⟩
theorem if_true_of {c : Bool} {A B : Prop} (hc : c = true) (h : A) : if c = true then A else B := by
  rw [if_pos hc]
  exact h
theorem if_not_of {c : Bool} {A B : Prop} (hc : c = true) (h : B) : if (!c) = true then A else B := by
  rw [hc]
  exact iteF h
section
variable {P : Program} {w : World} {K : PySem.W.Frag} {mg : Str → Option Value} {base : Heap}
def spCell (K : PySem.W.Frag) : Sp := fun vs H Q _ => ∃ (v : V) (c : Int × Int), vs = [v] ∧ Dp K H v (cellD c) ∧ CellOk c ∧ Q (.bl true) H
theorem ca_is_cell (T : Txt w K mg) : Ca P w K mg base 3 "is_cell" (spCell K) := by
  refine ca_of (N := ["value"]) (ps := ["value"]) T.f_is_cell T.g_is_cell ⟨rfl, rfl, rfl, by decide +kernel, rfl, by decide +kernel, by decide +kernel⟩ (fun _ _ _ _ _ _ us hl => match us, hl with | [_], _ => rfl)
    (fun vs H Q E h => by obtain ⟨v, c, rfl, hv, ok, q⟩ := h; rfl) (fun cdv A outer s H vs Q E hr h => ?_)
  have nd : (["value"] : List Str).Nodup := by decide +kernel
  obtain ⟨v, c, rfl, hv, ok, q⟩ := h
  refine ⟨_, (pss_one (ps_ret (pe_and (pe_ca (ca_is_tuple T) hr (pa_cons (pv 0) (pa_cons pe_int pa_nil))) (pe_and (pe_ca (ca_is_within T) hr (pa_cons (pe_ix ix_tup (pv 0) pe_int (fun _ _ => rfl)) (pa_cons pe_int (pa_cons (pe_gi T.i_GREATEST_SIZE) pa_nil)))) (pe_one (pe_ca (ca_is_within T) hr (pa_cons (pe_ix ix_tup (pv 0) pe_int (fun _ _ => rfl)) (pa_cons pe_int (pa_cons (pe_op op_sub (pe_ix ix_tup (pv 0) pe_int (fun _ _ => rfl)) pe_int) pa_nil))))))))), ?_⟩
  obtain ⟨a, x, y, rfl, ha, hx, hy⟩ := dp2 hv
  cases dp_int hx
  cases dp_int hy
  obtain ⟨o1, o2, o3, o4⟩ := ok
  refine ⟨_, rfl, a, _, _, rfl, ha, _, rfl, iteT ?_⟩
  refine ⟨_, rfl, _, _, _, _, rfl, rfl, ha, at0, c.1, 1, 9, rfl, _, rfl, ?_⟩
  rw [within_t ⟨o1, o2⟩]
  refine iteT ⟨_, rfl, _, _, _, _, rfl, rfl, ha, at1, _, rfl, _, _, _, _, rfl, rfl, ha, at0, _, _, rfl, rfl, c.2, 0, c.1 - 1, rfl, ?_⟩
  rw [within_t ⟨o3, by omega⟩]
  exact q
def spCells (K : PySem.W.Frag) : Sp := fun vs H Q _ => ∃ (a : Addr) (xs : List V) (cs : List (Int × Int)), vs = [.ref a] ∧ SqL K H a xs ∧ DpAll K H xs (cs.map cellD) ∧ 1 ≤ cs.length ∧ cs.length ≤ 6 ∧ (∀ c ∈ cs, CellOk c) ∧ Q (.bl true) H
theorem ca_are_cells (T : Txt w K mg) : Ca P w K mg base 4 "are_cells" (spCells K) := by
  refine ca_of (N := ["cells", "cell"]) (ps := ["cells"]) T.f_are_cells T.g_are_cells ⟨rfl, rfl, rfl, by decide +kernel, rfl, by decide +kernel, by decide +kernel⟩ (fun _ _ _ _ _ _ us hl => match us, hl with | [_], _ => rfl)
    (fun vs H Q E h => by obtain ⟨a, xs, cs, rfl, ha, hxs, h1, h6, ok, q⟩ := h; rfl) (fun cdv A outer s H vs Q E hr h => ?_)
  have nd : (["cells", "cell"] : List Str).Nodup := by decide +kernel
  obtain ⟨a, xs, cs, rfl, ha, hxs, h1, h6, ok, q⟩ := h
  have lx : xs.length = cs.length := by rw [dps_len hxs, List.length_map]
  refine ⟨_, (pss_cons (ps_if (pt_not (pt_chain op_le op_le pe_int (pe_callB call_len_seq (by rfl) T.b_len PySem.boot_len (pa_cons (pv 0) pa_nil)) (pe_gi T.i_MOST_CELLS))) (pss_one (ps_ret pe_bl)) pss_nil)
      (pss_cons (ps_for PassesOwn.never rfl (pi_list (pv 0)) (pg_name (i := 1) nd rfl (.inl rfl)) (pss_one (ps_if (pt_not (pt_val (pe_ca (ca_is_cell T) hr (pa_cons (pv 1) pa_nil)))) (pss_one (ps_ret pe_bl)) pss_nil)))
      (pss_one (ps_ret pe_bl)))), ?_⟩
  refine ⟨_, rfl, _, _, rfl, .inl ha, _, _, rfl, rfl, _, rfl, ?_⟩
  rw [lx, decide_eq_true (show (1 : Int) ≤ (cs.length : Int) from by omega)]
  refine iteT ⟨_, _, rfl, rfl, _, rfl, ?_⟩
  rw [decide_eq_true (show (cs.length : Int) ≤ 6 from by omega)]
  refine iteF ⟨_, rfl, a, rfl, ⟨_, ha⟩, for_list (xs := xs) (fun i σ' H' => ∃ x, σ' = [some (.ref a), x] ∧ H' = H) ⟨none, rfl, rfl⟩ (fun i σ' H' _ ⟨_, _, e⟩ => e ▸ ha) ?_ ?_⟩
  · rintro i x σ' H' hx ⟨_, rfl, rfl⟩
    obtain ⟨d, hd, hxd⟩ := dps_get hxs hx
    obtain ⟨c, hc, rfl⟩ := get_mapA hd
    exact ⟨_, rfl, x, c, rfl, hxd, ok c (List.mem_of_getElem? hc), _, rfl, iteF ⟨_, rfl, rfl⟩⟩
  · rintro σ' H' ⟨_, rfl, rfl⟩
    exact q
def spName : Sp := fun vs H Q _ => ∃ (s : Str), vs = [.str s] ∧ NameOk s ∧ Q (.bl true) H
theorem ca_is_name (T : Txt w K mg) : Ca P w K mg base 1 "is_name" (spName) := by
  refine ca_of (N := ["value", "letter"]) (ps := ["value"]) T.f_is_name T.g_is_name ⟨rfl, rfl, rfl, by decide +kernel, rfl, by decide +kernel, by decide +kernel⟩ (fun _ _ _ _ _ _ us hl => match us, hl with | [_], _ => rfl)
    (fun vs H Q E h => by obtain ⟨s, rfl, ok, q⟩ := h; rfl) (fun cdv A outer s H vs Q E hr h => ?_)
  have nd : (["value", "letter"] : List Str).Nodup := by decide +kernel
  obtain ⟨s, rfl, ok, q⟩ := h
  refine ⟨_, (pss_cons (ps_if (PW.pt (pw_or (pt_not (pt_val (pe_is .str T.b_isinstance (pv 0) T.b_str boot_str))) (pw_or1 (pt_not (pt_chain op_le op_le pe_int (pe_callB call_len_str (by rfl) T.b_len PySem.boot_len (pa_cons (pv 0) pa_nil)) (pe_gi T.i_LONGEST_NAME)))))) (pss_one (ps_ret pe_bl)) pss_nil)
      (pss_cons (ps_for PassesOwn.never rfl (pi_str (pv 0)) (pg_name (i := 1) nd rfl (.inl rfl)) (pss_one (ps_if (pt_not (pt_chain op_le_str op_le_str pe_str (pv 1) pe_str)) (pss_one (ps_ret pe_bl)) pss_nil)))
      (pss_one (ps_ret pe_bl)))), ?_⟩
  refine ⟨_, rfl, _, _, rfl, .str s, _, rfl, iteF ?_⟩
  have l8 := ok.2.1
  refine ⟨_, rfl, _, rfl, by rw [sizeLine_eq]; omega, _, _, rfl, rfl, _, rfl, ?_⟩
  rw [decide_eq_true (show (1 : Int) ≤ (s.length : Int) from by have := ok.1; omega)]
  refine iteT ⟨_, _, rfl, rfl, _, rfl, ?_⟩
  rw [decide_eq_true (show (s.length : Int) ≤ 8 from by omega)]
  refine iteF ⟨_, rfl, _, rfl, for_it (n := s.cps.size) walk_str (fun i σ' H' => ∃ x, σ' = [some (.str s), x] ∧ H' = H) ⟨none, rfl, rfl⟩ (fun _ _ _ _ _ => trivial) ?_ ?_⟩
  · rintro i x σ' H' H2 hi ⟨_, rfl, rfl⟩ ⟨rfl, c, hc, rfl⟩
    have hm : c ∈ s.cps.toList := by
      rw [← Array.getElem?_toList] at hc
      exact List.mem_of_getElem? hc
    have b := ok.2.2 c hm
    refine ⟨_, rfl, _, _, rfl, rfl, _, rfl, ?_⟩
    refine (if_true_of (sign_le b.1) ?_)
    refine ⟨_, _, rfl, rfl, _, rfl, ?_⟩
    refine if_not_of (sign_le b.2) ⟨_, rfl, rfl⟩
  · rintro σ' H' ⟨_, rfl, rfl⟩
    exact q
theorem cut2 (x y z : V) : cutV [x, y, z] none (some 2) = [x, y] := by
  unfold cutV
  rw [show (some (2 : Int)) = some ((2 : Nat) : Int) from rfl, HT.sIx_nat, HT.sIx_none]
  rfl
theorem cut2_not (x y z : V) : ¬ (HT.sIx [x, y, z].length 0 none = 0 ∧ HT.sIx [x, y, z].length [x, y, z].length (some 2) = [x, y, z].length) := by
  rw [show (some (2 : Int)) = some ((2 : Nat) : Int) from rfl, HT.sIx_nat]
  intro h
  exact absurd h.2 (by show ¬ (min 2 3 = 3); decide)
def spHead (K : PySem.W.Frag) : Sp := fun vs H Q _ => ∃ (v : V) (nm : Str) (ch : Int), vs = [v] ∧ Dp K H v (.tuple [.str nm, .int ch]) ∧ NameOk nm ∧ (1 ≤ ch ∧ ch ≤ 9) ∧ Q (.bl true) H
theorem ca_is_deed_head (T : Txt w K mg) : Ca P w K mg base 3 "is_deed_head" (spHead K) := by
  refine ca_of (N := ["value"]) (ps := ["value"]) T.f_is_deed_head T.g_is_deed_head ⟨rfl, rfl, rfl, by decide +kernel, rfl, by decide +kernel, by decide +kernel⟩ (fun _ _ _ _ _ _ us hl => match us, hl with | [_], _ => rfl)
    (fun vs H Q E h => by obtain ⟨v, nm, ch, rfl, hv, o1, o2, q⟩ := h; rfl) (fun cdv A outer s H vs Q E hr h => ?_)
  have nd : (["value"] : List Str).Nodup := by decide +kernel
  obtain ⟨v, nm, ch, rfl, hv, o1, o2, q⟩ := h
  refine ⟨_, (pss_one (ps_ret (pe_and (pe_ca (ca_is_tuple T) hr (pa_cons (pv 0) (pa_cons pe_int pa_nil))) (pe_and (pe_ca (ca_is_name T) hr (pa_cons (pe_ix ix_tup (pv 0) pe_int (fun _ _ => rfl)) pa_nil)) (pe_one (pe_ca (ca_is_within T) hr (pa_cons (pe_ix ix_tup (pv 0) pe_int (fun _ _ => rfl)) (pa_cons pe_int (pa_cons (pe_gi T.i_MOST_CHOICES) pa_nil))))))))), ?_⟩
  obtain ⟨a, x, y, rfl, ha, hx, hy⟩ := dp2 hv
  cases dp_str hx
  cases dp_int hy
  refine ⟨_, rfl, a, _, _, rfl, ha, _, rfl, iteT ?_⟩
  refine ⟨_, rfl, _, _, _, _, rfl, rfl, ha, at0, nm, rfl, o1, _, rfl, iteT ?_⟩
  refine ⟨_, rfl, _, _, _, _, rfl, rfl, ha, at1, ch, 1, 9, rfl, ?_⟩
  rw [within_t o2]
  exact q
def spDeed (K : PySem.W.Frag) : Sp := fun vs H Q _ => ∃ (v : V) (d : Str × Int × List Row) (c : Int), vs = [v, .int c] ∧ Dp K H v (deedD d) ∧ DeedOk c d ∧ ∀ H', Same H H' → Q (.bl true) H'
theorem ca_is_deed (T : Txt w K mg) : Ca P w K mg base 51 "is_deed" (spDeed K) := by
  refine ca_of (N := ["value", "cells"]) (ps := ["value", "cells"]) T.f_is_deed T.g_is_deed ⟨rfl, rfl, rfl, by decide +kernel, rfl, by decide +kernel, by decide +kernel⟩ (fun _ _ _ _ _ _ us hl => match us, hl with | [_, _], _ => rfl)
    (fun vs H Q E h => by obtain ⟨v, d, c, rfl, hv, ok, q⟩ := h; rfl) (fun cdv A outer s H vs Q E hr h => ?_)
  have nd : (["value", "cells"] : List Str).Nodup := by decide +kernel
  obtain ⟨v, d, c, rfl, hv, ok, q⟩ := h
  refine ⟨_, (pss_one (ps_ret (pe_and (pe_ca (ca_is_tuple T) hr (pa_cons (pv 0) (pa_cons pe_int pa_nil))) (pe_and (pe_ca (ca_is_deed_head T) hr (pa_cons (pe_slice sl_tup (pv 0) po_none (po_some pe_int)) pa_nil)) (pe_one (pe_ca (ca_is_body T) hr (pa_cons (pe_ix ix_tup (pv 0) pe_int (fun _ _ => rfl)) (pa_cons (pv 1) pa_nil)))))))), ?_⟩
  obtain ⟨a, x, y, z, rfl, ha, hx, hy, hz⟩ := dp3 hv
  cases dp_str hx
  cases dp_int hy
  obtain ⟨o1, o2, o3, o4, o5⟩ := ok
  refine ⟨_, rfl, a, _, _, rfl, ha, _, rfl, iteT ?_⟩
  refine ⟨_, rfl, _, rfl, a, _, rfl, ha, cut2_not _ _ _, fun p np => ?_⟩
  rw [cut2]
  have s1 := same_new (o := .tup [.str d.1, .int d.2.1]) np
  refine ⟨_, d.1, d.2.1, rfl, .tup (.of upd_same) (.cons (.str _) (.cons (.int _) .nil)), o1, o2, _, rfl, iteT ?_⟩
  exact ⟨_, rfl, _, _, _, _, rfl, rfl, same_t s1 ha, at2, _, rfl, z, d.2.2, c, rfl, dp_same s1 hz, o3, o4, o5, fun H2 s2 => q H2 (s1.trans s2)⟩
def spDeeds (K : PySem.W.Frag) : Sp := fun vs H Q _ => ∃ (a : Addr) (xs : List V) (ds : List (Str × Int × List Row)) (c : Int), vs = [.ref a, .int c] ∧ SqL K H a xs ∧ DpAll K H xs (ds.map deedD) ∧ 1 ≤ ds.length ∧ ds.length ≤ 8 ∧ (∀ d ∈ ds, DeedOk c d) ∧ (ds.map (·.1)).Nodup ∧ ∀ H', Same H H' → Q (.bl true) H'
theorem ca_are_deeds (T : Txt w K mg) : Ca P w K mg base 52 "are_deeds" (spDeeds K) := by
  refine ca_of (N := ["deeds", "cells", "taken", "deed"]) (ps := ["deeds", "cells"]) T.f_are_deeds T.g_are_deeds ⟨rfl, rfl, rfl, by decide +kernel, rfl, by decide +kernel, by decide +kernel⟩ (fun _ _ _ _ _ _ us hl => match us, hl with | [_, _], _ => rfl)
    (fun vs H Q E h => by obtain ⟨a, xs, ds, c, rfl, ha, hxs, h1, h8, ok, nds, q⟩ := h; rfl) (fun cdv A outer s H vs Q E hr h => ?_)
  have nd : (["deeds", "cells", "taken", "deed"] : List Str).Nodup := by decide +kernel
  obtain ⟨a, xs, ds, c, rfl, ha, hxs, h1, h8, ok, nds, q⟩ := h
  have lx : xs.length = ds.length := by rw [dps_len hxs, List.length_map]
  refine ⟨_, (pss_cons (ps_if (pt_not (pt_chain op_le op_le pe_int (pe_callB call_len_seq (by rfl) T.b_len PySem.boot_len (pa_cons (pv 0) pa_nil)) (pe_gi T.i_MOST_DEEDS))) (pss_one (ps_ret pe_bl)) pss_nil)
      (pss_cons (ps_set (i := 2) nd rfl (.inl rfl) (pe_callTy0 cr_set0K (by rfl) T.b_set boot_set))
      (pss_cons (ps_for PassesOwn.never rfl (pi_list (pv 0)) (pg_name (i := 3) nd rfl (.inl rfl)) (pss_cons (ps_if (PW.pt (pw_or (pt_not (pt_val (pe_ca (ca_is_deed T) hr (pa_cons (pv 3) (pa_cons (pv 1) pa_nil))))) (pw_or1 (pt_cmpR or_sinK (pe_ix ix_tup (pv 3) pe_int (fun _ _ => rfl)) (pv 2) (by rfl))))) (pss_one (ps_ret pe_bl)) pss_nil)
      (pss_one (ps_expr (pe_saddK (pv 2) (pa_cons (pe_ix ix_tup (pv 3) pe_int (fun _ _ => rfl)) pa_nil))))))
      (pss_one (ps_ret pe_bl))))), ?_⟩
  refine ⟨_, rfl, _, _, rfl, .inl ha, _, _, rfl, rfl, _, rfl, ?_⟩
  rw [lx, decide_eq_true (show (1 : Int) ≤ (ds.length : Int) from by omega)]
  refine iteT ⟨_, _, rfl, rfl, _, rfl, ?_⟩
  rw [decide_eq_true (show (ds.length : Int) ≤ 8 from by omega)]
  refine iteF ⟨rfl, fun p np => ?_⟩
  have s0 : Same H (upd H p (SetK P w p (fun _ => false) 0)) := same_new np
  have mem : ∀ (i : Nat) (H' : Hp), But p (upd H p (SetK P w p (fun _ => false) 0)) H' → SqL K H' a xs := fun i H' bt => (show Same H H' from fun b o e => bt b o (ne_of_none e np) (s0 b o e)).seq ha
  refine ⟨_, rfl, a, rfl, ⟨_, s0.seq ha⟩, for_list (xs := xs) (fun i σ' H' => ∃ (x : Option V) (S : L2.Key → Bool) (n : Nat), σ' = [some (.ref a), some (.int c), some (.ref p), x] ∧ But p (upd H p (SetK P w p (fun _ => false) 0)) H' ∧ H' p = some (SetK P w p S n) ∧ n ≤ i ∧ ∀ k, S k = true → ∃ d ∈ ds.take i, k = Sum.inr d.1)
    ⟨none, fun _ => false, 0, rfl, fun b o _ z => z, upd_same, Nat.le_refl _, fun k e => by cases e⟩ (fun i σ' H' _ ⟨_, _, _, _, bt, _⟩ => mem i H' bt) ?_ ?_⟩
  · rintro i x σ' H' hx ⟨_, S, n, rfl, bt, hp, hn, hS⟩
    have sH : Same H H' := fun b o e => bt b o (ne_of_none e np) (s0 b o e)
    obtain ⟨d, hd, hxd⟩ := dps_get hxs hx
    obtain ⟨dd, hdd, rfl⟩ := get_mapA hd
    have hi : i < ds.length := (List.getElem?_eq_some_iff.mp hdd).1
    refine ⟨_, rfl, _, rfl, x, dd, c, rfl, dp_same sH hxd, ok dd (List.mem_of_getElem? hdd), fun H2 s2 => ⟨_, rfl, iteF ?_⟩⟩
    obtain ⟨t, y1, y2, y3, rfl, ht, e1, e2, e3⟩ := dp3 (dp_same (sH.trans s2) hxd)
    cases dp_str e1
    have hSf : S (Sum.inr dd.1) = false := by
      cases e : S (Sum.inr dd.1) with
      | false => rfl
      | true =>
        obtain ⟨d', hd', ed⟩ := hS _ e
        obtain ⟨j, hj, ej⟩ := List.mem_iff_getElem.mp hd'
        rw [List.length_take] at hj
        rw [List.getElem_take] at ej
        have n1 : (ds.map (·.1))[i]? = some dd.1 := by rw [List.getElem?_map, hdd]; rfl
        have n2 : (ds.map (·.1))[j]? = some dd.1 := by
          rw [List.getElem?_map, List.getElem?_eq_getElem (by omega : j < ds.length), ej]
          exact congrArg some (Sum.inr.inj ed).symm
        have := nd_ix nds n1 n2
        omega
    refine ⟨_, rfl, _, _, _, _, rfl, rfl, ht, at0, _, rfl, Sum.inr dd.1, p, S, n, rfl, rfl, s2 _ _ hp, _, rfl, ?_⟩
    rw [hSf]
    refine iteF ⟨_, rfl, ⟨p, S, n, rfl, s2 _ _ hp⟩, _, rfl, _, _, _, _, rfl, rfl, ht, at0, p, Sum.inr dd.1, S, n, rfl, rfl, s2 _ _ hp, (by show n + 1 < 4096; omega), ?_⟩
    refine ⟨_, _, _, rfl, fun b o hb z => ?_, upd_same, ?_, fun k e => ?_⟩
    · rw [upd_ne hb]
      exact s2 b o (bt b o hb z)
    · rw [hSf]
      show n + 1 ≤ i + 1
      omega
    · rw [take_more hdd]
      rcases Bool.or_eq_true_iff.mp e with h | h
      · obtain ⟨d', hd', e'⟩ := hS k h
        exact ⟨d', List.mem_append_left _ hd', e'⟩
      · exact ⟨dd, List.mem_append_right _ List.mem_cons_self, of_decide_eq_true h⟩
  · rintro σ' H' ⟨_, S, n, rfl, bt, hp, _⟩
    exact q H' fun b o e => bt b o (ne_of_none e np) (s0 b o e)
end

end M

set_option Elab.async false
set_option linter.all false
set_option maxRecDepth 100000
set_option maxHeartbeats 2000000
namespace M
open PySem PySem.Spec PyProof.Rows L2

/-! ### codes: no hole is left, their size -/
def FR.hd : FR → Option Str
  | .row r => some r.word
  | .unless _ _ => some "unless"
  | .on _ => some "on"
  | .rounds _ => some "rounds"
  | .round _ => some "round"
  | .hole => none
def FR.tl : FR → List PyData
  | .row r => r.prts.map Prt.d
  | .unless e p => [e.d, .int p]
  | .on p => [.int p]
  | .rounds e => [e.d]
  | .round p => [.int p]
  | .hole => []
theorem fr_d : ∀ {f : FR} {s : Str}, f.hd = some s → f.d = .tuple (.str s :: f.tl)
  | .row r, s, h => by
    cases (Option.some.inj h)
    exact row_d r
  | .hole, s, h => by cases h
  | .unless e p, s, h => by
    cases (Option.some.inj h)
    rfl
  | .on p, s, h => by
    cases (Option.some.inj h)
    rfl
  | .rounds e, s, h => by
    cases (Option.some.inj h)
    rfl
  | .round p, s, h => by
    cases (Option.some.inj h)
    rfl
/-- c' goes on from c, nothing new is a hole, n more at most -/
structure Goes (c c' : List FR) (n : Nat) : Prop where
  le : c.length ≤ c'.length
  old : ∀ i, i < c.length → c'[i]? = c[i]?
  new : ∀ i f, c.length ≤ i → c'[i]? = some f → f.hd ≠ none
  sz : c'.length ≤ c.length + n
theorem goes_one {c : List FR} {f : FR} {n : Nat} (h : f.hd ≠ none) (hn : 1 ≤ n) : Goes c (c ++ [f]) n := by
  refine ⟨by simp, fun i hi => List.getElem?_append_left hi, fun i g hi e => ?_, by simp; omega⟩
  rw [List.getElem?_append_right hi] at e
  cases q : i - c.length with
  | zero =>
    rw [q] at e
    cases (Option.some.inj e)
    exact h
  | succ m =>
    rw [q] at e
    simp at e
mutual
theorem putRow_goes : ∀ (r : Row) (c : List FR), Goes c (putRow r c) (3 * r.cl)
  | .read r k, c => goes_one (by simp [FR.hd]) (by simp [Row.cl])
  | .set k e, c => goes_one (by simp [FR.hd]) (by simp [Row.cl])
  | .swap r k e f, c => goes_one (by simp [FR.hd]) (by simp [Row.cl])
  | .keep r e, c => goes_one (by simp [FR.hd]) (by simp [Row.cl])
  | .coin r, c => goes_one (by simp [FR.hd]) (by simp [Row.cl])
  | .ans e, c => goes_one (by simp [FR.hd]) (by simp [Row.cl])
  | .iff e a b, c => by
    have g1 := putRows_goes a (c ++ [FR.hole])
    generalize h1 : putRows a (c ++ [FR.hole]) = c1 at g1
    have g2 := putRows_goes b ((c1 ++ [FR.hole]).set c.length (FR.unless e (c1.length + 1)))
    generalize h2 : putRows b ((c1 ++ [FR.hole]).set c.length (FR.unless e (c1.length + 1))) = c2 at g2
    have e0 : putRow (.iff e a b) c = c2.set c1.length (FR.on c2.length) := by
      show (putRows b (((putRows a (c ++ [FR.hole])) ++ [FR.hole]).set c.length (FR.unless e ((putRows a (c ++ [FR.hole])).length + 1)))).set (putRows a (c ++ [FR.hole])).length (FR.on (putRows b (((putRows a (c ++ [FR.hole])) ++ [FR.hole]).set c.length (FR.unless e ((putRows a (c ++ [FR.hole])).length + 1)))).length) = _
      rw [h1, h2]
    rw [e0]
    have l1 := g1.le
    have z1 := g1.sz
    have l2 := g2.le
    have z2 := g2.sz
    simp only [List.length_append, List.length_set, List.length_cons, List.length_nil] at l1 z1 l2 z2
    have ecl : Row.cl (.iff e a b) = 1 + (rowsCl a + rowsCl b) := rfl
    refine ⟨by rw [List.length_set]; omega, fun i hi => ?_, fun i f hi ef => ?_, by rw [List.length_set, ecl]; omega⟩
    · rw [List.getElem?_set_ne (by omega), g2.old i (by simp; omega), List.getElem?_set_ne (by omega), List.getElem?_append_left (by omega), g1.old i (by simp; omega), List.getElem?_append_left hi]
    · by_cases q : i = c1.length
      · subst q
        rw [List.getElem?_set_self (by omega)] at ef
        cases (Option.some.inj ef)
        simp [FR.hd]
      · rw [List.getElem?_set_ne (by omega)] at ef
        by_cases q2 : i < c1.length + 1
        · rw [g2.old i (by simp; omega)] at ef
          by_cases q3 : i = c.length
          · subst q3
            rw [List.getElem?_set_self (by simp; omega)] at ef
            cases (Option.some.inj ef)
            simp [FR.hd]
          · rw [List.getElem?_set_ne (by omega), List.getElem?_append_left (by omega)] at ef
            exact g1.new i f (by simp; omega) ef
        · exact g2.new i f (by simp; omega) ef
  | .times e a, c => by
    have g1 := putRows_goes a (c ++ [FR.rounds e, FR.hole])
    generalize h1 : putRows a (c ++ [FR.rounds e, FR.hole]) = c1 at g1
    have e0 : putRow (.times e a) c = (c1 ++ [FR.on (c.length + 1)]).set (c.length + 1) (FR.round (c1.length + 1)) := by
      show ((putRows a (c ++ [FR.rounds e, FR.hole])) ++ [FR.on (c.length + 1)]).set (c.length + 1) (FR.round ((putRows a (c ++ [FR.rounds e, FR.hole])).length + 1)) = _
      rw [h1]
    rw [e0]
    have l1 := g1.le
    have z1 := g1.sz
    simp only [List.length_append, List.length_set, List.length_cons, List.length_nil] at l1 z1
    have ecl : Row.cl (.times e a) = 1 + rowsCl a := rfl
    refine ⟨by simp; omega, fun i hi => ?_, fun i f hi ef => ?_, by simp [ecl]; omega⟩
    · rw [List.getElem?_set_ne (by omega), List.getElem?_append_left (by omega), g1.old i (by simp; omega), List.getElem?_append_left hi]
    · by_cases q : i = c.length + 1
      · subst q
        rw [List.getElem?_set_self (by simp; omega)] at ef
        cases (Option.some.inj ef)
        simp [FR.hd]
      · rw [List.getElem?_set_ne (by omega)] at ef
        by_cases q2 : i < c1.length
        · rw [List.getElem?_append_left q2] at ef
          by_cases q3 : i = c.length
          · subst q3
            rw [g1.old _ (by simp), List.getElem?_append_right (Nat.le_refl _), Nat.sub_self] at ef
            cases (Option.some.inj ef)
            simp [FR.hd]
          · exact g1.new i f (by simp; omega) ef
        · rw [List.getElem?_append_right (by omega)] at ef
          cases q4 : i - c1.length with
          | zero =>
            rw [q4] at ef
            cases (Option.some.inj ef)
            simp [FR.hd]
          | succ m =>
            rw [q4] at ef
            simp at ef
theorem putRows_goes : ∀ (rs : List Row) (c : List FR), Goes c (putRows rs c) (3 * rowsCl rs)
  | [], c => ⟨Nat.le_refl _, fun _ _ => rfl, fun i f hi e => by
    have := (List.getElem?_eq_some_iff.mp e).1
    change i < c.length at this
    omega, Nat.le_add_right _ _⟩
  | r :: rs, c => by
    have g1 := putRow_goes r c
    have g2 := putRows_goes rs (putRow r c)
    have ecl : rowsCl (r :: rs) = r.cl + rowsCl rs := rfl
    have l1 := g1.le
    have z1 := g1.sz
    have l2 := g2.le
    have z2 := g2.sz
    refine ⟨by show c.length ≤ (putRows rs (putRow r c)).length; omega, fun i hi => ?_, fun i f hi e => ?_, by show (putRows rs (putRow r c)).length ≤ _; rw [ecl]; omega⟩
    · show (putRows rs (putRow r c))[i]? = _
      rw [g2.old i (by omega), g1.old i hi]
    · change (putRows rs (putRow r c))[i]? = some f at e
      by_cases q : i < (putRow r c).length
      · rw [g2.old i q] at e
        exact g1.new i f hi e
      · exact g2.new i f (by omega) e
end
theorem code_hd {rows : List Row} {f : FR} (h : f ∈ codeOf rows) : ∃ s, f.hd = some s := by
  have g := putRows_goes rows []
  have : f.hd ≠ none := by
    rcases List.mem_append.mp h with h | h
    · obtain ⟨i, hi, e⟩ := List.mem_iff_getElem.mp h
      exact g.new i f (Nat.zero_le _) (by rw [List.getElem?_eq_getElem hi, e])
    · rw [List.mem_singleton.mp h]
      simp [FR.hd]
  cases q : f.hd with
  | none => exact absurd q this
  | some s => exact ⟨s, rfl⟩
theorem code_len (rows : List Row) : (codeOf rows).length ≤ 3 * rowsCl rows + 1 := by
  have g := (putRows_goes rows []).sz
  simp [codeOf] at g ⊢
  omega

end M

set_option Elab.async false
set_option linter.all false
set_option maxRecDepth 100000
set_option maxHeartbeats 2000000
namespace M
open PySem PySem.Spec PyProof.Rows L2

theorem putRows_snoc : ∀ (as : List Row) (r : Row) (c : List FR), putRows (as ++ [r]) c = putRow r (putRows as c)
  | [], r, c => rfl
  | a :: as, r, c => putRows_snoc as r (putRow a c)
theorem frs_noL (c : List FR) : ∀ d ∈ c.map FR.d, NoL d := fun d h => by
  obtain ⟨f, _, rfl⟩ := List.mem_map.mp h
  exact f.noL
theorem rowsCl_take {rs : List Row} {i : Nat} {r : Row} (h : rs[i]? = some r) : rowsCl (rs.take i) + r.cl ≤ rowsCl rs := by
  rw [rowsCl_sum, rowsCl_sum, List.map_take]
  have e : ((rs.map Row.cl)[i]?) = some r.cl := by rw [List.getElem?_map, h]; rfl
  have := sumN_take e
  have := sumN_le (rs.map Row.cl) (i + 1)
  omega
theorem word_if {r : Row} (h : r.word = "if") : ∃ e a b, r = .iff e a b := by
  cases r with
  | read r c => exact absurd (show ("read" : Str) = "if" from h) (by decide +kernel)
  | set c e => exact absurd (show ("set" : Str) = "if" from h) (by decide +kernel)
  | swap r c e f => exact absurd (show ("swap" : Str) = "if" from h) (by decide +kernel)
  | keep r e => exact absurd (show ("keep" : Str) = "if" from h) (by decide +kernel)
  | coin r => exact absurd (show ("coin" : Str) = "if" from h) (by decide +kernel)
  | iff e a b => exact ⟨e, a, b, rfl⟩
  | times e a => exact absurd (show ("times" : Str) = "if" from h) (by decide +kernel)
  | ans e => exact absurd (show ("answer" : Str) = "if" from h) (by decide +kernel)
theorem putRow_plain {r : Row} (c : List FR) (h1 : r.word ≠ "if") (h2 : r.word ≠ "times") : putRow r c = c ++ [.row r] := by
  cases r <;> first | rfl | exact absurd rfl h1 | exact absurd rfl h2
section
variable {P : Program} {w : World} {K : PySem.W.Frag} {mg : Str → Option Value} {base : Heap}
/-- what put_rows and its kin leave: the list goes on -/
abbrev PutQ (K : PySem.W.Frag) (H : Hp) (l : Addr) (c' : List FR) (Q : VK) : Prop := ∀ H' ys', But l H H' → H' l = some (.lst ys') → DpAll K H' ys' (c'.map FR.d) → Q .non H'
def spPuts (K : PySem.W.Frag) : Nat → Sp
  | 0 => fun _ _ _ _ => False
  | n + 1 => fun vs H Q _ => ∃ (l : Addr) (v : V) (ys : List V) (c : List FR) (rs : List Row) (k : Int) (deep loops : Nat), vs = [.ref l, v] ∧ H l = some (.lst ys) ∧ DpAll K H ys (c.map FR.d) ∧ Dp K H v (.tuple (rowsD rs)) ∧ rowsOk k deep loops rs ∧ 14 ≤ deep + (n + 1) ∧ c.length + 3 * rowsCl rs ≤ 90000 ∧ PutQ K H l (putRows rs c) Q
def spPut1 (K : PySem.W.Frag) (n : Nat) (wd : Str) : Sp := fun vs H Q _ => ∃ (l : Addr) (v : V) (ys : List V) (c : List FR) (r : Row) (k : Int) (deep loops : Nat), vs = [.ref l, v] ∧ H l = some (.lst ys) ∧ DpAll K H ys (c.map FR.d) ∧ Dp K H v r.d ∧ r.word = wd ∧ (r.ok k deep loops ∧ deep ≤ 12) ∧ 14 ≤ deep + (n + 1) ∧ c.length + 3 * r.cl ≤ 90000 ∧ PutQ K H l (putRow r c) Q
theorem ca_put_if {n : Nat} (R : Ca P w K mg base (2 * n + 1) "put_rows" (spPuts K n)) (T : Txt w K mg) : Ca P w K mg base (2 * n + 2) "put_if" (spPut1 K n "if") := by
    refine ca_of (N := ["code", "row", "test", "over"]) (ps := ["code", "row"]) T.f_put_if T.g_put_if ⟨rfl, rfl, rfl, by decide +kernel, rfl, by decide +kernel, by decide +kernel⟩ (fun _ _ _ _ _ _ us hl => match us, hl with | [_, _], _ => rfl)
      (fun vs H Q E h => by obtain ⟨l, v, ys, c, r, k, deep, loops, rfl, hl, hys, hv, hw, ⟨ok, hd⟩, hn, hz, q⟩ := h; rfl) (fun cdv A outer s H vs Q E hr h => ?_)
    have nd : (["code", "row", "test", "over"] : List Str).Nodup := by decide +kernel
    obtain ⟨l, v, ys, c, r, k, deep, loops, rfl, hl, hys, hv, hw, ⟨ok, hd⟩, hn, hz, q⟩ := h
    obtain ⟨e, a, b, rfl⟩ := word_if hw
    obtain ⟨m, rfl⟩ : ∃ m, n = m + 1 := ⟨n - 1, by omega⟩
    have ok : e.good ∧ rowsOk k (deep + 1) loops a ∧ rowsOk k (deep + 1) loops b := ok
    have hz : c.length + 3 * (1 + (rowsCl a + rowsCl b)) ≤ 90000 := hz
    have nl : NoL (Row.iff e a b).d := Row.noL _
    obtain ⟨ra, xs, rfl, hra, hxs⟩ := dp_tup hv
    obtain ⟨x0, x1, x2, x3, rfl, h0, h1, h2, h3⟩ : ∃ x0 x1 x2 x3, xs = [x0, x1, x2, x3] ∧ Dp K H x0 (.str "if") ∧ Dp K H x1 e.d ∧ Dp K H x2 (.tuple (rowsD a)) ∧ Dp K H x3 (.tuple (rowsD b)) := by
      cases hxs with | cons h0 hr => cases hr with | cons h1 hr => cases hr with | cons h2 hr => cases hr with | cons h3 hr => cases hr with | nil => exact ⟨_, _, _, _, rfl, h0, h1, h2, h3⟩
    refine ⟨_, (pss_cons (ps_set (i := 2) nd rfl (.inl rfl) (pe_callB call_len_seq (by rfl) T.b_len PySem.boot_len (pa_cons (pv 0) pa_nil)))
      (pss_cons (ps_expr (pe_bm PySem.F.plainAttrs_list PySem.F.slot_list_append PySem.F.type_list_append mt_append (pv 0) (pa_cons (pe_tup pa_nil) pa_nil)))
      (pss_cons (ps_expr (pe_ca R hr (pa_cons (pv 0) (pa_cons (pe_ix ix_tup (pv 1) pe_int (fun _ _ => rfl)) pa_nil)) (by omega)))
      (pss_cons (ps_set (i := 3) nd rfl (.inl rfl) (pe_callB call_len_seq (by rfl) T.b_len PySem.boot_len (pa_cons (pv 0) pa_nil)))
      (pss_cons (ps_expr (pe_bm PySem.F.plainAttrs_list PySem.F.slot_list_append PySem.F.type_list_append mt_append (pv 0) (pa_cons (pe_tup pa_nil) pa_nil)))
      (pss_cons (ps_asg (pe_tup (pa_cons pe_str (pa_cons (pe_ix ix_tup (pv 1) pe_int (fun _ _ => rfl)) (pa_cons (pe_callB call_len_seq (by rfl) T.b_len PySem.boot_len (pa_cons (pv 0) pa_nil)) pa_nil)))) (pg_sub (pv 0) (pv 2) set_list))
      (pss_cons (ps_expr (pe_ca R hr (pa_cons (pv 0) (pa_cons (pe_ix ix_tup (pv 1) pe_int (fun _ _ => rfl)) pa_nil)) (by omega)))
      (pss_one (ps_asg (pe_tup (pa_cons pe_str (pa_cons (pe_callB call_len_seq (by rfl) T.b_len PySem.boot_len (pa_cons (pv 0) pa_nil)) pa_nil))) (pg_sub (pv 0) (pv 3) set_list)))))))))), ?_⟩
    have lys : ys.length = c.length := by rw [dps_len hys, List.length_map]
    have g1 := putRows_goes a (c ++ [FR.hole])
    have z1 := g1.sz
    simp only [List.length_append, List.length_cons, List.length_nil] at z1
    -- test = len(code); code.append(())
    refine ⟨_, rfl, _, _, rfl, .inl (.of hl), _, rfl, .inl ⟨rfl, _, .of hl⟩, (by show 0 ≤ sizeLine; exact Nat.zero_le _), fun t nt => ?_⟩
    have nlt : l ≠ t := ne_of_none hl nt
    have s1 : Same H (upd H t (.tup [])) := same_new nt
    refine ⟨l, ys, _, rfl, rfl, s1 _ _ hl, by rw [sizeLine_eq]; omega, ?_⟩
    -- put_rows(code, row[2])
    have b1 : But l H (upd (upd H t (.tup [])) l (.lst (ys ++ [.ref t]))) := (same_but s1).trans But.upd
    have ch : Ch H l := .lst hl
    have d1 : DpAll K (upd (upd H t (.tup [])) l (.lst (ys ++ [.ref t]))) (ys ++ [.ref t]) ((c ++ [FR.hole]).map FR.d) := by
      rw [List.map_append]
      exact dps_app (dps_but ch b1 hys (frs_noL c)) (.cons (.tup (SqT.of (by rw [upd_ne (Ne.symm nlt), upd_same])) .nil) .nil)
    refine ⟨_, rfl, _, rfl, _, _, _, _, rfl, rfl, sqT_but ch b1 hra, at2, l, x2, _, c ++ [FR.hole], a, k, deep + 1, loops, rfl, upd_same, d1, dp_but ch b1 h2 (.tup (rows_noL a)), ok.2.1, by omega, by simp; omega, fun H2 y2 b2 hl2 d2 => ?_⟩
    generalize ec1 : putRows a (c ++ [FR.hole]) = c1 at g1 z1 d2
    have l1 := g1.le
    simp only [List.length_append, List.length_cons, List.length_nil] at l1
    have ly2 : y2.length = c1.length := by rw [dps_len d2, List.length_map]
    have b02 : But l H H2 := b1.trans b2
    -- over = len(code); code.append(())
    refine ⟨_, rfl, _, _, rfl, .inl (.of hl2), _, rfl, .inl ⟨rfl, _, .of hl2⟩, (by show 0 ≤ sizeLine; exact Nat.zero_le _), fun t2 nt2 => ?_⟩
    have nlt2 : l ≠ t2 := ne_of_none hl2 nt2
    have s3 : Same H2 (upd H2 t2 (.tup [])) := same_new nt2
    refine ⟨l, y2, _, rfl, rfl, s3 _ _ hl2, by rw [sizeLine_eq]; omega, ?_⟩
    have b3 : But l H2 (upd (upd H2 t2 (.tup [])) l (.lst (y2 ++ [.ref t2]))) := (same_but s3).trans But.upd
    have ch2 : Ch H2 l := .lst hl2
    have d3 : DpAll K (upd (upd H2 t2 (.tup [])) l (.lst (y2 ++ [.ref t2]))) (y2 ++ [.ref t2]) ((c1 ++ [FR.hole]).map FR.d) := by
      rw [List.map_append]
      exact dps_app (dps_but ch2 b3 d2 (frs_noL c1)) (.cons (.tup (SqT.of (by rw [upd_ne (Ne.symm nlt2), upd_same])) .nil) .nil)
    have b03 := b02.trans b3
    generalize eH3 : upd (upd H2 t2 (.tup [])) l (.lst (y2 ++ [.ref t2])) = H3 at b3 d3 b03
    have hl3 : H3 l = some (.lst (y2 ++ [.ref t2])) := by rw [← eH3, upd_same]
    -- code[test] = ("unless", row[1], len(code))
    refine ⟨_, rfl, _, _, _, _, rfl, rfl, sqT_but ch b03 hra, at1, _, rfl, _, _, rfl, .inl (.of hl3), (by show 3 ≤ sizeLine; decide), fun t4 nt4 => ?_⟩
    have nlt4 : l ≠ t4 := ne_of_none hl3 nt4
    have s4 : Same H3 (upd H3 t4 (.tup [.str "unless", x1, .int ((y2 ++ [V.ref t2]).length : Nat)])) := same_new nt4
    refine ⟨_, rfl, _, rfl, l, _, _, c.length, rfl, rfl, s4 _ _ hl3, by rw [lys]; exact Evl.ixN_nat (by simp; omega), ?_⟩
    have ch3 : Ch H3 l := .lst hl3
    have b4 := (same_but s4 (D := l)).trans (But.upd (H := upd H3 t4 (.tup [.str "unless", x1, .int ((y2 ++ [V.ref t2]).length : Nat)])) (o := .lst ((y2 ++ [V.ref t2]).set c.length (V.ref t4))))
    have d4 : DpAll K (upd (upd H3 t4 (.tup [.str "unless", x1, .int ((y2 ++ [V.ref t2]).length : Nat)])) l (.lst ((y2 ++ [V.ref t2]).set c.length (V.ref t4)))) ((y2 ++ [V.ref t2]).set c.length (V.ref t4)) (((c1 ++ [FR.hole]).set c.length (FR.unless e (c1.length + 1))).map FR.d) := by
      rw [List.map_set]
      refine dps_set (dps_but ch3 b4 d3 (frs_noL _)) (.tup (SqT.of (by rw [upd_ne (Ne.symm nlt4), upd_same])) (.cons (.str _) (.cons (dp_but ch (b03.trans b4) h1 e.noL) (.cons ?_ .nil))))
      rw [show ((y2 ++ [V.ref t2]).length : Nat) = c1.length + 1 from by simp [ly2]]
      exact .int _
    have b04 := b03.trans b4
    -- put_rows(code, row[3])
    have g2 := putRows_goes b ((c1 ++ [FR.hole]).set c.length (FR.unless e (c1.length + 1)))
    have z2 := g2.sz
    simp only [List.length_append, List.length_set, List.length_cons, List.length_nil] at z2
    refine ⟨_, rfl, _, rfl, _, _, _, _, rfl, rfl, sqT_but ch b04 hra, at3, l, x3, _, (c1 ++ [FR.hole]).set c.length (FR.unless e (c1.length + 1)), b, k, deep + 1, loops, rfl, upd_same, d4, dp_but ch b04 h3 (.tup (rows_noL b)), ok.2.2, by omega, by simp; omega, fun H5 y5 b5 hl5 d5 => ?_⟩
    generalize ec2 : putRows b ((c1 ++ [FR.hole]).set c.length (FR.unless e (c1.length + 1))) = c2 at g2 z2 d5
    have l2 := g2.le
    simp only [List.length_append, List.length_set, List.length_cons, List.length_nil] at l2
    have ly5 : y5.length = c2.length := by rw [dps_len d5, List.length_map]
    have b05 := b04.trans b5
    -- code[over] = ("on", len(code))
    refine ⟨_, rfl, _, _, rfl, .inl (.of hl5), (by show 2 ≤ sizeLine; decide), fun t6 nt6 => ?_⟩
    have nlt6 : l ≠ t6 := ne_of_none hl5 nt6
    have s6 : Same H5 (upd H5 t6 (.tup [.str "on", .int (y5.length : Nat)])) := same_new nt6
    refine ⟨_, rfl, _, rfl, l, _, _, c1.length, rfl, rfl, s6 _ _ hl5, by rw [ly2]; exact Evl.ixN_nat (by omega), ?_⟩
    have b6 := (same_but s6 (D := l)).trans (But.upd (H := upd H5 t6 (.tup [.str "on", .int (y5.length : Nat)])) (o := .lst (y5.set c1.length (.ref t6))))
    refine q _ _ (b05.trans b6) upd_same ?_
    have e0 : putRow (.iff e a b) c = c2.set c1.length (FR.on c2.length) := by
      show (putRows b (((putRows a (c ++ [FR.hole])) ++ [FR.hole]).set c.length (FR.unless e ((putRows a (c ++ [FR.hole])).length + 1)))).set (putRows a (c ++ [FR.hole])).length (FR.on (putRows b (((putRows a (c ++ [FR.hole])) ++ [FR.hole]).set c.length (FR.unless e ((putRows a (c ++ [FR.hole])).length + 1)))).length) = _
      rw [ec1, ec2]
    rw [e0, List.map_set]
    refine dps_set (dps_but (.lst hl5) b6 d5 (frs_noL _)) (.tup (SqT.of (by rw [upd_ne (Ne.symm nlt6), upd_same])) (.cons (.str _) (.cons ?_ .nil)))
    rw [ly5]
    exact .int _
end

end M

set_option Elab.async false
set_option linter.all false
set_option maxRecDepth 100000
set_option maxHeartbeats 2000000
namespace M
open PySem PySem.Spec PyProof.Rows L2

section
variable {P : Program} {w : World} {K : PySem.W.Frag} {mg : Str → Option Value} {base : Heap}
theorem ca_put_times {n : Nat} (R : Ca P w K mg base (2 * n + 1) "put_rows" (spPuts K n)) (T : Txt w K mg) : Ca P w K mg base (2 * n + 2) "put_times" (spPut1 K n "times") := by
    refine ca_of (N := ["code", "row", "top"]) (ps := ["code", "row"]) T.f_put_times T.g_put_times ⟨rfl, rfl, rfl, by decide +kernel, rfl, by decide +kernel, by decide +kernel⟩ (fun _ _ _ _ _ _ us hl => match us, hl with | [_, _], _ => rfl)
      (fun vs H Q E h => by obtain ⟨l, v, ys, c, r, k, deep, loops, rfl, hl, hys, hv, hw, ⟨ok, hd⟩, hn, hz, q⟩ := h; rfl) (fun cdv A outer s H vs Q E hr h => ?_)
    have nd : (["code", "row", "top"] : List Str).Nodup := by decide +kernel
    obtain ⟨l, v, ys, c, r, k, deep, loops, rfl, hl, hys, hv, hw, ⟨ok, hd⟩, hn, hz, q⟩ := h
    obtain ⟨e, a, rfl⟩ := word_times hw
    obtain ⟨m, rfl⟩ : ∃ m, n = m + 1 := ⟨n - 1, by omega⟩
    have ok : e.good ∧ loops < 2 ∧ rowsOk k (deep + 1) (loops + 1) a := ok
    have hz : c.length + 3 * (1 + rowsCl a) ≤ 90000 := hz
    obtain ⟨ra, x0, x1, x2, rfl, hra, h0, h1, h2⟩ := dp3 hv
    refine ⟨_, (pss_cons (ps_expr (pe_bm PySem.F.plainAttrs_list PySem.F.slot_list_append PySem.F.type_list_append mt_append (pv 0) (pa_cons (pe_tup (pa_cons pe_str (pa_cons (pe_ix ix_tup (pv 1) pe_int (fun _ _ => rfl)) pa_nil))) pa_nil)))
      (pss_cons (ps_set (i := 2) nd rfl (.inl rfl) (pe_callB call_len_seq (by rfl) T.b_len PySem.boot_len (pa_cons (pv 0) pa_nil)))
      (pss_cons (ps_expr (pe_bm PySem.F.plainAttrs_list PySem.F.slot_list_append PySem.F.type_list_append mt_append (pv 0) (pa_cons (pe_tup pa_nil) pa_nil)))
      (pss_cons (ps_expr (pe_ca R hr (pa_cons (pv 0) (pa_cons (pe_ix ix_tup (pv 1) pe_int (fun _ _ => rfl)) pa_nil)) (by omega)))
      (pss_cons (ps_expr (pe_bm PySem.F.plainAttrs_list PySem.F.slot_list_append PySem.F.type_list_append mt_append (pv 0) (pa_cons (pe_tup (pa_cons pe_str (pa_cons (pv 2) pa_nil))) pa_nil)))
      (pss_one (ps_asg (pe_tup (pa_cons pe_str (pa_cons (pe_callB call_len_seq (by rfl) T.b_len PySem.boot_len (pa_cons (pv 0) pa_nil)) pa_nil))) (pg_sub (pv 0) (pv 2) set_list)))))))), ?_⟩
    have lys : ys.length = c.length := by rw [dps_len hys, List.length_map]
    have g1 := putRows_goes a (c ++ [FR.rounds e, FR.hole])
    have z1 := g1.sz
    simp only [List.length_append, List.length_cons, List.length_nil] at z1
    have ch : Ch H l := .lst hl
    -- code.append(("rounds", row[1]))
    refine ⟨_, rfl, .inl ⟨rfl, _, .of hl⟩, _, rfl, _, _, _, _, rfl, rfl, hra, at1, (by show 2 ≤ sizeLine; decide), fun t nt => ?_⟩
    have nlt : l ≠ t := ne_of_none hl nt
    have s1 : Same H (upd H t (.tup [.str "rounds", x1])) := same_new nt
    refine ⟨l, ys, _, rfl, rfl, s1 _ _ hl, by rw [sizeLine_eq]; omega, ?_⟩
    have b1 := (same_but s1 (D := l)).trans (But.upd (H := upd H t (.tup [.str "rounds", x1])) (o := .lst (ys ++ [V.ref t])))
    have d1 : DpAll K (upd (upd H t (.tup [.str "rounds", x1])) l (.lst (ys ++ [V.ref t]))) (ys ++ [V.ref t]) ((c ++ [FR.rounds e]).map FR.d) := by
      rw [List.map_append]
      exact dps_app (dps_but ch b1 hys (frs_noL c)) (.cons (.tup (SqT.of (by rw [upd_ne (Ne.symm nlt), upd_same])) (.cons (.str _) (.cons (dp_but ch b1 h1 e.noL) .nil))) .nil)
    generalize eH1 : upd (upd H t (.tup [.str "rounds", x1])) l (.lst (ys ++ [V.ref t])) = H1 at b1 d1
    have hl1 : H1 l = some (.lst (ys ++ [V.ref t])) := by rw [← eH1, upd_same]
    -- top = len(code); code.append(())
    refine ⟨_, rfl, _, _, rfl, .inl (.of hl1), _, rfl, .inl ⟨rfl, _, .of hl1⟩, (by show 0 ≤ sizeLine; exact Nat.zero_le _), fun t2 nt2 => ?_⟩
    have nlt2 : l ≠ t2 := ne_of_none hl1 nt2
    have s2 : Same H1 (upd H1 t2 (.tup [])) := same_new nt2
    refine ⟨l, _, _, rfl, rfl, s2 _ _ hl1, by rw [sizeLine_eq]; simp; omega, ?_⟩
    have b2 := (same_but s2 (D := l)).trans (But.upd (H := upd H1 t2 (.tup [])) (o := .lst (ys ++ [V.ref t] ++ [V.ref t2])))
    have d2 : DpAll K (upd (upd H1 t2 (.tup [])) l (.lst (ys ++ [V.ref t] ++ [V.ref t2]))) (ys ++ [V.ref t] ++ [V.ref t2]) ((c ++ [FR.rounds e, FR.hole]).map FR.d) := by
      rw [show c ++ [FR.rounds e, FR.hole] = (c ++ [FR.rounds e]) ++ [FR.hole] from by simp, List.map_append]
      exact dps_app (dps_but (.lst hl1) b2 d1 (frs_noL _)) (.cons (.tup (SqT.of (by rw [upd_ne (Ne.symm nlt2), upd_same])) .nil) .nil)
    have b02 := b1.trans b2
    -- put_rows(code, row[2])
    refine ⟨_, rfl, _, rfl, _, _, _, _, rfl, rfl, sqT_but ch b02 hra, at2, l, x2, _, c ++ [FR.rounds e, FR.hole], a, k, deep + 1, loops + 1, rfl, upd_same, d2, dp_but ch b02 h2 (.tup (rows_noL a)), ok.2.2, by omega, by simp; omega, fun H3 y3 b3 hl3 d3 => ?_⟩
    generalize ec1 : putRows a (c ++ [FR.rounds e, FR.hole]) = c1 at g1 z1 d3
    have l1 := g1.le
    simp only [List.length_append, List.length_cons, List.length_nil] at l1
    have ly3 : y3.length = c1.length := by rw [dps_len d3, List.length_map]
    have b03 := b02.trans b3
    -- code.append(("on", top))
    refine ⟨_, rfl, .inl ⟨rfl, _, .of hl3⟩, _, rfl, (by show 2 ≤ sizeLine; decide), fun t4 nt4 => ?_⟩
    have nlt4 : l ≠ t4 := ne_of_none hl3 nt4
    have s4 : Same H3 (upd H3 t4 (.tup [.str "on", .int ((ys ++ [V.ref t]).length : Nat)])) := same_new nt4
    refine ⟨l, y3, _, rfl, rfl, s4 _ _ hl3, by rw [sizeLine_eq]; omega, ?_⟩
    have b4 := (same_but s4 (D := l)).trans (But.upd (H := upd H3 t4 (.tup [.str "on", .int ((ys ++ [V.ref t]).length : Nat)])) (o := .lst (y3 ++ [V.ref t4])))
    have d4 : DpAll K (upd (upd H3 t4 (.tup [.str "on", .int ((ys ++ [V.ref t]).length : Nat)])) l (.lst (y3 ++ [V.ref t4]))) (y3 ++ [V.ref t4]) ((c1 ++ [FR.on (c.length + 1)]).map FR.d) := by
      rw [List.map_append]
      refine dps_app (dps_but (.lst hl3) b4 d3 (frs_noL _)) (.cons (.tup (SqT.of (by rw [upd_ne (Ne.symm nlt4), upd_same])) (.cons (.str _) (.cons ?_ .nil))) .nil)
      rw [show ((ys ++ [V.ref t]).length : Nat) = c.length + 1 from by simp [lys]]
      exact .int _
    generalize eH4 : upd (upd H3 t4 (.tup [.str "on", .int ((ys ++ [V.ref t]).length : Nat)])) l (.lst (y3 ++ [V.ref t4])) = H4 at b4 d4
    have hl4 : H4 l = some (.lst (y3 ++ [V.ref t4])) := by rw [← eH4, upd_same]
    have b04 := b03.trans b4
    -- code[top] = ("round", len(code))
    refine ⟨_, rfl, _, _, rfl, .inl (.of hl4), (by show 2 ≤ sizeLine; decide), fun t6 nt6 => ?_⟩
    have nlt6 : l ≠ t6 := ne_of_none hl4 nt6
    have s6 : Same H4 (upd H4 t6 (.tup [.str "round", .int ((y3 ++ [V.ref t4]).length : Nat)])) := same_new nt6
    refine ⟨_, rfl, _, rfl, l, _, _, c.length + 1, rfl, rfl, s6 _ _ hl4, by rw [show ((ys ++ [V.ref t]).length : Nat) = c.length + 1 from by simp [lys]]; exact Evl.ixN_nat (by simp; omega), ?_⟩
    have b6 := (same_but s6 (D := l)).trans (But.upd (H := upd H4 t6 (.tup [.str "round", .int ((y3 ++ [V.ref t4]).length : Nat)])) (o := .lst ((y3 ++ [V.ref t4]).set (c.length + 1) (V.ref t6))))
    refine q _ _ (b04.trans b6) upd_same ?_
    have e0 : putRow (.times e a) c = (c1 ++ [FR.on (c.length + 1)]).set (c.length + 1) (FR.round (c1.length + 1)) := by
      show ((putRows a (c ++ [FR.rounds e, FR.hole])) ++ [FR.on (c.length + 1)]).set (c.length + 1) (FR.round ((putRows a (c ++ [FR.rounds e, FR.hole])).length + 1)) = _
      rw [ec1]
    rw [e0, List.map_set]
    refine dps_set (dps_but (.lst hl4) b6 d4 (frs_noL _)) (.tup (SqT.of (by rw [upd_ne (Ne.symm nlt6), upd_same])) (.cons (.str _) (.cons ?_ .nil)))
    rw [show ((y3 ++ [V.ref t4]).length : Nat) = c1.length + 1 from by simp [ly3]]
    exact .int _
theorem ca_put_rows1 {n : Nat} (RI : Ca P w K mg base (2 * n + 2) "put_if" (spPut1 K n "if")) (RT : Ca P w K mg base (2 * n + 2) "put_times" (spPut1 K n "times")) (T : Txt w K mg) : Ca P w K mg base (2 * n + 3) "put_rows" (spPuts K (n + 1)) := by
    refine ca_of (N := ["code", "rows", "row"]) (ps := ["code", "rows"]) T.f_put_rows T.g_put_rows ⟨rfl, rfl, rfl, by decide +kernel, rfl, by decide +kernel, by decide +kernel⟩ (fun _ _ _ _ _ _ us hl => match us, hl with | [_, _], _ => rfl)
      (fun vs H Q E h => by obtain ⟨l, v, ys, c, rs, k, deep, loops, rfl, hl, hys, hv, ok, hn, hz, q⟩ := h; rfl) (fun cdv A outer s H vs Q E hr h => ?_)
    have nd : (["code", "rows", "row"] : List Str).Nodup := by decide +kernel
    obtain ⟨l, v, ys, c, rs, k, deep, loops, rfl, hl, hys, hv, ok, hn, hz, q⟩ := h
    obtain ⟨a, xs, rfl, ha, hxs⟩ := dp_tup hv
    have lxs : xs.length = rs.length := by rw [dps_len hxs, rowsD_map, List.length_map]
    refine ⟨_, (pss_one (ps_for PassesOwn.never rfl (pi_tup (pv 1)) (pg_name (i := 2) nd rfl (.inl rfl)) (pss_one (ps_if (pt_cmpR op_eq (pe_ix ix_tup (pv 2) pe_int (fun _ _ => rfl)) pe_str (nomark _)) (pss_one (ps_expr (pe_ca RI hr (pa_cons (pv 0) (pa_cons (pv 2) pa_nil)) (by omega)))) (pss_one (ps_if (pt_cmpR op_eq (pe_ix ix_tup (pv 2) pe_int (fun _ _ => rfl)) pe_str (nomark _)) (pss_one (ps_expr (pe_ca RT hr (pa_cons (pv 0) (pa_cons (pv 2) pa_nil)) (by omega)))) (pss_one (ps_expr (pe_bm PySem.F.plainAttrs_list PySem.F.slot_list_append PySem.F.type_list_append mt_append (pv 0) (pa_cons (pv 2) pa_nil)))))))))), ?_⟩
    have ch : Ch H l := .lst hl
    refine ⟨_, rfl, a, rfl, ⟨_, ha⟩, for_tup (xs := xs) (fun i σ' H' => ∃ x y', σ' = [some (.ref l), some (.ref a), x] ∧ But l H H' ∧ H' l = some (.lst y') ∧ DpAll K H' y' ((putRows (rs.take i) c).map FR.d)) ⟨none, ys, rfl, fun b o _ z => z, hl, hys⟩ (fun i σ' H' _ ⟨_, _, _, bt, _⟩ => sqT_but ch bt ha) ?_ ?_⟩
    · rintro i x σ' H' hx ⟨_, y', rfl, bt, hl', hy'⟩
      obtain ⟨dd, hdd, hxd⟩ := dps_get hxs hx
      rw [rowsD_map] at hdd
      obtain ⟨r, hr', rfl⟩ := get_mapA hdd
      have okr := rowsOkAt ok r (List.mem_of_getElem? hr')
      have szt := rowsCl_take hr'
      have gz := (putRows_goes (rs.take i) c).sz
      have ly' : y'.length = (putRows (rs.take i) c).length := by rw [dps_len hy', List.length_map]
      have hx2 : Dp K H' x r.d := dp_but ch bt hxd r.noL
      have r1 : 1 ≤ r.cl := by rw [row_cl]; omega
      have nxt : ∀ H3 y3, But l H' H3 → H3 l = some (.lst y3) → DpAll K H3 y3 ((putRow r (putRows (rs.take i) c)).map FR.d) → ∃ x' y', [some (.ref l), some (.ref a), some x] = [some (.ref l), some (.ref a), x'] ∧ But l H H3 ∧ H3 l = some (.lst y') ∧ DpAll K H3 y' ((putRows (rs.take (i + 1)) c).map FR.d) := fun H3 y3 b3 h3 d3 => ⟨_, y3, rfl, bt.trans b3, h3, by rw [take_more hr', putRows_snoc]; exact d3⟩
      have hv' := hx2
      rw [row_d] at hx2
      obtain ⟨ra, zs, rfl, hra, hzs⟩ := dp_tup hx2
      obtain ⟨z0, zr, rfl, h0, hzr⟩ : ∃ y ys, zs = y :: ys ∧ Dp K H' y (.str r.word) ∧ DpAll K H' ys (r.prts.map Prt.d) := by
        cases hzs with | cons h1 h2 => exact ⟨_, _, rfl, h1, h2⟩
      cases dp_str h0
      refine ⟨_, rfl, _, _, _, _, rfl, rfl, hra, at0, rfl, _, rfl, ?_⟩
      by_cases e1 : r.word = "if"
      · rw [e1]
        exact iteT ⟨_, rfl, _, rfl, l, _, y', _, r, k, deep, loops, rfl, hl', hy', hv', e1, ⟨okr.2, okr.1⟩, hn, by omega, fun H3 y3 b3 h3 d3 => nxt H3 y3 b3 h3 d3⟩
      · rw [decide_eq_false (show ¬ V.str r.word = V.str "if" from fun z => e1 (V.str.inj z))]
        refine iteF ⟨_, rfl, _, _, _, _, rfl, rfl, hra, at0, rfl, _, rfl, ?_⟩
        by_cases e2 : r.word = "times"
        · rw [e2]
          exact iteT ⟨_, rfl, _, rfl, l, _, y', _, r, k, deep, loops, rfl, hl', hy', hv', e2, ⟨okr.2, okr.1⟩, hn, by omega, fun H3 y3 b3 h3 d3 => nxt H3 y3 b3 h3 d3⟩
        · rw [decide_eq_false (show ¬ V.str r.word = V.str "times" from fun z => e2 (V.str.inj z))]
          refine iteF ⟨_, rfl, .inl ⟨rfl, _, .of hl'⟩, _, rfl, l, y', _, rfl, rfl, hl', by rw [sizeLine_eq]; omega, ?_⟩
          refine nxt _ _ But.upd upd_same ?_
          rw [putRow_plain _ e1 e2, List.map_append]
          exact dps_app (dps_but (.lst hl') But.upd hy' (frs_noL _)) (.cons (dp_but (.lst hl') But.upd hv' r.noL) .nil)
    · rintro σ' H' ⟨_, y', rfl, bt, hl', hy'⟩
      rw [lxs, List.take_length] at hy'
      exact q H' y' bt hl' hy'
theorem ca_put_rows (T : Txt w K mg) : ∀ n, Ca P w K mg base (2 * n + 1) "put_rows" (spPuts K n)
  | 0 => ca_false (ps := ["code", "rows"]) T.f_put_rows T.g_put_rows (fun _ _ _ _ _ _ us hl => match us, hl with | [_, _], _ => rfl)
  | n + 1 => ca_put_rows1 (ca_put_if (ca_put_rows T n) T) (ca_put_times (ca_put_rows T n) T) T
def spCode (K : PySem.W.Frag) : Sp := fun vs H Q _ => ∃ (v : V) (rs : List Row) (k : Int), vs = [v] ∧ Dp K H v (.tuple (rowsD rs)) ∧ rowsOk k 1 0 rs ∧ rowsCl rs ≤ 2000 ∧ ∀ H' u, Same H H' → Dp K H' u (codeD rs) → Q u H'
theorem ca_code_of (T : Txt w K mg) : Ca P w K mg base 30 "code_of" (spCode K) := by
  refine ca_of (N := ["body", "code"]) (ps := ["body"]) T.f_code_of T.g_code_of ⟨rfl, rfl, rfl, by decide +kernel, rfl, by decide +kernel, by decide +kernel⟩ (fun _ _ _ _ _ _ us hl => match us, hl with | [_], _ => rfl)
    (fun vs H Q E h => by obtain ⟨v, rs, k, rfl, hv, ok, hc, q⟩ := h; rfl) (fun cdv A outer s H vs Q E hr h => ?_)
  have nd : (["body", "code"] : List Str).Nodup := by decide +kernel
  obtain ⟨v, rs, k, rfl, hv, ok, hc, q⟩ := h
  refine ⟨_, (pss_cons (ps_set (i := 1) nd rfl (.inl rfl) (pe_lst pa_nil))
      (pss_cons (ps_expr (pe_ca (ca_put_rows T 13) hr (pa_cons (pv 1) (pa_cons (pv 0) pa_nil))))
      (pss_cons (ps_expr (pe_bm PySem.F.plainAttrs_list PySem.F.slot_list_append PySem.F.type_list_append mt_append (pv 1) (pa_cons (pe_tup (pa_cons pe_str (pa_cons pe_int pa_nil))) pa_nil)))
      (pss_one (ps_ret (pe_tupleOf (by rfl) T.b_tuple (pv 1))))))), ?_⟩
  refine ⟨(by show 0 ≤ sizeLine; exact Nat.zero_le _), fun l nl => ?_⟩
  have s0 : Same H (upd H l (.lst [])) := same_new nl
  refine ⟨_, rfl, _, rfl, l, v, [], [], rs, k, 1, 0, rfl, upd_same, .nil, dp_same s0 hv, ok, (by decide), by simp; omega, fun H1 y1 b1 h1 d1 => ?_⟩
  have gz := (putRows_goes rs []).sz
  have ly : y1.length = (putRows rs []).length := by rw [dps_len d1, List.length_map]
  refine ⟨_, rfl, .inl ⟨rfl, _, .of h1⟩, (by show 2 ≤ sizeLine; decide), fun t nt => ?_⟩
  have nlt : l ≠ t := ne_of_none h1 nt
  have s1 : Same H1 (upd H1 t (.tup [.str "answer", .int 0])) := same_new nt
  refine ⟨l, y1, _, rfl, rfl, s1 _ _ h1, by rw [sizeLine_eq]; simp at gz; omega, ?_⟩
  have b2 := (same_but s1 (D := l)).trans (But.upd (H := upd H1 t (.tup [.str "answer", .int 0])) (o := .lst (y1 ++ [V.ref t])))
  have d2 : DpAll K (upd (upd H1 t (.tup [.str "answer", .int 0])) l (.lst (y1 ++ [V.ref t]))) (y1 ++ [V.ref t]) ((codeOf rs).map FR.d) := by
    show DpAll _ _ _ ((putRows rs [] ++ [FR.row (.ans (.num 0))]).map FR.d)
    rw [List.map_append]
    exact dps_app (dps_but (.lst h1) b2 d1 (frs_noL _)) (.cons (.tup (SqT.of (by rw [upd_ne (Ne.symm nlt), upd_same])) (.cons (.str _) (.cons (.int 0) .nil))) .nil)
  refine ⟨_, rfl, .inl ⟨l, _, rfl, .of upd_same, fun p np => ?_⟩⟩
  have s3 := same_new (o := .tup (y1 ++ [V.ref t])) np
  refine q _ _ (fun b o e => ?_) (.tup (SqT.of upd_same) (dps_same s3 d2))
  refine s3 b o ?_
  have hb := ne_of_none e nl
  exact b2 b o hb (b1 b o hb (s0 b o e))
end

end M

set_option Elab.async false
set_option linter.all false
set_option maxRecDepth 100000
set_option maxHeartbeats 2000000
namespace M
open PySem PySem.Spec PyProof.Rows L2

theorem upd_id {H : Hp} {d : Addr} {u : HO} (h : H d = some u) : upd H d u = H := by
  funext b
  by_cases e : b = d
  · rw [e, upd_same, h]
  · rw [upd_ne e]
theorem codes_but {K : PySem.W.Frag} {H H' : Hp} {D : Addr} (hD : Ch H D) (s : But D H H') : ∀ {kvs : List (Key × V)} {ds : List (Str × Int × List Row)}, CodesR K H kvs ds → CodesR K H' kvs ds
  | [], [], _ => trivial
  | (_, _) :: _, _ :: _, h => ⟨h.1, dp_but hD s h.2.1 (code_noL _), codes_but hD s h.2.2⟩
  | [], _ :: _, h => h.elim
  | _ :: _, [], h => h.elim
theorem codes_at {K : PySem.W.Frag} {H : Hp} : ∀ {kvs : List (Key × V)} {ds : List (Str × Int × List Row)} {i : Nat} {p : Key × V}, CodesR K H kvs ds → kvs[i]? = some p → ∃ d, ds[i]? = some d ∧ p.1 = Sum.inr d.1 ∧ Dp K H p.2 (codeD d.2.2)
  | [], [], i, p, _, e => by simp at e
  | (k, v) :: r, d :: ds, 0, p, h, e => by
    cases (Option.some.inj e)
    exact ⟨d, rfl, h.1, h.2.1⟩
  | (k, v) :: r, d :: ds, i + 1, p, h, e => codes_at (i := i) h.2.2 e
  | [], _ :: _, _, _, h, _ => h.elim
  | _ :: _, [], _, _, h, _ => h.elim
theorem codes_len {K : PySem.W.Frag} {H : Hp} : ∀ {kvs : List (Key × V)} {ds : List (Str × Int × List Row)}, CodesR K H kvs ds → kvs.length = ds.length
  | [], [], _ => rfl
  | (_, _) :: _, _ :: _, h => congrArg (· + 1) (codes_len h.2.2)
  | [], _ :: _, h => h.elim
  | _ :: _, [], h => h.elim
theorem codes_snoc {K : PySem.W.Frag} {H : Hp} {v : V} {d : Str × Int × List Row} (hv : Dp K H v (codeD d.2.2)) : ∀ {kvs : List (Key × V)} {ds : List (Str × Int × List Row)}, CodesR K H kvs ds → CodesR K H (kvs ++ [(Sum.inr d.1, v)]) (ds ++ [d])
  | [], [], _ => ⟨rfl, hv, trivial⟩
  | (_, _) :: _, _ :: _, h => ⟨h.1, h.2.1, codes_snoc hv h.2.2⟩
  | [], _ :: _, h => h.elim
  | _ :: _, [], h => h.elim
theorem codes_no {K : PySem.W.Frag} {H : Hp} {s : Str} : ∀ {kvs : List (Key × V)} {ds : List (Str × Int × List Row)}, CodesR K H kvs ds → s ∉ ds.map (·.1) → valV kvs (Sum.inr s : Key) = none
  | [], [], _, _ => rfl
  | (k, v) :: r, d :: ds, h, n => by
    obtain ⟨rfl, _, hr⟩ := h
    rw [List.map_cons, List.mem_cons, not_or] at n
    have := codes_no hr n.2
    unfold valV at this ⊢
    rw [List.find?_cons_of_neg (by simp; exact fun e => n.1 e.symm)]
    exact this
  | [], _ :: _, h, _ => h.elim
  | _ :: _, [], h, _ => h.elim
/-- whether a row with this word stands in one of the codes -/
def hasW (ds : List (Str × Int × List Row)) (s : Str) : Bool := ds.any fun d => (codeOf d.2.2).any fun f => decide (f.hd = some s)
section
variable {P : Program} {w : World} {K : PySem.W.Frag} {mg : Str → Option Value} {base : Heap}
def spHasRow (K : PySem.W.Frag) : Sp := fun vs H Q _ => ∃ (d : Addr) (kvs : List (Key × V)) (ds : List (Str × Int × List Row)) (s : Str), vs = [.ref d, .str s] ∧ H d = some (.dK kvs) ∧ CodesR K H kvs ds ∧ Q (.bl (hasW ds s)) H
theorem ca_has_row (T : Txt w K mg) : Ca P w K mg base 1 "has_row" (spHasRow K) := by
  refine ca_of (N := ["codes", "word", "code", "row"]) (ps := ["codes", "word"]) T.f_has_row T.g_has_row ⟨rfl, rfl, rfl, by decide +kernel, rfl, by decide +kernel, by decide +kernel⟩ (fun _ _ _ _ _ _ us hl => match us, hl with | [_, _], _ => rfl)
    (fun vs H Q E h => by obtain ⟨d, kvs, ds, s, rfl, hd, hc, q⟩ := h; rfl) (fun cdv A outer s H vs Q E hr h => ?_)
  have nd : (["codes", "word", "code", "row"] : List Str).Nodup := by decide +kernel
  obtain ⟨d, kvs, ds, s, rfl, hd, hc, q⟩ := h
  refine ⟨_, pss_cons (ps_lock (ps_for PassesOwn.never rfl (pi_values (pv 0)) (pg_name (i := 2) nd rfl (.inl rfl))
    (pss_one (ps_for PassesOwn.never rfl (pi_tup (pv 2)) (pg_name (i := 3) nd rfl (.inl rfl)) (pss_one (ps_if (pt_cmpR op_eq (pe_ix ix_tup (pv 3) pe_int (fun _ _ => rfl)) (pv 1) (nomark _)) (pss_one (ps_ret pe_bl)) pss_nil))))))
    (pss_one (ps_ret pe_bl)), ?_⟩
  refine ⟨d, _, hd, True.intro, fun od => ?_⟩
  have ch : Ch H d := .dK hd
  have hcf : CodesR K (upd H d (.frz od (.dK kvs))) kvs ds := codes_but ch But.upd hc
  have back : upd (upd H d (.frz od (.dK kvs))) d (.dK kvs) = H := by rw [upd_upd, upd_id hd]
  have ret : ∀ b, b = hasW ds s → Q (.bl b) (upd (upd H d (.frz od (.dK kvs))) d (.dK kvs)) := fun b e => by rw [back, e]; exact q
  refine ⟨_, rfl, d, od, kvs, rfl, upd_same, for_it (n := kvs.length) walk_values (fun i σ' H' => ∃ x y, σ' = [some (.ref d), some (.str s), x, y] ∧ H' = upd H d (.frz od (.dK kvs)) ∧ hasW (ds.take i) s = false) ⟨none, none, rfl, rfl, rfl⟩ (fun i σ' H' _ ⟨_, _, _, e, _⟩ => by rw [e, upd_same]) ?_ ?_⟩
  · rintro i x σ' H' H2 hi ⟨_, _, rfl, rfl, hw⟩ ⟨rfl, k, hk⟩
    obtain ⟨dd, hdd, _, hcode⟩ := codes_at hcf hk
    obtain ⟨ra, xs, e0, hra, hxs⟩ := dp_tup hcode
    have e0 : x = .ref ra := e0
    subst e0
    have hin : dd ∈ ds := List.mem_of_getElem? hdd
    refine ⟨_, rfl, ra, rfl, ⟨_, hra⟩, for_tup (xs := xs) (fun j σ' H' => ∃ y, σ' = [some (.ref d), some (.str s), some (.ref ra), y] ∧ H' = upd H d (.frz od (.dK kvs)) ∧ ((codeOf dd.2.2).take j).any (fun f => decide (f.hd = some s)) = false) ⟨_, rfl, rfl, rfl⟩ (fun j σ' H' _ ⟨_, _, e, _⟩ => by rw [e]; exact hra) ?_ ?_⟩
    · rintro j y σ' H' hy ⟨_, rfl, rfl, hf⟩
      obtain ⟨de, hde, hyd⟩ := dps_get hxs hy
      obtain ⟨f, hf', rfl⟩ := get_mapA hde
      obtain ⟨wd, hwd⟩ := code_hd (List.mem_of_getElem? hf')
      rw [fr_d hwd] at hyd
      obtain ⟨rb, zs, rfl, hrb, hzs⟩ := dp_tup hyd
      obtain ⟨z0, zr, rfl, hz0⟩ : ∃ z0 zr, zs = z0 :: zr ∧ Dp K (upd H d (.frz od (.dK kvs))) z0 (.str wd) := by
        cases hzs with | cons h1 h2 => exact ⟨_, _, rfl, h1⟩
      cases dp_str hz0
      refine ⟨_, rfl, _, _, _, _, rfl, rfl, hrb, at0, _, rfl, rfl, _, rfl, ?_⟩
      by_cases e : wd = s
      · rw [decide_eq_true (show V.str wd = V.str s from congrArg V.str e)]
        refine iteT ⟨upd_same, ret _ ?_⟩
        refine (List.any_eq_true.mpr ⟨dd, hin, List.any_eq_true.mpr ⟨f, List.mem_of_getElem? hf', ?_⟩⟩).symm
        rw [hwd, e]
        exact decide_eq_true rfl
      · rw [decide_eq_false (show ¬ V.str wd = V.str s from fun z => e (V.str.inj z))]
        refine iteF ⟨_, rfl, rfl, ?_⟩
        rw [take_more hf', List.any_append, hf]
        simp [hwd, e]
    · rintro σ' H' ⟨_, rfl, rfl, hf⟩
      refine ⟨_, _, rfl, rfl, ?_⟩
      have lx : xs.length = (codeOf dd.2.2).length := by rw [dps_len hxs, List.length_map]
      rw [lx, List.take_length] at hf
      rw [take_more hdd]
      unfold hasW at hw ⊢
      rw [List.any_append, hw]
      simp [hf]
  · rintro σ' H' ⟨_, _, rfl, rfl, hw⟩
    rw [codes_len hc, List.take_length] at hw
    exact ⟨upd_same, ret _ hw.symm⟩
end

end M

set_option Elab.async false
set_option linter.all false
set_option maxRecDepth 100000
set_option maxHeartbeats 2000000
namespace M
open PySem PySem.Spec PyProof.Rows L2

/-- what stands at D is no list -/
def NoLst (H : Hp) (D : Addr) : Prop := (∀ xs, H D ≠ some (.lst xs)) ∧ ∀ o u, H D ≠ some (.frz o u)
theorem NoLst.ins {H : Hp} {D C dx : Addr} {l : List (Str × V)} (h : H D = some (.ins C dx l)) : NoLst H D := ⟨fun _ e => (by rw [h] at e; cases e), fun _ _ e => (by rw [h] at e; cases e)⟩
theorem NoLst.dT {H : Hp} {D : Addr} {l : List (List Key × V)} (h : H D = some (.dT l)) : NoLst H D := ⟨fun _ e => (by rw [h] at e; cases e), fun _ _ e => (by rw [h] at e; cases e)⟩
theorem NoLst.dK {H : Hp} {D : Addr} {l : List (Key × V)} (h : H D = some (.dK l)) : NoLst H D := ⟨fun _ e => (by rw [h] at e; cases e), fun _ _ e => (by rw [h] at e; cases e)⟩
theorem sqL_but {K : PySem.W.Frag} {H H' : Hp} {D : Addr} (hD : NoLst H D) (s : But D H H') {a : Addr} {xs : List V} (h : SqL K H a xs) : SqL K H' a xs := by
  rcases h with (h | ⟨o, h⟩) | h
  · exact .inl (.inl (s _ _ (fun e => hD.1 _ (e ▸ h)) h))
  · exact .inl (.inr ⟨o, s _ _ (fun e => hD.2 _ _ (e ▸ h)) h⟩)
  · exact .inr h
theorem cells_but {K : PySem.W.Frag} {H H' : Hp} {D : Addr} (hD : Ch H D) (s : But D H H') {xs : List V} {cs : List (Int × Int)} (h : DpAll K H xs (cs.map cellD)) : DpAll K H' xs (cs.map cellD) :=
  dps_but hD s h fun d hd => by
    obtain ⟨c, _, rfl⟩ := List.mem_map.mp hd
    exact cell_noL c
theorem deeds_but {K : PySem.W.Frag} {H H' : Hp} {D : Addr} (hD : Ch H D) (s : But D H H') {xs : List V} {cs : List (Str × Int × List Row)} (h : DpAll K H xs (cs.map deedD)) : DpAll K H' xs (cs.map deedD) :=
  dps_but hD s h fun d hd => by
    obtain ⟨c, _, rfl⟩ := List.mem_map.mp hd
    exact deed_noL c
theorem vf_codes0 (a d c : Addr) : (putF "_codes" (V.ref c) (putF "_deeds" (.ref d) (putF "_cells" (.ref a) []))).lookup ("_codes" : Str) = some (.ref c) := by
  rw [lookup_putF, if_pos rfl]
section
variable {P : Program} {w : World} {K : PySem.W.Frag} {mg : Str → Option Value} {base : Heap}
def spVault (K : PySem.W.Frag) : Sp := fun vs H Q _ => ∃ (p dx a b : Addr) (xs ys : List V) (v : Vlt), vs = [.ref p, .ref a, .ref b] ∧ H p = some (.ins (He.ga K "Vault") dx []) ∧ SqL K H a xs ∧ DpAll K H xs (v.cells.map cellD) ∧ SqL K H b ys ∧ DpAll K H ys (v.deeds.map deedD) ∧ VGood v ∧ ∀ H', But p H H' → VaultAt K H' p v → Q .non H'
theorem ma_Vault (T : Txt w K mg) : Ma P w K mg base 53 "Vault" (He.ga K "Vault") (spVault K) := by
  refine ma_of (N := ["self", "cells", "deeds", "name", "_", "body"]) (ps := ["self", "cells", "deeds"]) T.f_Vault_init T.g_Vault T.k_Vault ⟨rfl, rfl, rfl, by decide +kernel, rfl, by decide +kernel, by decide +kernel⟩ (fun _ _ _ _ _ _ us hl => match us, hl with | [_, _, _], _ => rfl)
    (fun vs H Q E h => by obtain ⟨p, dx, a, b, xs, ys, v, rfl, hp, ha, hxs, hb, hys, g, q⟩ := h; rfl) (fun cdv A outer s H vs Q E hr h => ?_)
  have nd : (["self", "cells", "deeds", "name", "_", "body"] : List Str).Nodup := by decide +kernel
  obtain ⟨p, dx, a, b, xs, ys, v, rfl, hp, ha, hxs, hb, hys, g, q⟩ := h
  refine ⟨_, (pss_cons (ps_if (PW.pt (pw_or (pt_not (pt_val (pe_is .list T.b_isinstance (pv 1) T.b_list boot_list))) (pw_or1 (pt_not (pt_val (pe_ca (ca_are_cells T) hr (pa_cons (pv 1) pa_nil))))))) (pss_one ps_never) pss_nil)
      (pss_cons (ps_if (PW.pt (pw_or (pt_not (pt_val (pe_is .list T.b_isinstance (pv 2) T.b_list boot_list))) (pw_or1 (pt_not (pt_val (pe_ca (ca_are_deeds T) hr (pa_cons (pv 2) (pa_cons (pe_callB call_len_seq (by rfl) T.b_len PySem.boot_len (pa_cons (pv 1) pa_nil)) pa_nil)))))))) (pss_one ps_never) pss_nil)
      (pss_cons (ps_fld (pv 0) (pe_tupleOf (by rfl) T.b_tuple (pv 1)) rfl)
      (pss_cons (ps_fld (pv 0) (pe_tupleOf (by rfl) T.b_tuple (pv 2)) rfl)
      (pss_cons (ps_fld (pv 0) (pe_dc (own := [("name", 3), ("_", 4), ("body", 5)]) (tt := tYes) rfl nd (pi_list (pv 2)) (blkOk_by (N := ["self", "cells", "deeds", "name", "_", "body"]) (sc := defScope s_Vault_init) (by decide +kernel)) (fun _ _ _ _ _ => pg_three K 3 4 5 rfl rfl nd rfl rfl rfl (.inl rfl) (.inl rfl) (.inl rfl) (.inr rfl) (.inr rfl) (.inr rfl)) (fun _ _ _ _ _ => pts_nil) (fun _ _ _ _ _ => pv 3) (fun _ _ _ _ _ => pe_ca (ca_code_of T) hr (pa_cons (pv 5) pa_nil))) rfl)
      (pss_one (ps_fld (pv 0) (pe_ca (ca_has_row T) hr (pa_cons (pe_fld (pv 0) rfl) (pa_cons pe_str pa_nil))) rfl))))))), ?_⟩
  refine ⟨_, rfl, _, _, rfl, .list ha, _, rfl, iteF ?_⟩
  refine ⟨_, rfl, a, xs, v.cells, rfl, ha, hxs, g.c0, g.c1, g.cs, _, rfl, iteF ?_⟩
  refine ⟨_, rfl, _, _, rfl, .list hb, _, rfl, iteF ?_⟩
  have lx : xs.length = v.cells.length := by rw [dps_len hxs, List.length_map]
  have ly : ys.length = v.deeds.length := by rw [dps_len hys, List.length_map]
  refine ⟨_, rfl, _, rfl, _, _, rfl, .inl ha, b, ys, v.deeds, v.cells.length, by rw [lx]; rfl, hb, hys, g.d0, g.d1, g.ds, g.nd, fun H1 s1 => ⟨_, rfl, iteF ?_⟩⟩
  refine ⟨_, rfl, .inl ⟨a, xs, rfl, s1.seq ha, fun t1 nt1 => ?_⟩⟩
  have hp1 := s1 _ _ hp
  have nt1p : t1 ≠ p := fun e => by rw [e, hp1] at nt1; cases nt1
  have s2 : Same H (upd H1 t1 (.tup xs)) := s1.trans (same_new nt1)
  refine ⟨_, rfl, p, _, dx, _, rfl, s2 _ _ hp, T.c_Vault, T.n_Vault_cells, (by show 0 < 1000; decide), ?_⟩
  have np2 : NoLst (upd H1 t1 (.tup xs)) p := .ins (s2 _ _ hp)
  have cp2 : Ch (upd H1 t1 (.tup xs)) p := .ins (s2 _ _ hp)
  generalize eH2 : upd H1 t1 (.tup xs) = H2 at s2 np2 cp2
  have at2 : H2 t1 = some (.tup xs) := by rw [← eH2, upd_same]
  generalize eH3 : upd H2 p (.ins (He.ga K "Vault") dx (putF "_cells" (.ref t1) [])) = H3
  have b3 : But p H2 H3 := eH3 ▸ But.upd
  have hp3 : H3 p = some (.ins (He.ga K "Vault") dx (putF "_cells" (.ref t1) [])) := by rw [← eH3, upd_same]
  have hb3 : SqL K H3 b ys := sqL_but np2 b3 (s2.seq hb)
  refine ⟨_, rfl, .inl ⟨b, ys, rfl, hb3, fun t2 nt2 => ?_⟩⟩
  have s4 : Same H3 (upd H3 t2 (.tup ys)) := same_new nt2
  refine ⟨_, rfl, p, _, dx, _, rfl, s4 _ _ hp3, T.c_Vault, T.n_Vault_deeds, (by show 1 < 1000; decide), ?_⟩
  generalize eH4 : upd H3 t2 (.tup ys) = H4 at s4
  have at4 : H4 t2 = some (.tup ys) := by rw [← eH4, upd_same]
  have hp4 := s4 _ _ hp3
  have np4 : NoLst H4 p := .ins hp4
  have cp4 : Ch H4 p := .ins hp4
  generalize eH5 : upd H4 p (.ins (He.ga K "Vault") dx (putF "_deeds" (.ref t2) (putF "_cells" (.ref t1) []))) = H5
  have b5 : But p H4 H5 := eH5 ▸ But.upd
  have hp5 : H5 p = some (.ins (He.ga K "Vault") dx (putF "_deeds" (.ref t2) (putF "_cells" (.ref t1) []))) := by rw [← eH5, upd_same]
  have hb5 : SqL K H5 b ys := sqL_but np4 b5 (s4.seq hb3)
  have b25 : But p H2 H5 := (b3.trans (same_but s4)).trans b5
  have at5 : H5 t1 = some (.tup xs) := b25 _ _ nt1p at2
  have nt2p : t2 ≠ p := fun e => by rw [e, hp3] at nt2; cases nt2
  have at52 : H5 t2 = some (.tup ys) := b5 _ _ nt2p at4
  have hxs5 : DpAll K H5 xs (v.cells.map cellD) := cells_but cp2 b25 (dps_same s2 hxs)
  have hys5 : DpAll K H5 ys (v.deeds.map deedD) := deeds_but cp2 b25 (dps_same s2 hys)
  refine ⟨_, rfl, b, rfl, ⟨_, hb5⟩, fun D hD => ?_⟩
  refine it_any (n := ys.length) walk_list (fun i H' => ∃ kvs, Same H5 H' ∧ H' D = some (.dK kvs) ∧ CodesR K H' kvs (v.deeds.take i)) ⟨[], same_new hD, upd_same, trivial⟩ (fun i H' _ ⟨_, s, _⟩ => s.seq hb5) ?_ ?_
  · rintro i x H' H6 hi ⟨kvs, s, eD, hc⟩ ⟨rfl, ex⟩
    obtain ⟨dd, ed, hdd⟩ := dps_get hys5 ex
    obtain ⟨d, ec, rfl⟩ := get_mapA ed
    obtain ⟨t, x1, x2, x3, rfl, ht, e1, e2, e3⟩ := dp3 (dp_same s hdd)
    cases dp_str e1
    have ok := g.ds d (List.mem_of_getElem? ec)
    refine ⟨t, _, rfl, ht, rfl, _, _, rfl, _, _, rfl, _, _, rfl, rfl, rfl, ?_⟩
    refine ⟨_, rfl, _, rfl, x3, d.2.2, v.cells.length, rfl, e3, ok.2.2.1, ok.2.2.2.2, fun H7 u s7 hu => ?_⟩
    have nn : d.1 ∉ (v.deeds.take i).map (·.1) := fun hm => by
      obtain ⟨d', hd', ed'⟩ := List.mem_map.mp hm
      obtain ⟨j, hj, ej⟩ := List.mem_iff_getElem.mp hd'
      rw [List.length_take] at hj
      rw [List.getElem_take] at ej
      have n1 : (v.deeds.map (·.1))[i]? = some d.1 := by rw [List.getElem?_map, ec]; rfl
      have n2 : (v.deeds.map (·.1))[j]? = some d.1 := by
        rw [List.getElem?_map, List.getElem?_eq_getElem (by omega : j < v.deeds.length), ej]
        exact congrArg some ed'
      have := nd_ix g.nd n1 n2
      omega
    have hl : kvs.length = (v.deeds.take i).length := codes_len hc
    have hl8 : (v.deeds.take i).length ≤ 8 := by rw [List.length_take]; have := g.d1; omega
    refine ⟨kvs, Sum.inr d.1, rfl, s7 _ _ eD, by rw [sizeLine_eq]; omega, _, ?_, upd_same, ?_⟩
    · exact fun b' o e => by
        rw [upd_ne (ne_of_none e hD)]
        exact s7 _ _ (s _ _ e)
    · rw [putK_new u (codes_no hc nn), take_more ec]
      exact codes_snoc (dp_but (.dK (s7 _ _ eD)) But.upd hu (code_noL _)) (codes_but (.dK (s7 _ _ eD)) But.upd (codes_same s7 hc))
  · rintro H6 ⟨kvs, s6, eD, hc⟩
    rw [ly, List.take_length] at hc
    have hp6 := s6 _ _ hp5
    refine ⟨_, rfl, p, _, dx, _, rfl, hp6, T.c_Vault, T.n_Vault_codes, (by show 2 < 1000; decide), ?_⟩
    have cp6 : Ch H6 p := .ins hp6
    have nDp : D ≠ p := fun e => by rw [e, hp5] at hD; cases hD
    generalize eH7 : upd H6 p (.ins (He.ga K "Vault") dx (putF "_codes" (.ref D) (putF "_deeds" (.ref t2) (putF "_cells" (.ref t1) [])))) = H7
    have b7 : But p H6 H7 := eH7 ▸ But.upd
    have hp7 : H7 p = some (.ins (He.ga K "Vault") dx (putF "_codes" (.ref D) (putF "_deeds" (.ref t2) (putF "_cells" (.ref t1) [])))) := by rw [← eH7, upd_same]
    have eD7 := b7 _ _ nDp eD
    have hc7 := codes_but cp6 b7 hc
    refine ⟨_, rfl, p, _, dx, _, _, rfl, hp7, T.c_Vault, T.n_Vault_codes, vf_codes0 .., D, kvs, v.deeds, "coin", rfl, eD7, hc7, ?_⟩
    refine ⟨_, rfl, p, _, dx, _, rfl, hp7, T.c_Vault, T.n_Vault_coins, (by show 3 < 1000; decide), ?_⟩
    generalize eH8 : upd H7 p (.ins (He.ga K "Vault") dx (putF "_coins" (.bl (hasW v.deeds "coin")) (putF "_codes" (.ref D) (putF "_deeds" (.ref t2) (putF "_cells" (.ref t1) []))))) = H8
    have b8 : But p H7 H8 := eH8 ▸ But.upd
    have hp8 : H8 p = some (.ins (He.ga K "Vault") dx (putF "_coins" (.bl (hasW v.deeds "coin")) (putF "_codes" (.ref D) (putF "_deeds" (.ref t2) (putF "_cells" (.ref t1) []))))) := by rw [← eH8, upd_same]
    have b58 : But p H5 H8 := ((same_but s6).trans b7).trans b8
    have cp5 : Ch H5 p := .ins hp5
    refine q H8 ((same_but s2).trans (b25.trans b58)) ⟨dx, t1, t2, D, hasW v.deeds "coin", kvs, hp8, ?_, ?_, b8 _ _ nDp eD7, codes_but (.ins hp7) b8 hc7⟩
    · exact .tup (.of (b58 _ _ nt1p at5)) (cells_but cp5 b58 hxs5)
    · exact .tup (.of (b58 _ _ nt2p at52)) (deeds_but cp5 b58 hys5)
end

end M

set_option Elab.async false
set_option linter.all false
set_option maxRecDepth 100000
set_option maxHeartbeats 2000000
namespace M
open PySem PySem.Spec PyProof.Rows L2

/-! ### a dict comprehension whose keys are tuples -/
/-- the new pair is put -/
theorem set_t {X : Cx} {pins : List (Addr × Obj)} {σ : L2.St} {H : Hp} {s : Shared} {E : Value → Shared → Prop} {D b : Addr} {kvs : List (List Key × V)} {k : List Key} {v : V} {r : Value} {Q : Unit → Shared → Prop} (hu : X.A.units + 1 < cLine) (I : Inv X pins σ H s) (e : H D = some (.dT kvs)) (eb : H b = some (.tup (k.map kV))) (lt : kvs.length < sizeLine)
    (rv : RelV v r) (go : ∀ s', Inv X pins σ (upd H D (.dT (putK kvs k v))) s' → Q () s') : wpAny (model X.prog X.w) X.A (dictSet D (.ref b) r) Q E s := by
  obtain ⟨z0, nd, zs, kt, dd⟩ := dt_of I.hok e
  have zl : zs.length ≤ sizeLine := (Paired.length kt) ▸ z0
  refine wpAny_dictSet_heap (show X.A.units < cLine from by omega) (key_of I.hok eb) dd (fun g' ⟨u0, es, ep, g1, g2, g3, g4, _, g5⟩ same => go _ ?_) zl
  refine d_write I (by rw [e]; exact True.intro) same ⟨u0, g1⟩ ⟨by have := length_putK kvs k v; omega, nd, _, (kt.put k eb rv).keeps fun c ys ec => ?_, u0, es, ep, g1, g2, g3, g4, g5⟩
  rw [upd_ne (ne_of ec e (fun j => nomatch j))]; exact ec
/-- D the new dict, its keys tuples -/
def tDcT (wi : TI) (g : TG) (tk tv : TE) (vs : List Nat) : TE := fun σ H Q => wi σ H fun J H1 => ∀ D, H1 D = none → ∃ W : Nat → Nat → Hp → Prop, (∃ m, W 0 m (upd H1 D (.dT []))) ∧ ∀ i m H', W i m H' → (J.stop i H' ∧ Q (.ref D) H') ∨
  (J.go i H' ∧ ∃ Nx : Hp → Prop, (∀ G, Nx G → ∃ m', m' < m ∧ W (i + 1) m' G) ∧ ∀ x G, J.yld i H' x G → g x (wipe σ vs) G fun σ2 G2 => wipe σ2 vs = wipe σ vs ∧ tk σ2 G2 fun y G3 => tv σ2 G3 fun z G4 =>
    ∃ kvs k b, y = .ref b ∧ G4 b = some (.tup (List.map kV k)) ∧ G4 D = some (.dT kvs) ∧ kvs.length < sizeLine ∧ Nx (upd G4 D (.dT (putK kvs k z))))
theorem pe_dcT {X : Cx} {kx vx tg iter : Expr} {scope : Scope} {own : List (Str × Nat)} {pos : Pos} {wi : TI} {g : TG} {tk tv : TE} (hu : X.A.units + 1 < cLine) (calm : X.calm = true) (nd : X.N.Nodup) (pi : PI X tg iter wi) (bk : BlkOk X.N X.env.scope scope own)
    (fg : ∀ (s : Shared) (H : Hp) (C : Addr) (cl : List (Str × Addr)) (fp : List Addr), PG (X.blk s H scope (compEnvC scope cl C X.env) fp) tg g)
    (fk : ∀ (s : Shared) (H : Hp) (C : Addr) (cl : List (Str × Addr)) (fp : List Addr), PE (X.blk s H scope (compEnvC scope cl C X.env) fp) kx tk)
    (fv : ∀ (s : Shared) (H : Hp) (C : Addr) (cl : List (Str × Addr)) (fp : List Addr), PE (X.blk s H scope (compEnvC scope cl C X.env) fp) vx tv) (fs : ∀ x, foldedSetIterable iter X.env x = pure x := by intro _; rfl) :
    PE X (.DictComp kx vx [⟨tg, iter, [], 0⟩] scope pos) (tDcT wi g tk tv (own.map (·.2))) := by
  refine ⟨fun pins s σ H Q I h => ?_⟩
  rw [arm_eval_DictComp]
  have fr : ∀ y ∈ scope.names, y.2 = .free → ∃ c, X.env.cells.lookup y.1 = some c := fun y hy e =>
    (bk.free y hy e).elim (fun k => I.ok.has _ (.inl k)) (fun k => I.ok.has _ (.inr k))
  refine wpAny_comprehension_free rfl fs (closure_ok fr) bk.kind (fun y hy e => by rw [bk.uniq y hy, e]) (thn (pi.run pins s σ H _ I h) fun xv s1 hx => thn hx fun itv s2 r2 => ?_)
  obtain ⟨it, fp, tn, J, H2, rfl, I2, T, st2, f2, q⟩ := r2
  refine wpAny_newObj_type (newEnv_comp ?_)
  generalize eD : s2.heap.objs.size = D
  obtain ⟨W, ⟨m0, w0⟩, turn⟩ := q D (I2.hok.fresh (Nat.le_of_eq eD))
  generalize e3 : ({ s2 with heap := s2.heap.push { cls := .type "dict", data := .dict #[] } } : Shared) = s3
  have h3 : s3.heap = s2.heap.push { cls := .type "dict", data := .dict #[] } := e3 ▸ rfl
  have I3 : Inv X pins σ (upd H2 D (.dT [])) s3 := by
    rw [← e3]; exact I2.laid (t' := s2.toks) (fun b o e => Heap.get?_push_of_some _ e) (Nat.le_of_eq eD) (eD ▸ dt_empty s2.heap I2.big)
  have small : ∀ b ∈ fp, b < s2.heap.objs.size := fun b hb => Heap.lt_size (T.obj _ _ st2 b hb).choose_spec.1
  have f3 : ∀ b ∈ fp, FpOk X pins (upd H2 D (.dT [])) b ∧ b < s3.heap.objs.size := fun b hb => by
    have lt := small b hb
    exact ⟨⟨(upd_ne (eD ▸ Nat.ne_of_lt lt)).trans (f2 b hb).1, (f2 b hb).2⟩, by rw [h3, Heap.size_push]; exact Nat.lt_succ_of_lt lt⟩
  have st3 : tn 0 s3.heap := T.keep _ _ _ st2 fun b _ o e => h3 ▸ Heap.get?_push_of_some _ e
  have I4 := block_start I3 bk nd f3
  have a1 := fg s3 (upd H2 D (.dT [])) s3.heap.objs.size (cellsFrom (s3.heap.objs.size + 1) scope.names (cloFrom X.env.cells scope.names [])) fp
  have a2 := fk s3 (upd H2 D (.dT [])) s3.heap.objs.size (cellsFrom (s3.heap.objs.size + 1) scope.names (cloFrom X.env.cells scope.names [])) fp
  have a3 := fv s3 (upd H2 D (.dT [])) s3.heap.objs.size (cellsFrom (s3.heap.objs.size + 1) scope.names (cloFrom X.env.cells scope.names [])) fp
  have nf : ∀ b ∈ fp, (upd H2 D (.dT [])) b = none := fun b hb => (f3 b hb).1.1
  show codeAny _ _ (.compStart (.DictComp kx vx [⟨tg, iter, [], 0⟩] scope pos) 0 (.ref it) (.ref D) (compEnvC scope (cellsFrom (s3.heap.objs.size + 1) scope.names (cloFrom X.env.cells scope.names [])) s3.heap.objs.size X.env)) _ { s3 with heap := pushCells (s3.heap.push { cls := .type "dict", data := .dict #[] }) scope.names }
  generalize ec : compEnvC scope (cellsFrom (s3.heap.objs.size + 1) scope.names (cloFrom X.env.cells scope.names [])) s3.heap.objs.size X.env = ce at I4 a1 a2 a3 ⊢
  have cL : ce.locals = s3.heap.objs.size := ec ▸ rfl
  generalize eH : upd H2 D (.dT []) = H3 at I3 I4 a1 a2 a3 w0 nf f3
  generalize e4 : ({ s3 with heap := pushCells (s3.heap.push { cls := .type "dict", data := .dict #[] }) scope.names } : Shared) = s4 at I4 ⊢
  have st4 : tn 0 s4.heap := T.keep _ _ _ st3 fun b _ o e => e4 ▸ pushCells_keeps _ _ _ _ (Heap.get?_push_of_some _ e)
  have fpk : ∀ {σ' : L2.St} {H' : Hp} {s' : Shared}, Inv (X.blk s3 H3 scope ce fp) [] σ' H' s' → (∀ b ∈ fp, H' b = none) → ∀ b ∈ fp, FpOk (X.blk s3 H3 scope ce fp) [] H' b := fun I' hn b hb =>
    ⟨hn b hb, (I'.ok.exf b hb).1, I'.ok.exfs b hb, .inl hb, fun x c e => (I'.ok.exf b hb).2 x c e, fun p hp => nomatch (show p ∈ ([] : List (Addr × Obj)) from hp)⟩
  refine (fun lp => codeAny_compStart_dict lp (T.self X.A 0 _ _ _ st4 lp)) (compLoop_anyD (fun n s' => ∃ i H', Inv (X.blk s3 H3 scope ce fp) [] (wipe σ (own.map (·.2))) H' s' ∧ tn i s'.heap ∧ (∀ b ∈ fp, H' b = none) ∧ W i n H') ?_ m0 ⟨0, H3, I4, st4, nf, w0⟩)
  rintro n s5 ⟨i, H5, I5, st5, n5, w5⟩
  rcases turn i n H5 w5 with ⟨stop, qq⟩ | ⟨go, Nx, less, step⟩
  · refine thnF (T.done (X.blk s3 H3 scope ce fp) rfl rfl rfl calm i [] s5 _ H5 (fun _ _ => False) I5 (fpk I5 n5) st5 stop) fun r s6 ⟨hr, I6⟩ => ?_
    subst hr
    have I7 : Inv X pins σ H5 s6 := I3.call' (ch := fp) I6.os I6.base I6.hok I6.bare fun b hb => ⟨(f3 b hb).1.2.2.2.1, (f3 b hb).1.2.1, (f3 b hb).1.2.2.2.2.1, (f3 b hb).1.2.2.2.2.2⟩
    have nC : H5 s3.heap.objs.size = none := cL ▸ (show H5 ce.locals = none from I6.free)
    obtain ⟨m, hm, _⟩ := I6.loc
    refine ⟨m, cL ▸ (show s6.heap.Ns ce.locals m from hm), fun h'' sb => ?_⟩
    obtain ⟨p0, p1, p2, p3, p4, p5⟩ := I3.fpOk (Nat.le_refl _) nC
    exact ⟨.ref D, H5, I7.turned (t' := s6.toks) (fun b o hb e => (sb.2 b hb).trans e) p0 p1 p3 p4 p5, rfl, qq⟩
  · refine thnF (T.item (X.blk s3 H3 scope ce fp) rfl rfl rfl calm i [] s5 _ H5 (fun _ _ => False) I5 (fpk I5 n5) st5 go) fun r s6 ⟨u, hr, h6⟩ => ?_
    subst hr
    refine thnF h6 fun _ s7 ⟨x, H7, I7, r7, y7, st7, n7⟩ => thnF (a1.run _ s7 _ H7 x u _ (I7.pinned (fpk I7 n7) (T.obj _ _ st7)) r7 (step x H7 y7)) fun _ s8 ⟨σ8, H8, I8, hw8, q8⟩ => ?_
    refine wpAny_pure (show (if true = true then _ else _) from ?_)
    refine thnF (a2.run _ s8 σ8 H8 _ I8 q8) fun k10 s10 ⟨yk, H10, I10, r10, q10⟩ => thnF (a3.run _ s10 σ8 H10 _ I10 q10) fun z2 s11 ⟨yv, H11, I11, r11, kvs, k, b, ek, eb, eD1, lt, nx⟩ => ?_
    subst ek
    cases (show k10 = Value.ref b from r10)
    refine set_t (X := X.blk s3 H3 scope ce fp) hu I11 eD1 eb lt r11 fun s12 I12 => ?_
    obtain ⟨m', hm, w'⟩ := less _ nx
    have pk : ∀ b ∈ fp, ∀ o, s7.heap.get? b = some o → s12.heap.get? b = some o ∧ (upd H11 D (.dT (putK kvs k yv))) b = none := fun b hb o e =>
      have z := I12.pin (b, o) (List.mem_append_right _ (List.mem_append_right _ (mem_pinsAt hb e)))
      ⟨z.1, z.2.1⟩
    refine ⟨m', hm, i + 1, _, (I12.unpinned (pins := [])).weak (by rw [← hw8, wipe_length]) (fun j v e => (wipe_some (hw8 ▸ e)).1), T.keep _ _ _ st7 fun b hb o e => (pk b hb o e).1, fun b hb => ?_, w'⟩
    obtain ⟨o, e, _⟩ := T.obj _ _ st7 b hb
    exact (pk b hb o e).2

end M

set_option Elab.async false
set_option linter.all false
set_option maxRecDepth 100000
set_option maxHeartbeats 2000000
namespace M
open PySem PySem.Spec PyProof.Rows L2

/-! ### calls by their numbers -/
def ckey (c : Str × Int) : List Key := [Sum.inr c.1, Sum.inl c.2]
theorem ckey_inj {c d : Str × Int} (h : ckey c = ckey d) : c = d := by
  unfold ckey at h
  simp at h
  exact Prod.ext h.1 h.2
theorem ckey_v (c : Str × Int) : (ckey c).map kV = [V.str c.1, V.int c.2] := rfl
def numK (cs : List (Str × Int)) : List (List Key × V) := cs.mapIdx fun i c => (ckey c, V.int (i : Nat))
theorem valV_none {kvs : List (List Key × V)} {k : List Key} (h : ∀ p ∈ kvs, p.1 ≠ k) : valV kvs k = none := by
  unfold valV
  have e : kvs.find? (fun kv => decide (kv.1 = k)) = none := List.find?_eq_none.mpr fun p hp => by simpa using h p hp
  rw [e]
  rfl
theorem valV_at : ∀ {kvs : List (List Key × V)} {i : Nat} {k : List Key} {v : V}, kvs[i]? = some (k, v) → (∀ j p, j < i → kvs[j]? = some p → p.1 ≠ k) → valV kvs k = some v
  | [], i, k, v, h, _ => by simp at h
  | p :: r, 0, k, v, h, _ => by
    cases (Option.some.inj h)
    unfold valV
    rw [List.find?_cons_of_pos (by simp)]
    rfl
  | p :: r, i + 1, k, v, h, n => by
    have := valV_at (kvs := r) (i := i) h fun j q hj e => n (j + 1) q (by omega) e
    unfold valV at this ⊢
    rw [List.find?_cons_of_neg (by simpa using n 0 p (by omega) rfl)]
    exact this
theorem numK_snoc (cs : List (Str × Int)) (c : Str × Int) : numK (cs ++ [c]) = numK cs ++ [(ckey c, V.int (cs.length : Nat))] := by
  unfold numK
  rw [List.mapIdx_concat]
theorem numK_at {cs : List (Str × Int)} {i : Nat} {c : Str × Int} (h : cs[i]? = some c) : (numK cs)[i]? = some (ckey c, V.int (i : Nat)) := by
  unfold numK
  rw [List.getElem?_mapIdx, h]
  rfl
theorem numK_of {cs : List (Str × Int)} {i : Nat} {p : List Key × V} (h : (numK cs)[i]? = some p) : ∃ c, cs[i]? = some c ∧ p = (ckey c, V.int (i : Nat)) := by
  unfold numK at h
  rw [List.getElem?_mapIdx] at h
  cases e : cs[i]? with
  | none => rw [e] at h; cases h
  | some c => rw [e] at h; exact ⟨c, rfl, (Option.some.inj h).symm⟩
theorem nd_ixG {α : Type} {l : List α} (n : l.Nodup) {i j : Nat} {x : α} (hi : l[i]? = some x) (hj : l[j]? = some x) : i = j := by
  obtain ⟨li, ei⟩ := List.getElem?_eq_some_iff.mp hi
  obtain ⟨lj, ej⟩ := List.getElem?_eq_some_iff.mp hj
  have p := List.pairwise_iff_getElem.mp n
  rcases Nat.lt_trichotomy i j with h | h | h
  · exact absurd (ei.trans ej.symm) (p i j li lj h)
  · exact h
  · exact absurd (ej.trans ei.symm) (p j i lj li h)
theorem numK_val {cs : List (Str × Int)} {i : Nat} {c : Str × Int} (n : cs.Nodup) (h : cs[i]? = some c) : valV (numK cs) (ckey c) = some (V.int (i : Nat)) := by
  refine valV_at (numK_at h) fun j p hj e q => ?_
  obtain ⟨d, hd, rfl⟩ := numK_of e
  have := ckey_inj q
  subst this
  have := nd_ixG n hd h
  omega
theorem numK_new {cs : List (Str × Int)} {c : Str × Int} (n : c ∉ cs) : valV (numK cs) (ckey c) = none := by
  refine valV_none fun p hp e => ?_
  obtain ⟨i, hi, ei⟩ := List.mem_iff_getElem.mp hp
  obtain ⟨d, hd, rfl⟩ := numK_of (by rw [List.getElem?_eq_getElem hi, ei])
  have := ckey_inj e
  subst this
  exact n (List.mem_of_getElem? hd)
theorem numK_len (cs : List (Str × Int)) : (numK cs).length = cs.length := by simp [numK]
theorem calls_nd {v : Vlt} (n : (v.deeds.map (·.1)).Nodup) : v.calls.Nodup := by
  unfold Vlt.calls List.Nodup
  rw [List.pairwise_flatMap]
  refine ⟨fun d _ => ?_, ?_⟩
  · rw [List.pairwise_map]
    refine List.Pairwise.imp (fun {a b} h e => h ?_) (List.nodup_range (n := d.2.1.toNat))
    have := (Prod.ext_iff.mp e).2
    simp only [] at this
    exact Int.ofNat.inj this
  · have n := List.pairwise_map.mp n
    refine n.imp fun {a b} h x hx y hy e => ?_
    obtain ⟨_, _, rfl⟩ := List.mem_map.mp hx
    obtain ⟨_, _, rfl⟩ := List.mem_map.mp hy
    exact h (Prod.ext_iff.mp e).1
theorem calls_len {v : Vlt} (ok : VOk v) : v.calls.length ≤ 72 := by
  have : ∀ l : List (Str × Int × List Row), (∀ d ∈ l, d.2.1 ≤ 9) → (l.flatMap fun d => (List.range d.2.1.toNat).map fun (j : Nat) => (d.1, (j : Int))).length ≤ 9 * l.length := by
    intro l
    induction l with
    | nil => intro _; simp
    | cons d r ih =>
      intro h
      rw [List.flatMap_cons, List.length_append, List.length_map, List.length_range, List.length_cons]
      have h1 := h d List.mem_cons_self
      have h2 := ih fun d hd => h d (List.mem_cons_of_mem _ hd)
      omega
  have q := this v.deeds fun d hd => (ok.ch d hd).2
  have := ok.d1
  unfold Vlt.calls
  omega
theorem calls_of {v : Vlt} {c : Str × Int} (h : c ∈ v.calls) : ∃ d ∈ v.deeds, d.1 = c.1 := by
  unfold Vlt.calls at h
  obtain ⟨d, hd, hc⟩ := List.mem_flatMap.mp h
  obtain ⟨_, _, rfl⟩ := List.mem_map.mp hc
  exact ⟨d, hd, rfl⟩
theorem tups_at {H : Hp} : ∀ {ys : List V} {cs : List (Str × Int)} {i : Nat} {y : V}, TupsAt H ys cs → ys[i]? = some y → ∃ c t, cs[i]? = some c ∧ y = .ref t ∧ H t = some (.tup [.str c.1, .int c.2])
  | [], [], i, y, _, h => by simp at h
  | _ :: _, c :: _, 0, y, ⟨⟨t, e, h⟩, _⟩, q => by
    cases (Option.some.inj q)
    exact ⟨c, t, rfl, e, h⟩
  | _ :: _, _ :: _, i + 1, y, ⟨_, r⟩, q => tups_at (i := i) r q
  | [], _ :: _, _, _, h, _ => h.elim
  | _ :: _, [], _, _, h, _ => h.elim
/-- the vault's method m is its class's -/
theorem VaultAt.me {K : PySem.W.Frag} {H : Hp} {p : Addr} {v : Vlt} (h : VaultAt K H p v) (m : Str) (h1 : ¬ m = "_cells" := by decide +kernel) (h2 : ¬ m = "_deeds" := by decide +kernel) (h3 : ¬ m = "_codes" := by decide +kernel) (h4 : ¬ m = "_coins" := by decide +kernel) :
    ∃ dx fs, H p = some (.ins (He.ga K "Vault") dx fs) ∧ fs.lookup m = none := by
  obtain ⟨dx, a, d, c, b, kvs, e1, _⟩ := h.ob
  exact ⟨dx, _, e1, vf_no a d c b h1 h2 h3 h4⟩
section
variable {P : Program} {w : World} {K : PySem.W.Frag} {mg : Str → Option Value} {base : Heap}
def spNumbers (K : PySem.W.Frag) : Sp := fun vs H Q _ => ∃ (p : Addr) (v : Vlt), vs = [.ref p] ∧ VaultAt K H p v ∧ VOk v ∧ ∀ d H', Same H H' → H' d = some (.dT (numK v.calls)) → Q (.ref d) H'
theorem ca_call_numbers (T : Txt w K mg) : Ca P w K mg base 2 "call_numbers" (spNumbers K) := by
  refine ca_of (N := ["vault", "number", "call"]) (ps := ["vault"]) T.f_call_numbers T.g_call_numbers ⟨rfl, rfl, rfl, by decide +kernel, rfl, by decide +kernel, by decide +kernel⟩ (fun _ _ _ _ _ _ us hl => match us, hl with | [_], _ => rfl)
    (fun vs H Q E h => by obtain ⟨p, v, rfl, hv, ok, q⟩ := h; rfl) (fun cdv A outer s H vs Q E hr h => ?_)
  have nd : (["vault", "number", "call"] : List Str).Nodup := by decide +kernel
  obtain ⟨p, v, rfl, hv, ok, q⟩ := h
  refine ⟨_, pss_one (ps_ret (pe_dcT (own := [("number", 1), ("call", 2)]) (hu_of hr) rfl nd (pi_enum (by rfl) T.b_enumerate (pa_cons (pe_me0 (me_Vault_calls T) hr (pv 0)) pa_nil)) (blkOk_by (N := ["vault", "number", "call"]) (sc := defScope s_call_numbers) (by decide +kernel))
    (fun _ _ _ _ _ => pg_two K 1 2 rfl rfl nd rfl rfl (.inl rfl) (.inl rfl) (.inr rfl) (.inr rfl)) (fun _ _ _ _ _ => pv 2) (fun _ _ _ _ _ => pv 1))), ?_⟩
  obtain ⟨dx, fs, e1, e2⟩ := hv.me "calls"
  refine ⟨_, rfl, p, dx, fs, rfl, e1, e2, p, v, rfl, hv, ok, fun a ys H1 s1 ha ht => ⟨a, ys, rfl, .of ha, fun D hD => ?_⟩⟩
  have nds := calls_nd ok.nd
  have ly := tups_len ht
  have l72 := calls_len ok
  refine it_any (n := ys.length) walk_enum (fun i H' => Same H1 H' ∧ H' D = some (.dT (numK (v.calls.take i)))) ⟨same_new hD, upd_same⟩ (fun i H' _ ⟨s, _⟩ => s.seq (.of ha)) ?_ ?_
  · rintro i x H' H2 hi ⟨s, eD⟩ ⟨t, x1, x2, rfl, nt, rfl, e1, e2⟩
    cases (Option.some.inj e1)
    obtain ⟨c, u, hc, rfl, hu⟩ := tups_at ht e2
    refine ⟨t, _, rfl, .of upd_same, rfl, _, _, rfl, _, _, rfl, rfl, rfl, ?_⟩
    have ntD : D ≠ t := ne_of_none eD nt
    have hu2 := same_new (o := .tup [.int (i : Nat), .ref u]) nt _ _ (s _ _ hu)
    refine ⟨_, rfl, _, rfl, _, ckey c, u, rfl, hu2, by rw [upd_ne ntD]; exact eD, by rw [numK_len, List.length_take, sizeLine_eq]; omega, fun b o e => ?_, ?_⟩
    · rw [upd_ne (ne_of_none e hD), upd_ne (ne_of_none (s _ _ e) nt)]
      exact s _ _ e
    · rw [upd_same]
      have nn : c ∉ v.calls.take i := fun hm => by
        obtain ⟨j, hj, ej⟩ := List.mem_iff_getElem.mp hm
        rw [List.length_take] at hj
        rw [List.getElem_take] at ej
        have := nd_ixG nds (by rw [List.getElem?_eq_getElem (by omega : j < v.calls.length), ej]) hc
        omega
      rw [putK_new _ (numK_new nn), take_more hc, numK_snoc, List.length_take]
      have : min i v.calls.length = i := by omega
      rw [this]
  · rintro H' ⟨s, eD⟩
    rw [ly, List.take_length] at eD
    exact q D H' (s1.trans s) eD
end

end M

set_option Elab.async false
set_option linter.all false
set_option maxRecDepth 100000
set_option maxHeartbeats 2000000
namespace M
open PySem PySem.Spec PyProof.Rows L2

/-- an attribute, the library told -/
theorem pe_fldK {X : Cx} {e : Expr} {ta : TE} {f : Str} {pos : Pos} (K : PySem.W.Frag) (hK : X.K = K) (he : PE X e ta) (hb : attributeBase e f X.env (eval e X.env) = eval e X.env) : PE X (.Attribute e f pos) (tFld K ta f) := hK ▸ pe_fld he hb
section
variable {P : Program} {w : World} {K : PySem.W.Frag} {mg : Str → Option Value} {base : Heap}
def spNumber : Sp := fun vs H Q _ => ∃ (d t : Addr) (kvs : List (List Key × V)) (c : Str × Int) (i : Int), vs = [.ref d, .ref t] ∧ H d = some (.dT kvs) ∧ H t = some (.tup [.str c.1, .int c.2]) ∧ valV kvs (ckey c) = some (.int i) ∧ Q (.int i) H
theorem ca_call_number (T : Txt w K mg) : Ca P w K mg base 3 "call_number" (spNumber) := by
  refine ca_of (N := ["numbers", "value"]) (ps := ["numbers", "value"]) T.f_call_number T.g_call_number ⟨rfl, rfl, rfl, by decide +kernel, rfl, by decide +kernel, by decide +kernel⟩ (fun _ _ _ _ _ _ us hl => match us, hl with | [_, _], _ => rfl)
    (fun vs H Q E h => by obtain ⟨d, t, kvs, c, i, rfl, hd, ht, hv, q⟩ := h; rfl) (fun cdv A outer s H vs Q E hr h => ?_)
  have nd : (["numbers", "value"] : List Str).Nodup := by decide +kernel
  obtain ⟨d, t, kvs, c, i, rfl, hd, ht, hv, q⟩ := h
  refine ⟨_, (pss_cons (ps_if (PW.pt (pw_or (pt_not (pt_val (pe_ca (ca_is_tuple T) hr (pa_cons (pv 1) (pa_cons pe_int pa_nil))))) (pw_or (pt_not (pt_val (pe_is .str T.b_isinstance (pe_ix ix_tup (pv 1) pe_int (fun _ _ => rfl)) T.b_str boot_str))) (pw_or1 (pt_not (pt_val (pe_ca (ca_is_integer T) hr (pa_cons (pe_ix ix_tup (pv 1) pe_int (fun _ _ => rfl)) pa_nil)))))))) (pss_one (ps_ret (pe_un un_neg pe_int))) pss_nil)
      (pss_one (ps_ret (pe_dget2 (hu_of hr) (pv 0) (pv 1) (pe_un un_neg pe_int) ⟨rfl, rfl, rfl, rfl⟩)))), ?_⟩
  refine ⟨_, rfl, _, _, _, rfl, .of ht, _, rfl, iteF ?_⟩
  refine ⟨_, rfl, _, _, _, _, rfl, rfl, .of ht, at0, _, _, rfl, .str _, _, rfl, iteF ?_⟩
  refine ⟨_, rfl, _, _, _, _, rfl, rfl, .of ht, at1, _, _, rfl, .int _, _, rfl, iteF ?_⟩
  refine ⟨_, rfl, d, rfl, .inr ⟨kvs, .inl hd⟩, _, rfl, _, rfl, _, DGet.t hd (k := ckey c) ht, ?_⟩
  rw [hv]
  exact q
def spFalls (K : PySem.W.Frag) : Sp := fun vs H Q _ => ∃ (a : Addr) (fs : List Int), vs = [.ref a] ∧ SqL K H a (fs.map .int) ∧ (∀ f ∈ fs, 0 ≤ f ∧ f ≤ 1) ∧ Q (.bl true) H
def spChkState (K : PySem.W.Frag) : Sp := fun vs H Q _ => ∃ (p b : Addr) (v : Vlt) (hs : List Int), vs = [.ref p, .ref b] ∧ VaultAt K H p v ∧ VOk v ∧ SqT K H b (hs.map .int) ∧ StateOk (v.cells.map (·.1)) hs ∧ ∀ H', Same H H' → Q .non H'
def spChkCall (K : PySem.W.Frag) : Sp := fun vs H Q _ => ∃ (p t : Addr) (v : Vlt) (i : Nat) (c : Str × Int), vs = [.ref p, .ref t] ∧ VaultAt K H p v ∧ VOk v ∧ H t = some (.tup [.str c.1, .int c.2]) ∧ v.calls[i]? = some c ∧ ∀ H', Same H H' → Q .non H'
/-- what a run of the call c begins with -/
def StartAt (K : PySem.W.Frag) (H : Hp) (v : Vlt) (c : Str × Int) (y : V) : Prop := ∃ d ∈ v.deeds, d.1 = c.1 ∧ Dp K H y (.tuple [codeD d.2.2, .int c.2])
theorem StartAt.but {H H' : Hp} {v : Vlt} {c : Str × Int} {y : V} {D : Addr} (hD : Ch H D) (s : But D H H') (h : StartAt K H v c y) : StartAt K H' v c y := by
  obtain ⟨d, hd, e, h⟩ := h
  refine ⟨d, hd, e, dp_but hD s h (.tup fun x hx => ?_)⟩
  rcases List.mem_cons.mp hx with rfl | hx
  · exact code_noL _
  · rw [List.mem_singleton.mp hx]
    exact .int _
def spStarts (K : PySem.W.Frag) : Sp := fun vs H Q _ => ∃ (p : Addr) (v : Vlt), vs = [.ref p] ∧ VaultAt K H p v ∧ VOk v ∧ ∀ (a : Addr) (ys : List V) (H' : Hp), Same H H' → H a = none → H' a = some (.lst ys) → ys.length = v.calls.length → (∀ (i : Nat) (y : V), ys[i]? = some y → ∃ c, v.calls[i]? = some c ∧ StartAt K H' v c y) → Q (.ref a) H'
end

end M

set_option Elab.async false
set_option linter.all false
set_option maxRecDepth 100000
set_option maxHeartbeats 2000000
namespace M
open PySem PySem.Spec PyProof.Rows L2

/-- the def x of the module, its parameters told -/
structure Cf (P : Program) (w : World) (K : PySem.W.Frag) (mg : Str → Option Value) (base : Heap) (k : Nat) (x : Str) (ps : List Str) (sp : Sp) : Prop where
  ex : ∃ (fd : FuncData) (oc : Value) (od : Option Addr) (osl : Array (Option Value)), K.lookup (He.ga K x) = some ⟨oc, od, .func fd, osl⟩ ∧ FnOk P w K mg base CX0 k (He.ga K x) fd ps sp ∧ PySem.W.keepIn K (.ref (He.ga K x)) = true ∧ Binds K fd ps []
  g : mg x = some (.ref (He.ga K x))
theorem cf_of {P : Program} {w : World} {K : PySem.W.Frag} {mg : Str → Option Value} {base : Heap} {x : Str} {st : Stmt} {N ps : List Str} {k : Nat} {sp : Sp} (F : ∃ fd, FunD K x x (defArgs st) (defBody st) (defScope st) [] [] (He.fAd K (x, none)) fd) (g : mg x = some (.ref (He.ga K x))) (S : FnScope N ps (defScope st)) (hb : BindsH x x st ps)
    (len : ∀ vs H Q E, sp vs H Q E → vs.length = ps.length) (hbody : BodyH P w K mg base x st N k (He.fAd K (x, none)) sp) : Cf P w K mg base (k + 1) x ps sp := by
  obtain ⟨fd, F⟩ := F
  obtain ⟨oc, od, dV, kV, doc, pm, an, cdv, ct, osl, e, lk, _⟩ := F.ex
  exact ⟨⟨fd, oc, od, osl, lk, fn_d F S len hbody, F.kp, F.bindsN hb⟩, g⟩
theorem Cf.mono {P : Program} {w : World} {K : PySem.W.Frag} {mg : Str → Option Value} {base : Heap} {x : Str} {ps : List Str} {j k : Nat} {sp : Sp} (c : Cf P w K mg base j x ps sp) (h : j ≤ k) : Cf P w K mg base k x ps sp := by
  obtain ⟨fd, oc, od, osl, lk, F, r⟩ := c.ex
  exact ⟨⟨fd, oc, od, osl, lk, F.mono h, r⟩, c.g⟩
theorem ne_ho {H : Hp} {a b : Addr} {o p : HO} (ha : H a = some o) (hb : H b = some p) (n : o ≠ p) : a ≠ b := fun e => n (by rw [e, hb] at ha; exact (Option.some.inj ha).symm)
theorem getD_mem {l : List Int} {i : Nat} {d : Int} (h : i < l.length) : l.getD i d ∈ l := by
  rw [List.getD_eq_getElem?_getD, List.getElem?_eq_getElem h]
  exact List.getElem_mem h
theorem atK {l : List Int} {k : Int} {n : Nat} (h0 : 0 ≤ k) (hk : k < n) (hn : l.length = n) : atI (l.map V.int) k = some (.int (l.getD k.toNat 0)) := by
  have e : ((k.toNat : Nat) : Int) = k := Int.toNat_of_nonneg h0
  have hl : k.toNat < l.length := by omega
  have := atI_nat (xs := l.map V.int) (j := k.toNat) (v := .int (l.getD k.toNat 0)) (by
    rw [List.getElem?_map, List.getD_eq_getElem?_getD, List.getElem?_eq_getElem hl]
    rfl)
  rw [e] at this
  exact this
theorem none_of {H H' : Hp} {x : Addr} (s : Same H H') (h : H' x = none) : H x = none := by
  cases e : H x with
  | none => rfl
  | some o => rw [s _ _ e] at h; cases h
theorem boot_all : bootBuiltins "all" = some (.builtin "all") := by decide +kernel

end M

set_option Elab.async false
set_option linter.all false
set_option maxRecDepth 100000
set_option maxHeartbeats 2000000
namespace M
open PySem PySem.Spec PyProof.Rows L2

/-! ### an own error without arguments -/
section
variable {X : Cx} {C : Addr} {bmB : List Value} {B newId initId : String}
theorem pmk_own0 {x : Str} {p pos : Pos} (F : ExcBaseFacts B newId initId bmB) (q : PySem.W.excIn X.K C bmB newId = true) (gC : X.mg x = some (.ref C)) (kC : PySem.W.keepIn X.K (.ref C) = true) (r : Raises X (.ref C)) (hg : Gl X x := by rfl)
    (hdb : (x == ("__debug__" : Str)) = false := by decide) : PMk X (.Call (.Name x p) [] [] pos) (fun _ H Q => Q (.ref C) none H) := by
  intro pins s σ H Q I h
  refine wpAny_Call_Name_kw (ld_glob I hg gC ?_ hdb)
  refine PySem.W.callWith_K0 I.kIn kC ?_
  show wpAny _ _ (call (.ref C) []) _ _ _
  obtain ⟨bm, N, nm, qn, bs, hdct, sn, sub, ab, col, dd, k0, k1, k2, k3, k5, mN, hC, hN, hni, T⟩ := exc_obj I.kIn q
  refine wpAny_call_exc_subT F T hC hN hni (fun h' e hm => ?_) (Nat.zero_le _)
  exact mk_of I hm r h (I.hok.gone hm.new)
end
/-! ### defs that may raise -/
structure CaX (P : Program) (w : World) (K : PySem.W.Frag) (mg : Str → Option Value) (base : Heap) (k : Nat) (x : Str) (sp : Sp) : Prop where
  ex : ∃ (f : Addr) (fd : FuncData) (ps : List Str), FnOk P w K mg base (L2.CX P w) k f fd ps sp ∧ mg x = some (.ref f) ∧ PySem.W.keepIn K (.ref f) = true ∧ Binds K fd ps []
structure CfX (P : Program) (w : World) (K : PySem.W.Frag) (mg : Str → Option Value) (base : Heap) (k : Nat) (x : Str) (ps : List Str) (sp : Sp) : Prop where
  ex : ∃ (fd : FuncData) (oc : Value) (od : Option Addr) (osl : Array (Option Value)), K.lookup (He.ga K x) = some ⟨oc, od, .func fd, osl⟩ ∧ FnOk P w K mg base (L2.CX P w) k (He.ga K x) fd ps sp ∧ PySem.W.keepIn K (.ref (He.ga K x)) = true ∧ Binds K fd ps []
  g : mg x = some (.ref (He.ga K x))
section
variable {P : Program} {w : World} {K : PySem.W.Frag} {mg : Str → Option Value} {base : Heap} {x m q : Str} {st : Stmt} {N ps : List Str} {k : Nat} {sp : Sp} {C f : Addr}
abbrev BodyX (P : Program) (w : World) (K : PySem.W.Frag) (mg : Str → Option Value) (base : Heap) (q : Str) (st : Stmt) (N : List Str) (k : Nat) (f : Addr) (sp : Sp) : Prop := ∀ (cdv : Value) (A : Around) (outer : List Env) (s : Shared) (H : Hp) (vs : List V) (Q : VK) (E : XK), Room k (A.deeper (envOfC q (defScope st) s.heap.objs.size f cdv)) → sp vs H Q E →
      ∃ t, PSs (cxOf (L2.CX P w) P w K mg base N q (defScope st) f cdv A outer s H E) (defBody st) t ∧ t { nx := fun _ H' => Q .non H', rt := Q } (start N vs) H
theorem ca_ofX (F : ∃ fd, FunD K x x (defArgs st) (defBody st) (defScope st) [] [] (He.fAd K (x, none)) fd) (g : mg x = some (.ref (He.ga K x))) (S : FnScope N ps (defScope st)) (hb : BindsH x x st ps) (len : ∀ vs H Q E, sp vs H Q E → vs.length = ps.length)
    (hbody : BodyX P w K mg base x st N k (He.fAd K (x, none)) sp) : CaX P w K mg base (k + 1) x sp := by
  obtain ⟨fd, F⟩ := F
  exact ⟨_, fd, ps, F.ok S len hbody, g, F.kp, F.bindsN hb⟩
theorem cf_ofX (F : ∃ fd, FunD K x x (defArgs st) (defBody st) (defScope st) [] [] (He.fAd K (x, none)) fd) (g : mg x = some (.ref (He.ga K x))) (S : FnScope N ps (defScope st)) (hb : BindsH x x st ps) (len : ∀ vs H Q E, sp vs H Q E → vs.length = ps.length)
    (hbody : BodyX P w K mg base x st N k (He.fAd K (x, none)) sp) : CfX P w K mg base (k + 1) x ps sp := by
  obtain ⟨fd, F⟩ := F
  obtain ⟨oc, od, dV, kV, doc, pm, an, cdv, ct, osl, e, lk, _⟩ := F.ex
  exact ⟨⟨fd, oc, od, osl, lk, F.ok S len hbody, F.kp, F.bindsN hb⟩, g⟩
theorem CfX.mono {j : Nat} (c : CfX P w K mg base j x ps sp) (h : j ≤ k) : CfX P w K mg base k x ps sp := by
  obtain ⟨fd, oc, od, osl, lk, F, r⟩ := c.ex
  exact ⟨⟨fd, oc, od, osl, lk, F.mono h, r⟩, c.g⟩
/-- who raises nothing may stand among those who may -/
theorem fn_toX {fd : FuncData} (F : FnOk P w K mg base CX0 k f fd ps sp) : FnOk P w K mg base (L2.CX P w) k f fd ps sp :=
  ⟨F.len, fun A outer s H args us vs Q E hr he hb hv h => codeAny_mono (F.run A outer s H args us vs Q E hr he hb hv h) fun r s' hq => by
    cases r with
    | error e => exact hq.elim
    | ok fl => cases fl <;> exact hq⟩
theorem Cf.toX (c : Cf P w K mg base k x ps sp) : CfX P w K mg base k x ps sp := by
  obtain ⟨fd, oc, od, osl, lk, F, r⟩ := c.ex
  exact ⟨⟨fd, oc, od, osl, lk, fn_toX F, r⟩, c.g⟩
end
section
variable {X : Cx} {k j : Nat} {x : Str} {sp : Sp} {p pos : Pos} {e : Expr} {es : List Expr} {t : TA}
theorem pe_caX {W : WX} (c : CaX X.prog X.w X.K X.mg X.base k x sp) (hr : Room j X.A) (tk : Takes X W) (ha : PA X (e :: es) t) (hk : k ≤ j := by decide) (hg : Gl X x := by rfl)
    (hdb : (x == ("__debug__" : Str)) = false := by decide) (he : starEach (e :: es) X.env = (false, eval e X.env) :: starEach es X.env := by rfl) (hpl : (backTo pos (starEach es X.env)).any (·.1) = false := by rfl) :
    PE X (.Call (.Name x p) (e :: es) [] pos) (tCallS sp (WE W) t) := by
  obtain ⟨f, fd, ps, F, hm, kp, b⟩ := c.ex
  exact pe_callS F (hr.mono hk) hg hm kp b (fun σ => passAt tk σ) ha hdb he hpl
/-- of several defs that the slot may hold, such as may raise -/
structure HeldX (P : Program) (w : World) (K : PySem.W.Frag) (mg : Str → Option Value) (base : Heap) (k : Nat) (f : Addr) (sp : Sp) : Prop where
  ex : ∃ (fd : FuncData) (ps : List Str), FnOk P w K mg base (L2.CX P w) k f fd ps sp ∧ PySem.W.keepIn K (.ref f) = true ∧ Binds K fd ps []
def tCallAX (i : Nat) (S : Addr → Option Sp) (E : XK) (t : TA) : TE := fun σ H Q => ∃ f sp, σ[i]? = some (some (.ref f)) ∧ S f = some sp ∧ t σ H fun vs H1 => sp vs H1 Q E
theorem pe_callAX {i : Nat} {S : Addr → Option Sp} {E : XK} (A : ∀ f sp, S f = some sp → HeldX X.prog X.w X.K X.mg X.base k f sp) (hr : Room k X.A) (tk : Takes X (fun cls d _ H => E cls d H)) (hN : X.N[i]? = some x) (hv : Vis X.env.scope x) (ha : PA X (e :: es) t)
    (hdb : (x == ("__debug__" : Str)) = false := by decide) (hcd : (x == ("__classdict__" : Str)) = false := by decide)
    (he : starEach (e :: es) X.env = (false, eval e X.env) :: starEach es X.env := by rfl) (hpl : (backTo pos (starEach es X.env)).any (·.1) = false := by rfl) : PE X (.Call (.Name x p) (e :: es) [] pos) (tCallAX i S E t) := by
  refine ⟨fun pins s σ H Q I h => ?_⟩
  obtain ⟨f, sp, hs, hS, ht⟩ := h
  obtain ⟨fd, ps, F, hk, hb⟩ := (A f sp hS).ex
  refine (pe_callL (i := i) (f := f) (sp := sp) (dvs := []) (E := E) F hr hN hv hk hb .nil (fun pins σ H s e s' I c => passAt tk σ pins H s e s' I c) ha hdb hcd he hpl).run pins s σ H Q I ⟨hs, ?_⟩
  have e0 : (fun (vs : List V) (H1 : Hp) => sp (vs ++ []) H1 Q E) = fun vs H1 => sp vs H1 Q E := by
    funext vs H1
    rw [List.append_nil]
  show t σ H (fun vs H1 => sp (vs ++ []) H1 Q E)
  rw [e0]
  exact ht
end

end M

set_option Elab.async false
set_option linter.all false
set_option maxRecDepth 100000
set_option maxHeartbeats 2000000
namespace M
open PySem PySem.Spec PyProof.Rows L2

/-! ### try with clauses, each with a name or without -/
/-- an exception has come down to the clauses: it is at a; u is the state without it, s the state now -/
structure Came (X : Cx) (pins : List (Addr × Obj)) (G : Heap) (u s : Shared) (a : Addr) (σ : L2.St) (H : Hp) (cls : Value) (d : Option Addr) : Prop where
  inv : Inv X pins σ H u
  out : ∀ b o, u.heap.get? b = some o → b ∉ frs X.stack → G.get? b = some o
  up : u.heap.UpToSlots s.heap
  fly : HandSPX.FlyingZ G (X.env :: X.outer) a (Zc cls d) s.heap
  no : H a = none
  os : s.os = u.os
  bare : AllBare s.gens
section
variable {X : Cx} {pins : List (Addr × Obj)} {G : Heap} {u s : Shared} {a : Addr} {σ : L2.St} {H : Hp} {cls : Value} {d : Option Addr}
theorem Came.now (c : Came X pins G u s a σ H cls d) : Inv X pins σ H s := c.inv.landed c.out c.fly.1 c.up c.os c.bare
theorem Came.spot (c : Came X pins G u s a σ H cls d) (hf : X.env.frame = some X.env.locals) : ∃ oe, s.heap.get? a = some oe ∧ Zc cls d oe ∧ (∃ vs, oe.data = .fields vs) ∧ a ≠ X.env.locals ∧ a ∉ X.fs := by
  obtain ⟨oe, vs, e1, e2, e3⟩ := c.fly.there
  have away : ∀ env ∈ X.env :: X.outer, env.frame ≠ some a := by
    intro env hm z
    obtain ⟨_, o2, q1, q2⟩ := c.fly.2.2.1.mem (List.mem_filterMap.mpr ⟨env, hm, z⟩ : a ∈ frs (X.env :: X.outer))
    cases e1.symm.trans q1
    exact q2 _ e3
  refine ⟨oe, e1, e2, ⟨vs, e3⟩, ?_, ?_⟩
  · intro z
    exact away X.env List.mem_cons_self (hf.trans (congrArg some z.symm))
  · intro hm
    obtain ⟨env, h1, h2⟩ := List.mem_filterMap.mp hm
    exact away env (List.mem_cons_of_mem _ h1) h2
theorem Came.on (c : Came X pins G u s a σ H cls d) {h : Heap} (fl : HandSPX.FlyingZ G (X.env :: X.outer) a (Zc cls d) h) (up : s.heap.UpToSlots h) : Came X pins G u { s with heap := h } a σ H cls d :=
  ⟨c.inv, c.out, c.up.trans up, fl, c.no, c.os, c.bare⟩
end
/-- the clauses keep their wish -/
def Hands (X : Cx) (hds : List ExceptHandler) (wish : Ends → WX) : Prop := ∀ (pins : List (Addr × Obj)) (G : Heap) (u s : Shared) (a : Addr) (σ : L2.St) (H : Hp) (cls : Value) (d : Option Addr) (D : Ends), Came X pins G u s a σ H cls d → wish D cls d σ H →
  wpAny (model X.prog X.w) X.A (handleBy (.ref a) X.env hds) (SP X pins D) X.xe s
/-- a clause without a name, then the others -/
def wOne (K : PySem.W.Frag) (c : Value) (ts : Addr → Value → Option Addr → TS) (wish : Ends → WX) : Ends → WX := fun D cls d σ H =>
  ∃ b, PySem.W.exmOne K cls c = some b ∧ (b = true → ∀ a, H a = none → ts a cls d D σ H) ∧ (b = false → wish D cls d σ H)
/-- the ends of a suite whose clause keeps the exception at the slot i -/
def lets (i : Nat) (D : Ends) : Ends := ⟨fun σ H => D.nx (σ.set i none) H, D.rt, fun σ H => D.bk (σ.set i none) H, fun σ H => D.ct (σ.set i none) H⟩
/-- a clause with a name, its slot i, then the others -/
def wNmd (K : PySem.W.Frag) (c : Value) (i : Nat) (ts : Addr → Value → Option Addr → TS) (wish : Ends → WX) : Ends → WX := fun D cls d σ H =>
  ∃ b, PySem.W.exmOne K cls c = some b ∧ (b = true → ∀ a, H a = none → ts a cls d (lets i D) (σ.set i (some (.ref a))) H) ∧ (b = false → wish D cls d σ H)
section
variable {X : Cx} {x n : Str} {c : Value} {i : Nat} {b0 : Stmt} {bs body orelse : List Stmt} {hd : ExceptHandler} {hds : List ExceptHandler} {wish : Ends → WX} {ts : Addr → Value → Option Addr → TS} {np pos hpos : Pos} {Wout : WX} {tb : WX → TS} {te : TS}
theorem hands_nil (hs : X.stack = X.env :: X.outer) (hf : X.env.frame = some X.env.locals) (tk : Takes X Wout) : Hands X [] (fun _ => Wout) := by
  intro pins G u s a σ H cls d D c h
  apply wpAny_handleBy_nil
  obtain ⟨_, _, _, oe, vs, T, oT, tr, e1, e2, e3, e4, _⟩ := id c.fly
  unfold PySem.passOn
  apply wpAny_bind
  refine wpAny_field e1 e3 e4 ?_
  have ne : ¬ ((Value.ref T == Value.none) = true) := by simp
  have last : wpAny (model X.prog X.w) X.A (setFlight (.ref a) X.env.frame) (fun _ z => wpAny (model X.prog X.w) X.A (throw (.ref a) : Sem Flow) (SP X pins D) X.xe z) X.xe s := by
    rw [hf]
    apply HandSPX.setFlight_upZ c.fly
    intro h4 held up
    apply wpAny_throw
    apply tk
    refine ⟨a, G, u, pins, σ, H, cls, d, rfl, c.inv, c.out, c.up.trans up, Or.inr (Or.inr ?_), c.no, c.os, c.bare, h⟩
    rw [hs]
    exact held
  simp only [if_neg ne]
  first
    | exact wpAny_bind (wpAny_pure (wpAny_bind last))
    | exact wpAny_bind last
theorem came_test {pins : List (Addr × Obj)} {G : Heap} {u s : Shared} {a : Addr} {σ : L2.St} {H : Hp} {cls : Value} {d : Option Addr} {b : Bool} (hc : Names X x c) (hf : X.env.frame = some X.env.locals) (k : Came X pins G u s a σ H cls d) (hb : PySem.W.exmOne X.K cls c = some b)
    {E Z : Value → Shared → Prop} {Q : Bool → Shared → Prop} (q : Q b s) : wpAny (model X.prog X.w) (X.A.mark (some (.ref a))) (eval (.Name x np) X.env) (fun v s1 => wpAny (model X.prog X.w) (X.A.mark (some (.ref a))) (excMatches (.ref a) v) Q E s1) Z s := by
  obtain ⟨oe, e1, e2, ⟨vs, e3⟩, nL, nF⟩ := k.spot hf
  have J := k.now
  have S := J.suite e1 e3 k.no nL nF
  have LT : PySem.W.Looks (model X.prog X.w) s.heap (typeOf (.ref a)) cls := by
    intro A1 Q1 E1 s1 keep q1
    refine wpAny_typeOf_ref (keep _ _ e1) ?_
    rw [e2.1]
    exact q1
  have LM := PySem.W.exm_one (M := model X.prog X.w) J.kIn LT hb
  have q2 := LM.here (A := X.A.mark (some (.ref a))) (E := E) q
  obtain ⟨h1, h2, h3⟩ := hc
  rcases h3 with h3 | ⟨h3, h4, h5⟩
  · exact ld_glob (X := X.suite a ((a, oe) :: (X.pn ++ pins))) S h1 h3 q2 h2
  · exact ld_blt (X := X.suite a ((a, oe) :: (X.pn ++ pins))) S h1 h3 h4 q2 h5 h2
theorem hands_one (hc : Names X x c) (hf : X.env.frame = some X.env.locals)
    (su : ∀ (a : Addr) (oe : Obj) (cls : Value) (d : Option Addr) (pn : List (Addr × Obj)), Zc cls d oe → (∃ vs, oe.data = .fields vs) → PSs (X.suite a ((a, oe) :: pn)) (b0 :: bs) (ts a cls d)) (r : Hands X hds wish) :
    Hands X (.ExceptHandler (some (.Name x np)) none (b0 :: bs) hpos :: hds) (wOne X.K c ts wish) := by
  intro pins G u s a σ H cls d D k h
  obtain ⟨b, h1, h2, h3⟩ := h
  refine wpAny_handleBy_cons (codeAny_handlers_test ?_) (fun q => by cases q)
  refine came_test (d := d) hc hf k h1 ?_
  cases b
  · exact r pins G u s a σ H cls d D k (h3 rfl)
  · apply codeAny_handlers_suite
    apply HandSPX.lands_againZ k.fly
    intro h4 fl4 up4
    have k4 := k.on fl4 up4
    obtain ⟨oe, e1, e2, ⟨vs, e3⟩, nL, nF⟩ := k4.spot hf
    have S := k4.now.suite e1 e3 k4.no nL nF
    refine wpAny_mono ((su a oe cls d (X.pn ++ pins) e2 ⟨vs, e3⟩).run [] _ σ H D S (h2 rfl a k.no)) ?_ (fun _ _ z => z.elim)
    intro f s6 z
    have ok := k.inv.ok
    cases f with
    | ret v =>
      obtain ⟨v6, σ6, H6, S6, z1, z2⟩ := z
      exact ⟨v6, σ6, H6, S6.unsuite ok, z1, z2⟩
    | next => exact match z with | ⟨σ6, H6, S6, z1⟩ => ⟨σ6, H6, S6.unsuite ok, z1⟩
    | brk => exact match z with | ⟨σ6, H6, S6, z1⟩ => ⟨σ6, H6, S6.unsuite ok, z1⟩
    | cont => exact match z with | ⟨σ6, H6, S6, z1⟩ => ⟨σ6, H6, S6.unsuite ok, z1⟩
theorem hands_as (hc : Names X x c) (hf : X.env.frame = some X.env.locals) (hN : X.N.Nodup) (hi : X.N[i]? = some n) (hl : X.env.kindOf n = some .local)
    (su : ∀ (a : Addr) (oe : Obj) (cls : Value) (d : Option Addr) (pn : List (Addr × Obj)), Zc cls d oe → (∃ vs, oe.data = .fields vs) → PSs (X.suite a ((a, oe) :: pn)) (b0 :: bs) (ts a cls d)) (r : Hands X hds wish) :
    Hands X (.ExceptHandler (some (.Name x np)) (some n) (b0 :: bs) hpos :: hds) (wNmd X.K c i ts wish) := by
  intro pins G u s a σ H cls d D k h
  obtain ⟨b, h1, h2, h3⟩ := h
  refine wpAny_handleBy_cons (codeAny_handlers_test ?_) (fun q => by cases q)
  refine came_test (d := d) hc hf k h1 ?_
  cases b
  · exact r pins G u s a σ H cls d D k (h3 rfl)
  · apply codeAny_handlers_suite_as
    apply HandSPX.lands_againZ k.fly
    intro h4 fl4 up4
    have k4 := k.on fl4 up4
    obtain ⟨oe, e1, e2, ⟨vs, e3⟩, nL, nF⟩ := k4.spot hf
    have S := k4.now.suite e1 e3 k4.no nL nF
    refine store_ok (X := X.suite a ((a, oe) :: (X.pn ++ pins))) (v := .ref a) S hN hi (.inl hl) rfl ?_ (.inr hl)
    intro s5 S5
    refine wpAny_mono ((su a oe cls d (X.pn ++ pins) e2 ⟨vs, e3⟩).run [] s5 _ H (lets i D) S5 (h2 rfl a k.no)) ?_ (fun _ _ z => z.elim)
    intro f s6 z
    have ok := k.inv.ok
    cases f with
    | ret v =>
      obtain ⟨v6, σ6, H6, S6, z1, z2⟩ := z
      exact gone_ok (S6.unsuite ok) hN hi hl fun s7 J7 => ⟨v6, _, H6, J7, z1, z2⟩
    | next => exact match z with | ⟨σ6, H6, S6, z1⟩ => gone_ok (S6.unsuite ok) hN hi hl fun s7 J7 => ⟨_, H6, J7, z1⟩
    | brk => exact match z with | ⟨σ6, H6, S6, z1⟩ => gone_ok (S6.unsuite ok) hN hi hl fun s7 J7 => ⟨_, H6, J7, z1⟩
    | cont => exact match z with | ⟨σ6, H6, S6, z1⟩ => gone_ok (S6.unsuite ok) hN hi hl fun s7 J7 => ⟨_, H6, J7, z1⟩
/-- try: body, then clauses that keep their wish, and an else -/
theorem ps_tryH (hh : Hands X (hd :: hds) wish) (hs : X.stack = X.env :: X.outer) (hf : X.env.frame = some X.env.locals)
    (hb : ∀ (W : WX) (pn : List (Addr × Obj)) (xe : Value → Shared → Prop), Takes (X.tr pn xe) W → PassesOwn (model X.prog X.w) X.A X.env xe → PSs (X.tr pn xe) body (tb W)) (ho : PSs X orelse te) :
    PS X (.Try body (hd :: hds) orelse [] pos) (fun D σ H => tb (wish D) ⟨te D, D.rt, D.bk, D.ct⟩ σ H) := by
  refine ⟨?_⟩
  intro pins s σ H D I h
  have hfr : X.A.frames = some (X.env :: X.outer) := I.ok.frames.trans (congrArg some hs)
  let xe : Value → Shared → Prop := fun e z => wpAny (model X.prog X.w) X.A (noteFrame e X.env) (fun _ z2 => wpAny (model X.prog X.w) X.A (setFlight e none) (fun _ z3 => wpAny (model X.prog X.w) X.A (handleBy e X.env (hd :: hds)) (SP X pins D) X.xe z3) X.xe z2) X.xe z
  have catches : Takes (X.tr (X.pn ++ pins) xe) (wish D) := by
    intro e z w
    obtain ⟨a, G, z0, pins1, σ1, H1, cls, d, rfl, J, w1, w2, w3, w4, w5, w6, w7⟩ := w
    have w3 : Sky G X.stack a (Zc cls d) X.env.locals z.heap := w3
    rw [hs] at w3
    refine Sky.land (M := model X.prog X.w) (A := X.A) (E₁ := X.xe) Zc.steady hfr hf w3 ?_
    intro h3 fl up
    exact hh pins G z0 { z with heap := h3 } a σ1 H1 cls d D ⟨J.ofTry I.ok, w1, w2.trans up, fl, w4, w5, w6⟩ w7
  apply wpAny_Try_except
  refine wpAny_mono ((hb (wish D) (X.pn ++ pins) xe catches PassesOwn.looking).run [] s σ H _ (I.toTry _) h) ?_ (fun _ _ z => z)
  intro f s1 z
  cases f with
  | ret v => exact match z with | ⟨v1, σ1, H1, J, z1, z2⟩ => ⟨v1, σ1, H1, J.ofTry I.ok, z1, z2⟩
  | brk => exact match z with | ⟨σ1, H1, J, z1⟩ => ⟨σ1, H1, J.ofTry I.ok, z1⟩
  | cont => exact match z with | ⟨σ1, H1, J, z1⟩ => ⟨σ1, H1, J.ofTry I.ok, z1⟩
  | next =>
    obtain ⟨σ1, H1, J, z1⟩ := z
    exact ho.run pins s1 σ1 H1 D (J.ofTry I.ok) z1
end

end M

set_option Elab.async false
set_option linter.all false
set_option maxRecDepth 100000
set_option maxHeartbeats 2000000
namespace M
open PySem PySem.Spec PyProof.Rows L2

/-! ### errors with a field -/
theorem oexS_ok {K : PySem.W.Frag} {C : Addr} (h : oexS K C = true) : ∃ nm q N bs bm sn sub ab col dd k0 k1 k2 k3 k5, K.lookup C = some (excClassObj nm q C N bs bm true sn sub ab col dd k0 k1 k2 k3 k5 "ValueError.__new__") ∧ PySem.HandSPX.refsVE bm = true := by
  unfold oexS at h
  split at h
  · rename_i t dd cd sl hl
    split at h
    · rename_i D bm k0 k1 k2 k3 n k5 hm hs
      obtain ⟨h1, h⟩ := He.ba h
      obtain ⟨h2, h⟩ := He.ba h
      obtain ⟨h3, h⟩ := He.ba h
      obtain ⟨h4, h⟩ := He.ba h
      obtain ⟨h5, h6⟩ := He.ba h
      cases of_decide_eq_true h1
      cases of_decide_eq_true h2
      cases of_decide_eq_true h3
      obtain ⟨nm, bs, mr, ns, qn, hd, sn, sub, ab, col, de⟩ := cd
      dsimp only at hm h4 h5
      subst hm
      cases h4
      have h5 : de = false := by cases de <;> first | rfl | cases h5
      subst h5
      obtain ⟨sl⟩ := sl
      have hs : sl = [k0, k1, k2, k3, some (.builtin "ValueError.__new__"), k5] := hs
      subst hs
      exact ⟨nm, qn, ns, bs, bm, sn, sub, ab, col, dd, k0, k1, k2, k3, k5, hl, h6⟩
    · cases h
  · cases h
/-- the class x is an error class with an __init__ of its own, which keeps the field f -/
structure Xc (K : PySem.W.Frag) (x f : Str) : Prop where
  oex : OexC K (He.ga K x)
  xf : XfC K (He.ga K x)
  no : PySem.W.findIn K (.ref (He.ga K x)) f = some none
  ini : PySem.W.findIn K (.ref (He.ga K x)) "__init__" = some (some (.ref (He.ma K (He.ga K x) "__init__")))
  fn : PySem.W.typeIn K (.ref (He.ma K (He.ga K x) "__init__")) = some (.type "function")
theorem oexB_ok {K : PySem.W.Frag} {x f : Str} (h : oexB K x f = true) : Xc K x f := by
  obtain ⟨h1, h⟩ := He.ba h
  obtain ⟨h2, h⟩ := He.ba h
  obtain ⟨h3, h⟩ := He.ba h
  obtain ⟨h4, h⟩ := He.ba h
  obtain ⟨h5, h⟩ := He.ba h
  obtain ⟨h6, h⟩ := He.ba h
  obtain ⟨h7, h⟩ := He.ba h
  obtain ⟨h8, h9⟩ := He.ba h
  exact ⟨⟨oexS_ok h1, He.eqO_ok h2, of_decide_eq_true h3, of_decide_eq_true h4, h5⟩, xfB_ok h6, He.eqO_ok h7, He.eqO_ok h8, of_decide_eq_true h9⟩
section
variable {X : Cx} {x f : Str} {e : Expr} {es : List Expr} {ta : TA} {p1 p2 p pos : Pos}
/-- PastError.__init__(self, ..) -/
theorem pe_pinit {pl : Sem Bool} (hm : X.mg x = some (.ref (He.ga X.K x))) (pn : pinB X.K x = true) (ha : PA X (e :: es) ta) (hg : Gl X x := by rfl) (hdb : (x == ("__debug__" : Str)) = false := by decide)
    (hc : eval (.Call (.Attribute (.Name x p1) "__init__" p2) (e :: es) [] pos) X.env = (do
      let ov ← eval (.Name x p1) X.env
      standAt p2.atName
      let (f, first) ← holding [ov] (getMethod ov "__init__" pl)
      callWith pos f first (backTo pos (starEach (e :: es) X.env)) (backToKw pos (keywordEach [] X.env))) := by rfl)
    (he : starEach (e :: es) X.env = (false, eval e X.env) :: starEach es X.env := by rfl) (hpl : (backTo pos (starEach es X.env)).any (·.1) = false := by rfl) :
    PE X (.Call (.Attribute (.Name x p1) "__init__" p2) (e :: es) [] pos) (tVeI X.K ta) := by
  obtain ⟨h1, pn⟩ := He.ba pn
  obtain ⟨h2, h3⟩ := He.ba pn
  have h3 : PySem.W.findCls X.K (.ref (He.ga X.K x)) (.type "type") "__init__" = some (.val (.builtin "ValueError.__init__")) := by
    split at h3
    · rename_i i hi
      cases of_decide_eq_true h3
      exact hi
    · cases h3
  refine ⟨?_⟩
  intro pins s σ H Q I h
  refine PySem.W.methodCall_KW ?_ hc
  refine ld_glob I hg hm ?_ hdb
  refine PySem.W.method_cls I.kIn (of_decide_eq_true h2) ?_
  refine PySem.W.cls_value I.kIn h1 h3 (by decide +kernel) ?_
  refine PyProof.Rows.callWith_method1 (id := "ValueError.__init__") (thn (ha.run pos pins _ σ H _ (I.tok _) h) ?_) he hpl
  rintro us s1 ⟨vs, H1, I1, r1, a, C, ws, rfl, hl, T, ea, q⟩
  obtain ⟨u0, ur, rfl, ra, rw'⟩ : ∃ u0 ur, us = u0 :: ur ∧ RelV (.ref a) u0 ∧ Vals ws ur := by
    cases r1 with | cons z1 z2 => exact ⟨_, _, rfl, z1, z2⟩
  cases (ra : u0 = Value.ref a)
  refine oinit_ok T I1 ea ?_ fun s2 J => ⟨.non, H1, J, rfl, q⟩
  rw [sizeLine_eq, ← Paired.length rw']
  omega
end
/-- what such an __init__ does -/
def spXi (K : PySem.W.Frag) (x f : Str) : Sp := fun vs H Q _ => ∃ (a : Addr) (v : V), vs = [.ref a, v] ∧ H a = some (exo a (He.ga K x) none) ∧ ∀ dx, H dx = none → dx ≠ a → Q .non (upd (upd H dx (exd dx [(f, v)])) a (exo a (He.ga K x) (some dx)))
/-- the error class x, its __init__ known -/
structure Xi (P : Program) (w : World) (K : PySem.W.Frag) (mg : Str → Option Value) (base : Heap) (k : Nat) (x f : Str) : Prop where
  c : Xc K x f
  g : mg x = some (.ref (He.ga K x))
  ex : ∃ (fd : FuncData) (ps : List Str), FnOk P w K mg base CX0 k (He.ma K (He.ga K x) "__init__") fd ps (spXi K x f) ∧ Binds K fd ps []
section
variable {P : Program} {w : World} {K : PySem.W.Frag} {mg : Str → Option Value} {base : Heap} {x f q : Str} {st : Stmt} {N ps : List Str} {k : Nat}
theorem xi_of (F : ∃ fd, FunD K "__init__" q (defArgs st) (defBody st) (defScope st) [] [] (He.fAd K (x, some "__init__")) fd) (g : mg x = some (.ref (He.ga K x))) (o : oexB K x f = true) (S : FnScope N ps (defScope st)) (hb : BindsH "__init__" q st ps) (two : ps.length = 2)
    (hbody : BodyH P w K mg base q st N k (He.fAd K (x, some "__init__")) (spXi K x f)) : Xi P w K mg base (k + 1) x f := by
  obtain ⟨fd, F⟩ := F
  refine ⟨oexB_ok o, g, fd, ps, fn_d F S ?_ hbody, F.bindsN hb⟩
  rintro vs H Q E ⟨a, v, rfl, _⟩
  exact two.symm
end
/-- what such an __init__ keeps, where an error was just laid -/
theorem xi_made {K : PySem.W.Frag} {x f : Str} {H : Hp} {a : Addr} {v : V} {Q : VK} {E : XK} (g : ∀ d, H d = none → d ≠ a → Q .non (upd (upd H d (exd d [(f, v)])) a (exo a (He.ga K x) (some d)))) : spXi K x f [.ref a, v] (upd H a (exo a (He.ga K x) none)) Q E := by
  refine ⟨a, v, rfl, upd_same, ?_⟩
  intro d hd hne
  have hd2 : H d = none := by rwa [upd_ne hne] at hd
  have e : upd (upd (upd H a (exo a (He.ga K x) none)) d (exd d [(f, v)])) a (exo a (He.ga K x) (some d)) = upd (upd H d (exd d [(f, v)])) a (exo a (He.ga K x) (some d)) := by
    funext b
    by_cases hb : b = a
    · rw [hb, upd_same, upd_same]
    · rw [upd_ne hb, upd_ne hb]
      by_cases hc : b = d
      · rw [hc, upd_same, upd_same]
      · rw [upd_ne hc, upd_ne hc, upd_ne hb]
  rw [e]
  exact g d hd2 hne
/-! ### such an error, raised -/
section
variable {X : Cx} {k j : Nat} {x f : Str} {e : Expr} {te : TE} {p pos : Pos}
/-- raise x(e) -/
theorem pmk_x (c : Xi X.prog X.w X.K X.mg X.base k x f) (hr : Room j X.A) (he : PE X e te) (hs : starEach [e] X.env = (false, eval e X.env) :: starEach [] X.env := by rfl) (hpl : (backTo pos (starEach [] X.env)).any (·.1) = false := by rfl) (hk : k + 1 ≤ j := by decide) (hg : Gl X x := by rfl)
    (hdb : (x == ("__debug__" : Str)) = false := by decide) : PMk X (.Call (.Name x p) [e] [] pos) (tMkO (He.ga X.K x) (spXi X.K x f) [] (tCons te tNil)) := by
  obtain ⟨fd, ps, F, b⟩ := c.ex
  exact pmk_oex (CX := CX0) (p := p) (pos := pos) c.c.oex c.c.ini c.c.fn F (hr.mono hk) b .nil L2.pass0 hg c.g (pa_cons he pa_nil hs) hdb hs hpl
/-- raise x() -/
theorem ps_raise0 {W : WX} {rp : Pos} (K : PySem.W.Frag) (hK : X.K = K) {bmB : List Value} {B newId initId : String} (F : ExcBaseFacts B newId initId bmB) (c : PySem.W.excIn X.K (He.ga X.K x) bmB newId = true ∧ PySem.W.keepIn X.K (.ref (He.ga X.K x)) = true ∧ PySem.W.subIn X.K (.ref (He.ga X.K x)) (.type "BaseException") = some true ∧ PySem.W.typeIn X.K (.ref (He.ga X.K x)) = some (.type "type"))
    (g : X.mg x = some (.ref (He.ga X.K x))) (hc : X.calm = true) (tk : Takes X W) (hg : Gl X x := by rfl) (hdb : (x == ("__debug__" : Str)) = false := by decide) : PS X (.Raise (some (.Call (.Name x p) [] [] pos)) none rp) (fun _ σ H => W (.ref (He.ga K x)) none σ H) := by
  subst hK
  exact ps_raise hc tk (pmk_own0 F c.1 g c.2.1 (raises_own c.2.2.1 c.2.2.2) hg hdb)
/-- .. what is to be shown then -/
theorem xi_raised {K : PySem.W.Frag} {x f : Str} {H : Hp} {v : V} {Q : XK} (g : ∀ d, H d = none → Q (.ref (He.ga K x)) (some d) (upd H d (.xd [(f, v)]))) : [v].length ≤ 1000 ∧ ∀ a, H a = none → spXi K x f (.ref a :: ([v] ++ [])) (upd H a (exo a (He.ga K x) none))
    (fun u H2 => u = .non ∧ ∃ (d : Addr) (fs : List (Str × V)), H2 a = some (exo a (He.ga K x) (some d)) ∧ H2 d = some (exd d fs) ∧ H d = none ∧ Q (.ref (He.ga K x)) (some d) (upd (del H2 a) d (.xd fs))) (fun _ _ _ => False) := by
  refine ⟨by show 1 ≤ 1000; decide, ?_⟩
  intro a ha
  refine xi_made ?_
  intro d hd hne
  refine ⟨rfl, d, [(f, v)], upd_same, ?_, hd, ?_⟩
  · rw [upd_ne hne, upd_same]
  · have e : upd (del (upd (upd H d (exd d [(f, v)])) a (exo a (He.ga K x) (some d))) a) d (.xd [(f, v)]) = upd H d (.xd [(f, v)]) := by
      funext b
      by_cases hb : b = d
      · rw [hb, upd_same, upd_same]
      · rw [upd_ne hb, upd_ne hb]
        by_cases hc : b = a
        · rw [hc, del_same, ha]
        · rw [del_ne hc, upd_ne hc, upd_ne hb]
    rw [e]
    exact g d hd
/-- a reading may be weakened behind the expression -/
def tUp (te : TE) : TE := fun σ H Q => ∃ R : VK, te σ H R ∧ ∀ v H1, R v H1 → Q v H1
theorem pe_up (he : PE X e te) : PE X e (tUp te) := by
  refine ⟨?_⟩
  rintro pins s σ H Q I ⟨R, h, i⟩
  refine wpAny_mono (he.run pins s σ H R I h) ?_ (fun _ _ z => z)
  rintro u s1 ⟨v, H1, J, r, z⟩
  exact ⟨v, H1, J, r, i v H1 z⟩
theorem ps_raiseX {W : WX} {rp : Pos} (K : PySem.W.Frag) (hK : X.K = K) (c : Xi X.prog X.w X.K X.mg X.base k x f) (hc : X.calm = true) (tk : Takes X W) (hr : Room j X.A) (he : PE X e te) (hs : starEach [e] X.env = (false, eval e X.env) :: starEach [] X.env := by rfl) (hpl : (backTo pos (starEach [] X.env)).any (·.1) = false := by rfl) (hk : k + 1 ≤ j := by decide)
    (hg : Gl X x := by rfl) (hdb : (x == ("__debug__" : Str)) = false := by decide) : PS X (.Raise (some (.Call (.Name x p) [e] [] pos)) none rp) (fun _ σ H => te σ H fun v H1 => ∀ d, H1 d = none → W (.ref (He.ga K x)) (some d) σ (upd H1 d (.xd [(f, v)]))) := by
  subst hK
  have r := ps_raise (pos := rp) hc tk (pmk_x (p := p) (pos := pos) c hr (pe_up he) hs hpl hk hg hdb)
  refine ⟨?_⟩
  intro pins s σ H D I h
  refine r.run pins s σ H D I ⟨_, h, ?_⟩
  intro v H1 z
  exact xi_raised (Q := fun cls d H' => W cls d σ H') z
/-- x(e), as a value -/
theorem pe_x (c : Xi X.prog X.w X.K X.mg X.base k x f) (hr : Room j X.A) (he : PE X e te) (hs : starEach [e] X.env = (false, eval e X.env) :: starEach [] X.env := by rfl) (hpl : (backTo pos (starEach [] X.env)).any (·.1) = false := by rfl) (hk : k + 1 ≤ j := by decide) (hg : Gl X x := by rfl)
    (hdb : (x == ("__debug__" : Str)) = false := by decide) :
    PE X (.Call (.Name x p) [e] [] pos) (fun σ H Q => te σ H fun v H1 => ∀ a d, H1 a = none → H1 d = none → d ≠ a → Q (.ref a) (upd (upd H1 d (exd d [(f, v)])) a (exo a (He.ga X.K x) (some d)))) := by
  obtain ⟨fd, ps, F, bd⟩ := c.ex
  obtain ⟨nm, q, N, bs, bm, sn, sub, ab, col, dd, k0, k1, k2, k3, k5, hC, hbm⟩ := c.c.oex.cls
  refine ⟨?_⟩
  intro pins s σ H Q I h
  refine wpAny_Call_Name_kw (ld_glob I hg c.g ?_ hdb)
  refine PySem.W.callWith_K (h₀ := X.base) I.ok.mod.kin c.c.oex.kC ?_ hs hpl
  rw [hs]
  refine Calls.spliced_cons (thn (he.run pins s σ H _ I h) ?_)
  rintro u s1 ⟨v, H1, I1, r1, q1⟩
  refine Calls.spliced_nil ⟨I1.kIn, ?_⟩
  show wpAny _ _ (call (.ref (He.ga X.K x)) [u]) _ _ _
  obtain ⟨hp, g, dr, tk, os⟩ := s1
  let h2 := (hp.push (PySem.W.kdv_tup [u])).push (PySem.HandSPX.excO (He.ga X.K x) hp.objs.size)
  have le : hp.objs.size ≤ hp.objs.size + 1 := Nat.le_succ _
  have kk : ∀ b o, hp.get? b = some o → h2.get? b = some o := by
    intro b o e
    exact Heap.get?_push_of_some _ (Heap.get?_push_of_some _ e)
  have hget : h2.get? (hp.objs.size + 1) = some (PySem.HandSPX.excO (He.ga X.K x) hp.objs.size) := by
    show ((hp.push (PySem.W.kdv_tup [u])).push (PySem.HandSPX.excO (He.ga X.K x) hp.objs.size)).get? (hp.objs.size + 1) = _
    heap_get
  have I2 : Inv X pins σ (upd H1 (hp.objs.size + 1) (exo (hp.objs.size + 1) (He.ga X.K x) none)) ⟨h2, g, dr, tk, os⟩ := I1.laid (t' := tk) kk le (exo_ok hget)
  have rv : Vals [V.ref (hp.objs.size + 1), v] [Value.ref (hp.objs.size + 1), u] := .cons rfl (.cons r1 .nil)
  have want : spXi X.K x f [V.ref (hp.objs.size + 1), v] (upd H1 (hp.objs.size + 1) (exo (hp.objs.size + 1) (He.ga X.K x) none)) (fun z H2 => z = .non ∧ Q (.ref (hp.objs.size + 1)) H2) (fun _ _ _ => False) :=
    xi_made fun d hd hne => ⟨rfl, q1 _ d (I1.hok.fresh le) hd hne⟩
  have two : [Value.ref (hp.objs.size + 1), u].length = ps.length := by
    rw [← rv.length]
    exact F.len _ _ _ _ want
  have b2 := bd ⟨h2, g, dr, tk, os⟩ [Value.ref (hp.objs.size + 1), u] I2.kIn (by rw [List.append_nil]; exact two)
  rw [List.append_nil] at b2
  refine wpAny_call (PySem.HandSPX.call_own PySem.F.excBase_ValueError (fun Y => PySem.HandSPX.refsVE_contains Y bm hbm) (I1.kIn _ _ hC) (PySem.W.looks_findIn I1.kIn c.c.ini) (fun self => PySem.W.bind_fn I1.kIn self c.c.fn) (by rw [sizeLine_eq]; show 1 ≤ 16777216; decide) ?_)
  refine codeAny_mono (F.run _ X.stack _ _ ⟨[Value.ref (hp.objs.size + 1), u], []⟩ _ _ _ (fun _ _ _ => False) ((hr.mono hk).make (He.ga X.K x) [u] []) (I2.env0.make (He.ga X.K x) [u] []) b2 rv want) ?_
  intro r s3 z
  cases r with
  | error er => exact z.elim
  | ok fl =>
    cases fl with
    | ret y =>
      obtain ⟨v4, H4, J, r4, e4, q4⟩ := I2.after z
      subst e4
      cases (r4 : y = Value.none)
      exact ⟨rfl, .ref (hp.objs.size + 1), H4, J, rfl, q4⟩
    | next => exact z.elim
    | brk => exact z.elim
    | cont => exact z.elim
end

end M

set_option Elab.async false
set_option linter.all false
set_option maxRecDepth 100000
set_option maxHeartbeats 2000000
namespace M
open PySem PySem.Spec PyProof.Rows L2

/-! ### dicts whose keys are nested tuples -/
mutual
/-- the value v is the key k; its tuples are tracked -/
inductive NKV (H : Hp) : V → NestedKey → Prop where
  | non : NKV H .non .none
  | int (i : Int) : NKV H (.int i) (.num i)
  | str (x : Str) : NKV H (.str x) (.text x)
  | tup {b : Addr} {vs : List V} {ks : List NestedKey} (e : H b = some (.tup vs)) (r : NKVs H vs ks) : NKV H (.ref b) (.tup ks)
inductive NKVs (H : Hp) : List V → List NestedKey → Prop where
  | nil : NKVs H [] []
  | cons {v : V} {k : NestedKey} {vs : List V} {ks : List NestedKey} (a : NKV H v k) (r : NKVs H vs ks) : NKVs H (v :: vs) (k :: ks)
end
mutual
theorem nkv_heap {P : Program} {w : World} {H : Hp} {h : Heap} (ok : HOk P w H h) : ∀ {v : V} {k : NestedKey} {u : Value}, NKV H v k → RelV v u → NestedIs h k u
  | _, _, _, .non, r => by cases r; exact .none
  | _, _, _, .int i, r => by obtain ⟨t, rfl⟩ := r; exact .int _ _
  | _, _, _, .str x, r => by obtain ⟨t, rfl⟩ := r; exact .text _ _
  | _, _, _, .tup e r0, r => by
    cases r
    obtain ⟨_, its, rel, o, g1, g2, n, g3⟩ := ok _ _ e
    exact .tup g1 g2 g3 (by simpa using nkvs_heap ok r0 rel)
theorem nkvs_heap {P : Program} {w : World} {H : Hp} {h : Heap} (ok : HOk P w H h) : ∀ {vs : List V} {ks : List NestedKey} {us : List Value}, NKVs H vs ks → Vals vs us → NestedAll h ks us
  | _, _, _, .nil, r => by cases r; exact .nil
  | _, _, _, .cons a r0, r => by
    cases r with
    | cons r1 r2 => exact .cons (nkv_heap ok a r1) (nkvs_heap ok r0 r2)
end
mutual
theorem NKV.keeps {H H' : Hp} (ht : ∀ b ys, H b = some (.tup ys) → H' b = some (.tup ys)) : ∀ {v : V} {k : NestedKey}, NKV H v k → NKV H' v k
  | _, _, .non => .non
  | _, _, .int i => .int i
  | _, _, .str x => .str x
  | _, _, .tup e r => .tup (ht _ _ e) (NKVs.keeps ht r)
theorem NKVs.keeps {H H' : Hp} (ht : ∀ b ys, H b = some (.tup ys) → H' b = some (.tup ys)) : ∀ {vs : List V} {ks : List NestedKey}, NKVs H vs ks → NKVs H' vs ks
  | _, _, .nil => .nil
  | _, _, .cons a r => .cons (NKV.keeps ht a) (NKVs.keeps ht r)
end
/-- a key of the dict: a tuple -/
def NKey (H : Hp) (v : V) (k : NestedKey) : Prop := (∃ b, v = .ref b) ∧ NKV H v k ∧ k.depth ≤ 8
theorem NKey.keeps {H H' : Hp} (ht : ∀ b ys, H b = some (.tup ys) → H' b = some (.tup ys)) {v : V} {k : NestedKey} (h : NKey H v k) : NKey H' v k := ⟨h.1, h.2.1.keeps ht, h.2.2⟩
theorem NKey.same {H H' : Hp} (s : Same H H') {v : V} {k : NestedKey} (h : NKey H v k) : NKey H' v k := h.keeps fun b ys e => s _ _ e
/-- the entries of the object at a -/
def NEnt (P : Program) (w : World) (a : Addr) (zs : List (NestedKey × Addr × Value)) (h : Heap) : Prop := ∃ o es ep, h.get? a = some o ∧ o.ExactDict ∧ o.data = .dict es ep ∧ es.toList = zs.map (entryOfKey (nestedKind P w)) ∧ (zs.map (·.1)).Nodup
abbrev NRel (H : Hp) : List (NestedKey × V) → List (NestedKey × Addr × Value) → Prop := Paired fun p q => p.1 = q.1 ∧ NKey H (.ref q.2.1) p.1 ∧ RelV p.2 q.2.2
/-- at a stands a dict with these keys and values, in the order in which they came -/
def NDat (P : Program) (w : World) (H : Hp) (a : Addr) (kvs : List (NestedKey × V)) : Prop := (a == sysModules) = false ∧ kvs.length ≤ sizeLine ∧ ∃ zs, NRel H kvs zs ∧ H a = some (.ext (NEnt P w a zs))
theorem NRel.keeps {H H' : Hp} {kvs : List (NestedKey × V)} {zs : List (NestedKey × Addr × Value)} (ht : ∀ b ys, H b = some (.tup ys) → H' b = some (.tup ys)) (r : NRel H kvs zs) : NRel H' kvs zs :=
  L2.Paired.mapP r fun _ _ j => ⟨j.1, j.2.1.keeps ht, j.2.2⟩
theorem NDat.same {P : Program} {w : World} {H H' : Hp} (s : Same H H') {a : Addr} {kvs : List (NestedKey × V)} (g : NDat P w H a kvs) : NDat P w H' a kvs := by
  obtain ⟨g1, g2, zs, r, e⟩ := g
  exact ⟨g1, g2, zs, r.keeps fun b ys j => s _ _ j, s _ _ e⟩
theorem NDat.but {P : Program} {w : World} {H H' : Hp} {D : Addr} (hD : Ch H D) (s : But D H H') {a : Addr} (ne : a ≠ D) {kvs : List (NestedKey × V)} (g : NDat P w H a kvs) : NDat P w H' a kvs := by
  obtain ⟨g1, g2, zs, r, e⟩ := g
  exact ⟨g1, g2, zs, r.keeps fun b ys j => s _ _ (fun q => hD.1 _ (q ▸ j)) j, s _ _ ne e⟩
theorem Ch.nd {P : Program} {w : World} {H : Hp} {a : Addr} {kvs : List (NestedKey × V)} (g : NDat P w H a kvs) : Ch H a := by
  obtain ⟨_, _, zs, _, e⟩ := g
  exact ⟨fun _ j => (by rw [e] at j; cases j), fun _ _ j => (by rw [e] at j; cases j)⟩
theorem NDat.some {P : Program} {w : World} {H : Hp} {a : Addr} {kvs : List (NestedKey × V)} (g : NDat P w H a kvs) : ∃ o, H a = .some o := by
  obtain ⟨_, _, zs, _, e⟩ := g
  exact ⟨_, e⟩
section
variable {P : Program} {w : World} {H : Hp} {h : Heap} {a : Addr} {kvs : List (NestedKey × V)} {zs : List (NestedKey × Addr × Value)}
theorem nd_of (ok : HOk P w H h) (r : NRel H kvs zs) (e : H a = some (.ext (NEnt P w a zs))) : h.DictOfH (nestedKind P w) a zs := by
  obtain ⟨⟨o, es, ep, g1, g2, g3, g4, g5⟩, _⟩ := (ok a _ e)
  have all : ∀ {l : List (NestedKey × V)} {m : List (NestedKey × Addr × Value)}, NRel H l m → ∀ x ∈ m, (nestedKind P w).is h x.1 x.2.1 := by
    intro l m q
    induction q with
    | nil => exact fun x hx => nomatch hx
    | cons hq t ih =>
      intro x hx
      rcases List.mem_cons.mp hx with j | j
      · subst j
        rw [← hq.1]
        exact ⟨nkv_heap ok hq.2.1.2.1 rfl, hq.2.1.2.2⟩
      · exact ih x j
  exact ⟨o, es, ep, g1, g2, g3, g4, all r, g5⟩
theorem NRel.val (r : NRel H kvs zs) (k : NestedKey) : RelO (valV kvs k) (valueAt (pairsH zs) k) := by
  induction r with
  | nil => exact True.intro
  | @cons p q ps qs j t ih =>
    obtain ⟨j1, _, j2⟩ := j
    by_cases c : p.1 = k
    · rw [valV_pos c, show valueAt (pairsH (q :: qs)) k = some q.2.2 from by simp [valueAt, pairsH, List.find?_cons, ← j1, c]]
      exact j2
    · rw [valV_neg c, show valueAt (pairsH (q :: qs)) k = valueAt (pairsH qs) k from by simp [valueAt, pairsH, List.find?_cons, ← j1, c]]
      exact ih
theorem NRel.len (r : NRel H kvs zs) : kvs.length = zs.length := Paired.length r
theorem NRel.any (r : NRel H kvs zs) (k : NestedKey) : (atKey zs k).isSome = (valV kvs k).isSome := by
  have z := (r.val k).isSome_eq
  rw [valueAt_pairsH, Option.isSome_map] at z
  exact z.symm
theorem NRel.put (r : NRel H kvs zs) {k : NestedKey} {b : Addr} {y : V} {u : Value} (hb : NKey H (.ref b) k) (ry : RelV y u) : NRel H (putK kvs k y) (storedH zs k b u) := by
  unfold putK storedH
  rw [valV_any, ← r.any k]
  by_cases c : (atKey zs k).isSome = true
  · rw [if_pos c, if_pos c]
    clear c
    induction r with
    | nil => exact .nil
    | @cons p q ps qs j t ih =>
      rw [List.map_cons, List.map_cons]
      refine .cons ?_ ih
      obtain ⟨j1, j2, j3⟩ := j
      unfold putAt
      by_cases d : p.1 = k
      · rw [if_pos d, if_pos (j1.symm.trans d)]; exact ⟨j1, j2, ry⟩
      · rw [if_neg d, if_neg (fun i => d (j1.trans i))]; exact ⟨j1, j2, j3⟩
  · rw [if_neg c, if_neg c]
    exact r.snoc ⟨rfl, hb, ry⟩
end
section
variable {X : Cx} {pins : List (Addr × Obj)} {σ : L2.St} {H : Hp} {s : Shared} {a : Addr} {kvs : List (NestedKey × V)} {k : NestedKey} {y v : V} {u r : Value} {A : Around} {E : Value → Shared → Prop}
theorem nroom {A : Around} (hu : A.units + 64 < cLine) : (nestedKind X.prog X.w).room A.in1 := by
  show A.units + 1 + 8 < cLine
  omega
theorem nkey_at (I : Inv X pins σ H s) (g : NKey H y k) (ry : RelV y u) : ∃ b, u = .ref b ∧ y = .ref b ∧ (nestedKind X.prog X.w).is s.heap k b := by
  obtain ⟨⟨b, rfl⟩, g1, g2⟩ := g
  cases ry
  exact ⟨b, rfl, rfl, nkv_heap I.hok g1 rfl, g2⟩
theorem nd_get {Q : Value → Shared → Prop} (hu : A.units + 64 < cLine) (I : Inv X pins σ H s) (g : NDat X.prog X.w H a kvs) (gk : NKey H y k) (ry : RelV y u) (l : valV kvs k = some v) (go : ∀ w' s', Inv X pins σ H s' → RelV v w' → Q w' s') :
    wpAny (model X.prog X.w) A (getItem (.ref a) u) Q E s := by
  obtain ⟨g1, g2, zs, rel, e⟩ := g
  obtain ⟨b, rfl, _, ik⟩ := nkey_at I gk ry
  obtain ⟨w', hw, rw'⟩ := RelO.some_of (v := v) (o := valueAt (pairsH zs) k) (by rw [← l]; exact rel.val k)
  exact getItem_keyed (nroom (X := X) hu) ik ⟨zs, nd_of I.hok rel e, rfl⟩ hw (go w' _ (I.tok _) rw')
theorem nd_in {Q : Value → Shared → Prop} (hu : A.units + 64 < cLine) (I : Inv X pins σ H s) (g : NDat X.prog X.w H a kvs) (gk : NKey H y k) (ry : RelV y u) (go : ∀ s', Inv X pins σ H s' → Q (.bool (valV kvs k).isSome) s') :
    wpAny (model X.prog X.w) A (compareOp .In u (.ref a)) Q E s := by
  obtain ⟨g1, g2, zs, rel, e⟩ := g
  obtain ⟨b, rfl, _, ik⟩ := nkey_at I gk ry
  refine in_keyed (nroom (X := X) hu) ik g1 ⟨zs, nd_of I.hok rel e, rfl⟩ ?_
  rw [← (rel.val k).isSome_eq]
  exact go _ (I.tok _)
theorem nd_notIn {Q : Value → Shared → Prop} (hu : A.units + 64 < cLine) (I : Inv X pins σ H s) (g : NDat X.prog X.w H a kvs) (gk : NKey H y k) (ry : RelV y u) (go : ∀ s', Inv X pins σ H s' → Q (.bool (!(valV kvs k).isSome)) s') :
    wpAny (model X.prog X.w) A (compareOp .NotIn u (.ref a)) Q E s := by
  obtain ⟨g1, g2, zs, rel, e⟩ := g
  obtain ⟨b, rfl, _, ik⟩ := nkey_at I gk ry
  refine notIn_keyed (nroom (X := X) hu) ik g1 ⟨zs, nd_of I.hok rel e, rfl⟩ ?_
  rw [← (rel.val k).isSome_eq]
  exact go _ (I.tok _)
theorem nent_stay (P : Program) (w : World) (a : Addr) (zs : List (NestedKey × Addr × Value)) : ∀ h1 h2 : Heap, NEnt P w a zs h1 → (∀ o, h1.get? a = some o → h2.get? a = some o) → NEnt P w a zs h2 := fun h1 h2 ⟨o, es, ep, g1, g⟩ st => ⟨o, es, ep, st _ g1, g⟩
theorem nd_put {Q : Unit → Shared → Prop} (hu : A.units + 64 < cLine) (I : Inv X pins σ H s) (g : NDat X.prog X.w H a kvs) (gk : NKey H y k) (ry : RelV y u) (rv : RelV v r) (lt : kvs.length < sizeLine)
    (go : ∀ H' s', (∀ b, b ≠ a → H' b = H b) → NDat X.prog X.w H' a (putK kvs k v) → Inv X pins σ H' s' → Q () s') : wpAny (model X.prog X.w) A (setItem (.ref a) u r) Q E s := by
  obtain ⟨g1, g2, zs, rel, e⟩ := g
  obtain ⟨b, rfl, rfl, ik⟩ := nkey_at I gk ry
  refine wpAny_setItem_heap (hsz := by rw [← rel.len]; omega) (nroom (X := X) hu) ik (nd_of I.hok rel e) fun h' dd hs => ?_
  obtain ⟨o, es, ep, i1, i2, i3, i4, _, i5⟩ := dd
  have hl : (putK kvs k v).length ≤ sizeLine := by have := length_putK kvs k v; omega
  have r2 := (rel.put gk rv).keeps (H' := upd H a (.ext (NEnt X.prog X.w a (storedH zs k b r)))) fun c ys ec => (by
    rw [upd_ne (ne_of ec e fun j => nomatch j)]
    exact ec)
  refine go (upd H a (.ext (NEnt X.prog X.w a (storedH zs k b r)))) _ (fun c hc => upd_ne hc) ⟨g1, hl, _, r2, upd_same⟩ ?_
  exact d_write I (by rw [e]; exact True.intro) hs ⟨o, i1⟩ ⟨⟨o, es, ep, i1, i2, i3, i4, i5⟩, ⟨o, i1⟩, nent_stay _ _ _ _⟩
theorem nd_getOr {Q : Value → Shared → Prop} {d : V} {q : Value} (hu : A.units + 64 < cLine) (I : Inv X pins σ H s) (g : NDat X.prog X.w H a kvs) (gk : NKey H y k) (ry : RelV y u) (rd : RelV d q) (go : ∀ w' s', Inv X pins σ H s' → RelV ((valV kvs k).getD d) w' → Q w' s') :
    wpAny (model X.prog X.w) A (call (.builtin "dict.get") [.ref a, u, q]) Q E s := by
  obtain ⟨g1, g2, zs, rel, e⟩ := g
  obtain ⟨b, rfl, _, ik⟩ := nkey_at I gk ry
  exact getOr_keyed (nroom (X := X) hu) ik g1 ⟨zs, nd_of I.hok rel e, rfl⟩ (go _ _ (I.tok _) ((rel.val k).getD rd))
theorem nd_type (I : Inv X pins σ H s) (g : NDat X.prog X.w H a kvs) : s.TypeIs (.ref a) "dict" ∧ (∀ b, Value.ref a = .ref b → ∃ ob, s.heap.get? b = some ob ∧ ob.dict = none) := by
  obtain ⟨g1, g2, zs, rel, e⟩ := g
  have dd := nd_of I.hok rel e
  refine ⟨dd.typeIs, fun b q => ?_⟩
  cases q
  obtain ⟨ob, _, _, i1, i2, _⟩ := dd
  exact ⟨ob, i1, i2.2.1⟩
end
/-- {} -/
def tNNew (P : Program) (w : World) : TE := fun _ H Q => ∀ (p : Addr) (H' : Hp), H p = none → Same H H' → (∀ b, b ≠ p → H' b = H b) → NDat P w H' p [] → Q (.ref p) H'
def tNGet (P : Program) (w : World) (td ty : TE) : TE := fun σ H Q => td σ H fun x H1 => ty σ H1 fun y H2 => ∃ a kvs k v, x = .ref a ∧ NDat P w H2 a kvs ∧ NKey H2 y k ∧ valV kvs k = some v ∧ Q v H2
def tNIn (P : Program) (w : World) (ty td : TE) : TE := fun σ H Q => ty σ H fun y H1 => td σ H1 fun x H2 => ∃ a kvs k, x = .ref a ∧ NDat P w H2 a kvs ∧ NKey H2 y k ∧ Q (.bl (valV kvs k).isSome) H2
def tNNotIn (P : Program) (w : World) (ty td : TE) : TE := fun σ H Q => ty σ H fun y H1 => td σ H1 fun x H2 => ∃ a kvs k, x = .ref a ∧ NDat P w H2 a kvs ∧ NKey H2 y k ∧ Q (.bl (!(valV kvs k).isSome)) H2
def sNPut (P : Program) (w : World) (td ty tv : TE) : TS := fun D σ H => tv σ H fun v H1 => td σ H1 fun x H2 => ty σ H2 fun y H3 => ∃ a kvs k, x = .ref a ∧ NDat P w H3 a kvs ∧ NKey H3 y k ∧ kvs.length < sizeLine ∧ ∀ H4, (∀ b, b ≠ a → H4 b = H3 b) → NDat P w H4 a (putK kvs k v) → D.nx σ H4
section
variable {X : Cx} {o i e value f : Expr} {pos pos' apos cpos : Pos} {td ty tv tx : TE}
theorem pe_nnew : PE X (.Dict [] [] pos) (tNNew X.prog X.w) := by
  constructor
  intro ps s σ H Q I go
  have fr := I.hok.fresh (Nat.le_refl s.heap.objs.size)
  have nz : (s.heap.objs.size == sysModules) = false := beq_eq_false_iff_ne.mpr (Ne.symm (Nat.ne_of_lt I.big))
  have ent : NEnt X.prog X.w s.heap.objs.size [] (s.heap.push { cls := .type "dict", data := .dict #[] }) := ⟨_, #[], 0, Heap.get?_push_size _ rfl, ⟨rfl, rfl, rfl⟩, rfl, rfl, List.nodup_nil⟩
  refine wpAny_Dict_empty ⟨.ref s.heap.objs.size, upd H s.heap.objs.size (.ext (NEnt X.prog X.w s.heap.objs.size [])), ?_, rfl, ?_⟩
  · exact I.laid (t' := s.toks) (fun _ _ q => Heap.get?_push_of_some _ q) (Nat.le_refl _) ⟨ent, ⟨_, Heap.get?_push_size _ rfl⟩, nent_stay _ _ _ _⟩
  · exact go _ _ fr (same_new fr) (fun b hb => upd_ne hb) ⟨nz, Nat.zero_le _, [], .nil, upd_same⟩
theorem pe_nget (hu : X.A.units + 64 < cLine) (ho : PE X o td) (hi : PE X i ty) (hs : NoSl i := by exact fun _ _ => rfl) : PE X (.Subscript o i pos) (tNGet X.prog X.w td ty) := by
  constructor
  intro ps s σ H Q I go
  refine subD_of PySem.F.slot_dict_getitem.lookup hs (thn (ho.run ps s σ H _ I go) fun u s1 ⟨x, H1, I1, rx, q1⟩ => thn (hi.run ps s1 σ H1 _ I1 q1) fun iv s2 ⟨y, H2, I2, ry, a, kvs, k, v, ex, g, gk, l, q2⟩ => ?_)
  cases ex
  obtain rfl : u = .ref a := rx
  exact ⟨(nd_type I2 g).1, nd_get hu I2 g gk ry l fun w' s3 I3 rw' => ⟨v, H2, I3, rw', q2⟩⟩
theorem pc_nin (hu : X.A.units + 64 < cLine) (hi : PE X i ty) (ho : PE X o td) : PC X .In i o (tNIn X.prog X.w ty td) := by
  constructor
  intro ps s σ H Q I go
  refine thn (hi.run ps s σ H _ I go) fun iv s1 ⟨y, H1, I1, ry, q1⟩ => thn (ho.run ps s1 σ H1 _ I1 q1) fun u s2 ⟨x, H2, I2, rx, a, kvs, k, ex, g, gk, q2⟩ => ?_
  cases ex
  obtain rfl : u = .ref a := rx
  exact nd_in hu I2 g gk ry fun s3 I3 => ⟨.bl (valV kvs k).isSome, H2, I3, rfl, q2⟩
theorem pc_nnotin (hu : X.A.units + 64 < cLine) (hi : PE X i ty) (ho : PE X o td) : PC X .NotIn i o (tNNotIn X.prog X.w ty td) := by
  constructor
  intro ps s σ H Q I go
  refine thn (hi.run ps s σ H _ I go) fun iv s1 ⟨y, H1, I1, ry, q1⟩ => thn (ho.run ps s1 σ H1 _ I1 q1) fun u s2 ⟨x, H2, I2, rx, a, kvs, k, ex, g, gk, q2⟩ => ?_
  cases ex
  obtain rfl : u = .ref a := rx
  exact nd_notIn hu I2 g gk ry fun s3 I3 => ⟨.bl (!(valV kvs k).isSome), H2, I3, rfl, q2⟩
theorem ps_nput (hu : X.A.units + 64 < cLine) (ho : PE X o td) (hi : PE X i ty) (hv : PE X value tv) (hs : swapsWith value (some (.Subscript o i pos')) pos.line X.env = pure false := by rfl) :
    PS X (.Assign [.Subscript o i pos'] value pos) (sNPut X.prog X.w td ty tv) := by
  constructor
  intro ps s σ H D I go
  refine wpAny_Assign_Subscript (thn (hv.run ps s σ H _ I go) fun r s1 ⟨v, H1, I1, rv, q1⟩ => thn (ho.run ps s1 σ H1 _ I1 q1) fun u s2 ⟨x, H2, I2, rx, q2⟩ => thn (hi.run ps s2 σ H2 _ I2 q2) fun iv s3 ⟨y, H3, I3, ry, a, kvs, k, ex, g, gk, lt, q3⟩ => ?_) hs
  cases ex
  obtain rfl : u = .ref a := rx
  exact nd_put hu I3 g gk ry rv lt fun H4 s4 e4 g4 I4 => ⟨σ, H4, I4, q3 H4 e4 g4⟩
def tNGetOr (P : Program) (w : World) (td ty tx : TE) : TE := fun σ H Q => td σ H fun x H1 => ∃ a, x = .ref a ∧ (∃ kvs, NDat P w H1 a kvs) ∧ ty σ H1 fun y H2 => tx σ H2 fun z H3 => ∃ kvs k, NDat P w H3 a kvs ∧ NKey H3 y k ∧ Q ((valV kvs k).getD z) H3
theorem pe_ngetOr (hu : X.A.units + 64 < cLine) (ho : PE X o td) (he : PE X e ty) (hf : PE X f tx) (m : M2 X o "get" apos e f cpos) : PE X (.Call (.Attribute o "get" apos) [e, f] [] cpos) (tNGetOr X.prog X.w td ty tx) := by
  constructor
  intro ps s σ H Q I go
  refine wpAny_Call_method m.base m.few m.line PySem.F.plainAttrs_dict PySem.F.slot_dict_get PySem.F.type_dict_get (thn (ho.run ps s σ H _ I go) fun u s1 ⟨x, H1, I1, rx, a, ex, ⟨kv0, g0⟩, q1⟩ => ?_)
  cases ex
  obtain rfl : u = .ref a := rx
  refine ⟨(nd_type I1 g0).1, (nd_type I1 g0).2, ?_⟩
  rw [m.trees]
  refine Calls.callWith_builtin rfl (Calls.evalArgs_plain (Calls.spliced_cons (thn (he.run ps s1 σ H1 _ I1 q1) fun iv s2 ⟨y, H2, I2, ry, q2⟩ => Calls.spliced_cons (thn (hf.run ps s2 σ H2 _ I2 q2) fun fv s3 ⟨z, H3, I3, rz, kvs, k, g, gk, q3⟩ => Calls.spliced_nil ?_))))
  exact nd_getOr hu I3 g gk ry rz fun w' s4 I4 rw' => ⟨_, H3, I4, rw', q3⟩
end

end M

set_option Elab.async false
set_option linter.all false
set_option maxRecDepth 100000
set_option maxHeartbeats 2000000
namespace M
open PySem PySem.Spec PyProof.Rows L2

/-! ### dicts whose keys are tuples: what the hand layer has not -/
/-! ### the values of a dict whose keys are tuples -/
def Itdt (d : Addr) (o : Obj) (kvs : List (List Key × V)) : It :=
  ⟨fun i H => H d = some (.frz o (.dT kvs)) ∧ i < kvs.length, fun i H x H' => H' = H ∧ ∃ k, kvs[i]? = some (k, x), fun i H => H d = some (.frz o (.dT kvs)) ∧ kvs.length ≤ i⟩
section
variable {X : Cx} {pins : List (Addr × Obj)} {σ : L2.St} {H : Hp} {s : Shared} {d : Addr} {o : Obj}
theorem dt_vals {kvs : List (List Key × V)} (h : Rd H d (.dT kvs)) (I : Inv X pins σ H s) :
    (d == sysModules) = false ∧ ∃ (o : Obj) (es : Array DictEntry) (ep : Nat), s.heap.get? d = some o ∧ o.ExactDict ∧ o.data = .dict es ep ∧ es.size = kvs.length ∧
      ∀ (i : Nat) (k : List Key) (v : V), kvs[i]? = some (k, v) → ∃ (en : DictEntry), es[i]? = some en ∧ RelV v en.val := by
  obtain ⟨z, hs, xs, pr, o', es, ep, ho, hx, hdt, he, _⟩ := h.ok I.hok
  refine ⟨hs, o', es, ep, ho, hx, hdt, ?_, fun i k v e => ?_⟩
  · have l1 : es.size = xs.length := size_of_entries he
    have l2 : kvs.length = xs.length := Paired.length pr
    omega
  · obtain ⟨b, hb, e1, e2, e3⟩ := paired_get pr e
    have q := entry_at he i
    rw [hb] at q
    exact ⟨_, q, e3⟩
end
section
variable {P : Program} {w : World} {K : PySem.W.Frag} {tg : Expr} {d : Addr} {o : Obj} {es : Array DictEntry} {ep : Nat}
theorem frz_at {X : Cx} {pins : List (Addr × Obj)} {σ : L2.St} {H : Hp} {s : Shared} {u : HO} (I : Inv X pins σ H s) (h : H d = some (.frz o u)) : s.heap.get? d = some o := (I.hok d _ h).1
theorem turn_valsT {kvs : List (List Key × V)} (it : Addr) (hod : o.data = .dict es ep) : Turn P w K tg (Itdt d o kvs) [it] it (fun i h => h.IsValIter it d i kvs.length ep) where
  mem := by simp
  obj := fun i h st b hb => by
    have e : b = it := by simpa using hb
    subst e
    obtain ⟨oi, e, c, dd⟩ := st
    exact ⟨oi, e, fun v z => by rw [dd] at z; cases z⟩
  keep := fun i h h' st k => st.at fun oi e => k it (by simp) oi e
  item := by
    intro X hP hw hK hc i pins s σ H E I hf st hg
    subst hP hw hK
    obtain ⟨hd, hi⟩ := hg
    obtain ⟨f0, f1, f2, f3, f4, f5⟩ := hf it (by simp)
    obtain ⟨hs, o', es', ep', ho, hx, hdt, hsz, ent⟩ := dt_vals (.inr ⟨_, hd⟩) I
    have eo := frz_at I hd
    rw [eo] at ho
    cases ho
    obtain ⟨rfl, rfl⟩ := dict_ep hod hdt
    obtain ⟨⟨k, v⟩, hkv⟩ : ∃ p, kvs[i]? = some p := ⟨kvs[i], List.getElem?_eq_getElem hi⟩
    obtain ⟨en, hen, rv⟩ := ent i k v hkv
    rw [← hsz] at st
    have hi' : i < es'.size := by omega
    have een : es'[i] = en := by
      rw [Array.getElem?_eq_getElem hi'] at hen
      exact Option.some.inj hen
    refine wpAny_pyNext_values_item_raw st ⟨o, eo, hx, hdt⟩ hi' fun h' st' sb => ?_
    have I1 : Inv X pins σ H { s with heap := h' } := I.turned (t' := s.toks) (fun b ob hb e => (sb.2 b hb).trans e) f0 f1 f3 f4 f5
    obtain ⟨oi, e, c, dd⟩ := id st'
    refine ⟨_, rfl, go_of (s := { s with heap := h' }) e c dd (by decide) ⟨v, H, I1, een ▸ rv, ⟨rfl, k, hkv⟩, ?_, fun b hb => (hf b hb).1⟩⟩
    show h'.IsValIter it d (i + 1) kvs.length _
    rw [← hsz]
    exact st'
  done := by
    intro X hP hw hK hc i pins s σ H E I hf st hg
    subst hP hw hK
    obtain ⟨hd, hi⟩ := hg
    obtain ⟨f0, f1, f2, f3, f4, f5⟩ := hf it (by simp)
    obtain ⟨hs, o', es', ep', ho, hx, hdt, hsz, ent⟩ := dt_vals (.inr ⟨_, hd⟩) I
    have eo := frz_at I hd
    rw [eo] at ho
    cases ho
    obtain ⟨rfl, rfl⟩ := dict_ep hod hdt
    rw [← hsz] at st
    exact wpAny_pyNext_values_end_raw (I.ok.hd hc) st ⟨o, eo, hx, hdt⟩ (by omega) fun h' eb => ⟨rfl, I.turned (t' := s.toks) (fun b ob hb e => eb b ob hb e) f0 f1 f3 f4 f5⟩
  self := fun A i s Q E st h => wpAny_pyIter_valiter st h
end
def iValsT (td : TE) : TI := fun σ H R => td σ H fun x H1 => ∃ d o kvs, x = .ref d ∧ H1 d = some (.frz o (.dT kvs)) ∧ R (Itdt d o kvs) H1
section
variable {X : Cx} {tg e : Expr} {td : TE} {apos cpos : Pos}
theorem pi_valuesT (he : PE X e td) (hbase : attributeBase e "values" X.env (eval e X.env) = eval e X.env := by rfl) (hline : (apos.endLine == cpos.line) = true := by rfl) : PI X tg (.Call (.Attribute e "values" apos) [] [] cpos) (iValsT td) := by
  refine ⟨fun pins s σ H R I h => ?_⟩
  refine wpAny_Call_method (T := "dict") (id := "dict.values") hbase rfl hline F.plainAttrs_dict F.slot_dict_values F.type_dict_values (thn (he.run pins s σ H _ I h) fun u s1 ⟨x, H1, I1, rx, d, o, kvs, ex, hd, q⟩ => ?_)
  subst ex
  obtain rfl : u = Value.ref d := rx
  obtain ⟨hs, o', es, ep, ho, hx, hdt, hsz, ent⟩ := dt_vals (.inr ⟨_, hd⟩) I1
  have eo := frz_at I1 hd
  rw [eo] at ho
  cases ho
  have hm : s1.heap.DictRaw d es ep := ⟨o, eo, hx, hdt⟩
  refine ⟨hm.typeIs, fun b q => ?_, ?_⟩
  · cases q
    exact ⟨o, eo, hx.2.1⟩
  have I2 : Inv X pins σ H1 { s1 with heap := s1.heap.push { cls := .type "dict_values", data := .fields #[.ref d] } } := I1.kept (t' := s1.toks) fun b ob q => Heap.get?_push_of_some _ q
  have fin : wpAny (model X.prog X.w) X.A (pyIter (.ref s1.heap.objs.size)) (PIE X pins σ tg R) X.xe { s1 with heap := s1.heap.push { cls := .type "dict_values", data := .fields #[.ref d] } } := by
    refine wpAny_pyIter_values_raw (d := d) ⟨_, Heap.get?_push_size _ rfl, rfl, rfl⟩ (hm.at fun o e => Heap.get?_push_of_some _ e) (pi_one (tk := s1.toks) I2 _ (turn_valsT _ hdt) ⟨_, Heap.get?_push_size _ rfl, rfl, ?_⟩ q)
    rw [hsz] <;> rfl
  show wpAny _ _ (callWith cpos (.builtin "dict.values") [.ref d] [] []) _ X.xe s1
  exact method_meetsIn F.slot_dict_values F.entry_dict_values rfl (PySem.evalArgs_none ⟨rfl, hm.typeIs, F.args_dict_values_1 _, _, meets_dict_values_raw d hs, ⟨es, ep, hm⟩, fin⟩)
end
theorem walk_valuesT {d : Addr} {o : Obj} {kvs : List (List Key × V)} : Walk (Itdt d o kvs) kvs.length (fun H => H d = some (.frz o (.dT kvs))) (fun i H x H' => H' = H ∧ ∃ k, kvs[i]? = some (k, x)) :=
  ⟨fun _ _ hi q => ⟨q, hi⟩, fun _ q => ⟨q, Nat.le_refl _⟩, fun _ _ _ _ _ _ y => y⟩
/-! ### sum(d.values()) -/
def tSumVals (td : TE) : TE := fun σ H Q => td σ H fun x H1 => ∃ (a : Addr) (kvs : List (List Key × V)) (is : List Int), x = V.ref a ∧ H1 a = some (.dT kvs) ∧ kvs.map (·.2) = is.map V.int ∧ Q (.int is.sum) H1
theorem preSum_is (is : List Int) : ∀ n, n ≤ is.length → preSum (fun i => is.getD i 0) n = (is.take n).sum
  | 0, _ => rfl
  | n + 1, h => by
    have hx : is[n]? = some is[n] := List.getElem?_eq_getElem h
    show preSum (fun i => is.getD i 0) n + is.getD n 0 = _
    rw [preSum_is is n (Nat.le_of_succ_le h), List.take_succ, hx, List.getD_eq_getElem?_getD, hx, List.sum_append]
    simp
section
variable {X : Cx} {o : Expr} {p pos apos mpos : Pos} {td : TE}
theorem pe_sumVals (hc : X.calm = true) (hg : Gl X "sum") (hm : X.mg "sum" = none) (hd : PE X o td) (hbase : attributeBase o "values" X.env (eval o X.env) = eval o X.env := by rfl) (hline : (apos.endLine == mpos.line) = true := by rfl)
    (hse : starEach [Expr.Call (.Attribute o "values" apos) [] [] mpos] X.env = [(false, eval (Expr.Call (.Attribute o "values" apos) [] [] mpos) X.env)] := by rfl) :
    PE X (.Call (.Name "sum" p) [.Call (.Attribute o "values" apos) [] [] mpos] [] pos) (tSumVals td) := by
  refine ⟨fun pins s σ H Q I h => ?_⟩
  refine wpAny_Call_Name_kw (ld_blt I hg hm (u := .builtin "sum") (by first | rfl | decide +kernel) ?_ (by first | decide +kernel | decide) (by first | decide +kernel | decide))
  rw [hse]
  refine PySem.callWith_builtin1 (wpAny_Call_method0_late hbase hline (thn (hd.run pins s σ H _ I h) fun v s1 ⟨x, H1, I1, r1, a, kvs, is, ex, ha, hv, q⟩ => ?_))
  subst ex
  obtain rfl : v = Value.ref a := r1
  obtain ⟨hsys, ob, es, ep, ho, hx, hdt, hsz, ent⟩ := dt_vals (.inl ha) I1
  have hraw : s1.heap.DictRaw a es ep := ⟨ob, ho, hx, hdt⟩
  refine ⟨"dict", "dict.values", F.plainAttrs_dict, F.slot_dict_values, F.type_dict_values, hraw.typeIs, fun b e => ?_, Calls.callWith_builtin rfl (PySem.evalArgs_none ?_)⟩
  · cases e
    exact ⟨ob, ho, hx.2.1⟩
  refine call_meetsIn F.slot_dict_values hraw.typeIs F.entry_dict_values (F.args_dict_values_1 _) (meets_dict_values_raw a hsys) ⟨⟨es, ep, hraw⟩, ?_⟩
  have k1 : ∀ b u, s1.heap.get? b = some u → (s1.heap.push { cls := .type "dict_values", data := .fields #[.ref a] }).get? b = some u := fun b u e => Heap.get?_push_of_some _ e
  have raw1 : (s1.heap.push { cls := .type "dict_values", data := .fields #[.ref a] }).DictRaw a es ep := hraw.at fun o e => k1 a o e
  have hlv : es.size = is.length := by
    have e1 := congrArg List.length hv
    rw [List.length_map, List.length_map] at e1
    omega
  have hval : ∀ (i : Nat) (v : Value), (∃ hi : i < es.size, v = es[i].val) → ∃ t, v = Value.int (is.getD i 0) t := fun i v ⟨hi, ev⟩ => by
    have hi2 : i < kvs.length := by omega
    obtain ⟨en, hen, rv⟩ := ent i kvs[i].1 kvs[i].2 (List.getElem?_eq_getElem hi2)
    rw [Array.getElem?_eq_getElem hi] at hen
    have een := Option.some.inj hen
    have e1 : (kvs.map (·.2))[i]? = some kvs[i].2 := by rw [List.getElem?_map, List.getElem?_eq_getElem hi2] <;> rfl
    rw [hv, List.getElem?_map] at e1
    obtain ⟨j, hj, e2⟩ := Option.map_eq_some_iff.mp e1
    rw [← e2, ← een, ← ev] at rv
    obtain ⟨t, e3⟩ := rv
    refine ⟨t, ?_⟩
    rw [e3, List.getD_eq_getElem?_getD, hj] <;> rfl
  have hlt : a < s1.heap.objs.size := Heap.lt_size ho
  have hsz1 : (s1.heap.push { cls := .type "dict_values", data := .fields #[.ref a] }).objs.size = s1.heap.objs.size + 1 := Heap.size_push _ _
  refine call_sum_walkAnyS (wpAny_pyIter_values_raw (v := s1.heap.objs.size) (d := a) ⟨_, Heap.get?_push_size _ rfl, rfl, rfl⟩ raw1 ?_)
  refine ⟨_, _, _, _, _, _, _, _, rfl, (Walks.rawValues (A := X.A.in1) (I.ok.hd hc) (s1.heap.push { cls := .type "dict_values", data := .fields #[.ref a] }).objs.size a (by rw [hsz1]; exact Nat.ne_of_lt (Nat.lt_succ_of_lt hlt)) es ep).toS,
    ⟨⟨_, Heap.get?_push_size _ rfl, rfl, rfl⟩, raw1.at fun u e => Heap.get?_push_of_some _ e⟩, fun b hb => ?_, hval, fun s' t' hmv => ?_⟩
  · show b < ((s1.heap.push _).push _).objs.size
    rw [Heap.size_push, Heap.size_push]
    rw [hsz1] at hb
    rcases List.mem_cons.mp hb with e | hb
    · rw [e]
      exact Nat.lt_succ_self _
    · have e : b = a := List.mem_singleton.mp hb
      rw [e]
      exact Nat.lt_succ_of_lt (Nat.lt_succ_of_lt hlt)
  · rw [Moved.eq_with hmv]
    have es2 : preSum (fun i => is.getD i 0) es.size = is.sum := by
      rw [hlv, preSum_is is is.length (Nat.le_refl _), List.take_length]
    refine ⟨.int is.sum, H1, I1.kept (t' := s'.toks) fun b u e => hmv.heap b u (fun hmem => ?_) (Heap.get?_push_of_some _ (k1 b u e)), ⟨t', by rw [es2]⟩, q⟩
    have e1 : b = (s1.heap.push { cls := .type "dict_values", data := .fields #[.ref a] }).objs.size := List.mem_singleton.mp hmem
    have e2 := Heap.lt_size e
    rw [hsz1] at e1
    rw [e1] at e2
    exact absurd e2 (Nat.not_lt.mpr (Nat.le_succ _))
end
/-! ### {t: v}, t a tuple -/
def tDispT (tk tv : TE) : TE := fun σ H Q => ∀ p, H p = none → tk σ (upd H p (.dT [])) fun y H1 => tv σ H1 fun v H2 => H2 p = some (.dT []) ∧ ∃ (b : Addr) (k : List Key), y = .ref b ∧ H2 b = some (.tup (k.map kV)) ∧ Q (.ref p) (upd H2 p (.dT [(k, v)]))
theorem pe_dispT {X : Cx} {pos : Pos} {kx vx : Expr} {tk tv : TE} (hu : X.A.units + 1 < cLine) (hk : PE X kx tk) (hv : PE X vx tv) : PE X (.Dict [some kx] [vx] pos) (tDispT tk tv) := by
  refine ⟨fun pins s σ H Q I q => ?_⟩
  have hn := I.hok.fresh (Nat.le_refl s.heap.objs.size)
  have I1 := I.laid (a := s.heap.objs.size) (o := .dT []) (h' := s.heap.push { cls := .type "dict", data := .dict #[] }) (t' := s.toks) (fun _ _ q => Heap.get?_push_of_some _ q) (Nat.le_refl _) (dt_empty s.heap I.big)
  have pps := pps_cons (pos := pos) hk hv (pps_nil (X := X))
  rw [arm_eval_Dict, zip_pairTrees [some kx] [vx] X.env pos rfl rfl, dictDisplay_pairs (pairTrees [some kx] [vx] X.env pos) (List.cons_ne_nil _ _) (by show 1 < 17; decide)]
  refine wpAny_bind (wpAny_standAt (wpAny_bind (wpAny_subDictH (knd := tupleKind (mixKind X.prog X.w)) (Q := fun d s' => wpAny (model X.prog X.w) X.A (pure (Value.ref d)) (EP X pins σ Q) X.xe s') (show X.A.units < cLine from by omega) (by show 1 ≤ 15; decide) ?_)))
  refine thn (pps.run pins _ σ _ (fun ps H2 => match ps with
    | [(y, v)] => H2 s.heap.objs.size = some (.dT []) ∧ ∃ (b : Addr) (k : List Key), y = .ref b ∧ H2 b = some (.tup (k.map kV)) ∧ Q (.ref s.heap.objs.size) (upd H2 s.heap.objs.size (.dT [(k, v)]))
    | _ => False) I1 (q _ hn)) fun ws s2 ⟨ps, H2, I2, rel, q2⟩ => ?_
  obtain ⟨y, v, ep, e, b, k, ey, eb, q3⟩ : ∃ y v, ps = [(y, v)] ∧ H2 s.heap.objs.size = some (.dT []) ∧ ∃ (b : Addr) (k : List Key), y = .ref b ∧ H2 b = some (.tup (k.map kV)) ∧ Q (.ref s.heap.objs.size) (upd H2 s.heap.objs.size (.dT [(k, v)])) := by
    match ps, q2 with
    | [(y, v)], q2 => exact ⟨y, v, rfl, q2⟩
  subst ep ey
  cases rel with
  | cons r rr =>
    cases rr
    obtain ⟨r1, r2⟩ := r
    rename_i wv _
    obtain ⟨wk, wv⟩ := wv
    cases (show wk = Value.ref b from r1)
    obtain ⟨z0, nd, zs, kt, dd⟩ := dt_of I2.hok e
    cases kt
    refine ⟨[(k, b, wv)], ⟨rfl, rfl, key_of I2.hok eb, trivial⟩, dd, fun h' tk' dd' hs => wpAny_pure ⟨.ref s.heap.objs.size, _, ?_, rfl, q3⟩⟩
    obtain ⟨o, es, ep, g1, g2, g3, g4, _, g5⟩ := dd'
    refine d_write I2 (by rw [e]; exact True.intro) hs ⟨o, g1⟩ ⟨by rw [sizeLine_eq]; show 1 ≤ _; decide, nd, [(k, b, wv)], .cons ⟨rfl, ?_, r2⟩ .nil, o, es, ep, g1, g2, g3, g4, g5⟩
    rw [upd_ne (ne_of eb e fun j => nomatch j)]
    exact eb

end M

set_option Elab.async false
set_option linter.all false
set_option maxRecDepth 100000
set_option maxHeartbeats 2000000
namespace M
open PySem PySem.Spec PyProof.Rows L2

/-! ### what the laws of the family of the hand draw -/
theorem none_ofI {H H' : Hp} {x : Addr} (s : Same H H') (h : H' x = none) : H x = none := by
  cases e : H x with
  | none => rfl
  | some o => rw [s _ _ e] at h; cases h
theorem ixKI {k : Int} {n : Nat} (h0 : 0 ≤ k) (hk : k < n) : ixN n k = some k.toNat := by
  have e : ((k.toNat : Nat) : Int) = k := Int.toNat_of_nonneg h0
  have := Evl.ixN_nat (n := n) (j := k.toNat) (by omega)
  rw [e] at this
  exact this
/-- all stays but the hand and its list -/
def Bx (a l : Addr) (H H' : Hp) : Prop := ∀ b o, b ≠ a → b ≠ l → H b = some o → H' b = some o
theorem Bx.refl {a l : Addr} (H : Hp) : Bx a l H H := fun _ _ _ _ e => e
theorem Bx.trans {a l : Addr} {H H1 H2 : Hp} (h : Bx a l H H1) (k : Bx a l H1 H2) : Bx a l H H2 := fun b o n1 n2 e => k b o n1 n2 (h b o n1 n2 e)
theorem Same.bx {a l : Addr} {H H' : Hp} (s : Same H H') : Bx a l H H' := fun b o _ _ e => s b o e
theorem But.bxA {a l : Addr} {H H' : Hp} (s : But a H H') : Bx a l H H' := fun b o n1 _ e => s b o n1 e
theorem But.bxL {a l : Addr} {H H' : Hp} (s : But l H H') : Bx a l H H' := fun b o _ n2 e => s b o n2 e
/-- by way of a heap that differs at the hand alone -/
theorem Bx.cut {a l : Addr} {H H' : Hp} (h : Bx a l H H') (o : ∃ u, H' a = some u) : But a H (fun x => if x = a then H' a else H x) ∧ But l (fun x => if x = a then H' a else H x) H' := by
  refine ⟨fun b u n e => ?_, fun b u n e => ?_⟩
  · show (if b = a then H' a else H b) = _
    rw [if_neg n]
    exact e
  · have e : (if b = a then H' a else H b) = some u := e
    by_cases c : b = a
    · rw [if_pos c] at e
      rw [c]
      exact e
    · rw [if_neg c] at e
      exact h b u c n e
/-- the hand a: its great numbers l, how many of them are used up, its plain ones pl, the count -/
structure HandIs (H : Hp) (a l pl : Addr) (gs ps : List Int) (i n : Int) : Prop where
  ea : H a = some (.lst [.ref l, .int i, .ref pl, .int n])
  el : H l = some (.lst (gs.map .int))
  ep : H pl = some (.lst (ps.map .int))
  ne : a ≠ l ∧ a ≠ pl ∧ l ≠ pl
  gs : ∀ x ∈ gs, 0 ≤ x
  i0 : 0 ≤ i
  pn : 1 ≤ ps.length ∧ ps.length ≤ 64
  ps : ∀ x ∈ ps, 0 ≤ x ∧ x < 2147483647
  n0 : 0 ≤ n
def HandAt (H : Hp) (a l pl : Addr) : Prop := ∃ gs ps i n, HandIs H a l pl gs ps i n
theorem HandAt.chA {H : Hp} {a l pl : Addr} (h : HandAt H a l pl) : Ch H a := by
  obtain ⟨gs, ps, i, n, h⟩ := h
  exact .lst h.ea
theorem HandAt.at {H : Hp} {a l pl : Addr} (h : HandAt H a l pl) : ∃ u, H a = some u := by
  obtain ⟨gs, ps, i, n, h⟩ := h
  exact ⟨_, h.ea⟩
theorem HandAt.chM {H H' : Hp} {a l pl : Addr} (h : HandAt H a l pl) : Ch (fun x => if x = a then H' a else H x) l := by
  obtain ⟨gs, ps, i, n, h⟩ := h
  have e2 : (fun x => if x = a then H' a else H x) l = some (.lst (gs.map V.int)) := by
    show (if l = a then H' a else H l) = _
    rw [if_neg (Ne.symm h.ne.1)]
    exact h.el
  exact .lst e2
theorem HandAt.same {H H' : Hp} {a l pl : Addr} (s : Same H H') (h : HandAt H a l pl) : HandAt H' a l pl := by
  obtain ⟨gs, ps, i, n, h⟩ := h
  exact ⟨gs, ps, i, n, s _ _ h.ea, s _ _ h.el, s _ _ h.ep, h.ne, h.gs, h.i0, h.pn, h.ps, h.n0⟩
theorem HandAt.but {H H' : Hp} {a l pl D : Addr} (s : But D H H') (n : D ≠ a ∧ D ≠ l ∧ D ≠ pl) (h : HandAt H a l pl) : HandAt H' a l pl := by
  obtain ⟨gs, ps, i, k, h⟩ := h
  exact ⟨gs, ps, i, k, s _ _ (Ne.symm n.1) h.ea, s _ _ (Ne.symm n.2.1) h.el, s _ _ (Ne.symm n.2.2) h.ep, h.ne, h.gs, h.i0, h.pn, h.ps, h.n0⟩
theorem dp_hx {K : PySem.W.Frag} {a l pl : Addr} {H H' : Hp} (b : HandAt H a l pl) (b' : HandAt H' a l pl) (h : Bx a l H H') {v : V} {d : PyData} (k : Dp K H v d) (n : NoL d) : Dp K H' v d := dp_but b.chM (h.cut b'.at).2 (dp_but b.chA (h.cut b'.at).1 k n) n
theorem dps_hx {K : PySem.W.Frag} {a l pl : Addr} {H H' : Hp} (b : HandAt H a l pl) (b' : HandAt H' a l pl) (h : Bx a l H H') {vs : List V} {ds : List PyData} (k : DpAll K H vs ds) (n : ∀ d ∈ ds, NoL d) : DpAll K H' vs ds := dps_but b.chM (h.cut b'.at).2 (dps_but b.chA (h.cut b'.at).1 k n) n
theorem hand_ne {H : Hp} {a l pl p : Addr} (h : HandAt H a l pl) (np : H p = none) : p ≠ a ∧ p ≠ l ∧ p ≠ pl := by
  obtain ⟨gs, ps, i, n, h⟩ := h
  exact ⟨(fun z => by rw [z, h.ea] at np; cases np), (fun z => by rw [z, h.el] at np; cases np), fun z => by rw [z, h.ep] at np; cases np⟩
section
variable {P : Program} {w : World} {K : PySem.W.Frag} {mg : Str → Option Value} {base : Heap}
def spHand (K : PySem.W.Frag) : Sp := fun vs H Q _ => ∃ (t : Addr) (ns : List Int), vs = [.ref t] ∧ SqL K H t (ns.map .int) ∧ ns.length ≤ 63 ∧ ∀ (a l pl : Addr) (H' : Hp), Same H H' → H a = none → H l = none → H pl = none → HandAt H' a l pl → Q (.ref a) H'
theorem ca_l_hand (T : Txt w K mg) : Ca P w K mg base 1 "_law_hand" (spHand K) := by
  refine ca_of (N := ["_law_script", "_law_great", "_law_plain", "_law_cell"]) (ps := ["_law_script"]) T.f_l_hand T.g_law_hand ⟨rfl, rfl, rfl, by decide +kernel, rfl, by decide +kernel, by decide +kernel⟩ (fun _ _ _ _ _ _ us hl => match us, hl with | [_], _ => rfl)
    (fun vs H Q E h => by obtain ⟨t, ns, rfl, ht, hl, q⟩ := h; rfl) (fun cdv A outer s H vs Q E hr h => ?_)
  have nd : (["_law_script", "_law_great", "_law_plain", "_law_cell"] : List Str).Nodup := by decide +kernel
  obtain ⟨t, ns, rfl, ht, hl, q⟩ := h
  refine ⟨_, (pss_cons (ps_set (i := 1) nd rfl (.inl rfl) (pe_lst pa_nil))
      (pss_cons (ps_set (i := 2) nd rfl (.inl rfl) (pe_lst (pa_cons pe_int pa_nil)))
      (pss_cons (ps_for PassesOwn.never rfl (pi_list (pe_slice sl_list (pv 0) po_none (po_some pe_int))) (pg_name (i := 3) nd rfl (.inl rfl)) (pss_one (ps_if (PW.pt (pw_or (pt_cmpR op_ge (pv 3) (pe_op op_pow pe_int pe_int) (nomark _)) (pw_or1 (pt_cmpR op_lt (pv 3) (pe_op op_sub pe_int (pe_op op_pow pe_int pe_int)) (nomark _))))) (pss_one (ps_expr (pe_bm PySem.F.plainAttrs_list PySem.F.slot_list_append PySem.F.type_list_append mt_append (pv 1) (pa_cons (pe_callB call_abs (by rfl) T.b_abs boot_abs (pa_cons (pv 3) pa_nil)) pa_nil)))) (pss_cons (ps_expr (pe_bm PySem.F.plainAttrs_list PySem.F.slot_list_append PySem.F.type_list_append mt_append (pv 2) (pa_cons (pe_op op_mod (pe_callTy call_int1 (by rfl) T.b_int boot_int (pa_cons (pv 3) pa_nil)) pe_int) pa_nil)))
      (pss_one (ps_asg (pe_op op_mod (pe_callTy call_int1 (by rfl) T.b_int boot_int (pa_cons (pe_op op_add (pe_op op_add (pe_op op_mul (pe_ix ix_list (pv 2) pe_int (fun _ _ => rfl)) pe_int) (pe_ix ix_list (pv 2) (pe_un un_neg pe_int) (fun _ _ => rfl))) pe_int) pa_nil)) pe_int) (pg_sub (pv 2) pe_int set_list)))))))
      (pss_one (ps_ret (pe_lst (pa_cons (pv 1) (pa_cons pe_int (pa_cons (pv 2) (pa_cons pe_int pa_nil)))))))))), ?_⟩
  refine ⟨(by show 0 ≤ sizeLine; exact Nat.zero_le _), fun g ng => ⟨(by show 1 ≤ sizeLine; decide), fun p np => ?_⟩⟩
  have s1 := same_new (o := .lst []) ng
  have eg : upd H g (.lst []) g = some (.lst []) := upd_same
  generalize upd H g (.lst []) = H1 at s1 eg np ⊢
  have s2 := same_new (o := .lst [.int 1]) np
  have ep : upd H1 p (.lst [.int 1]) p = some (.lst [.int 1]) := upd_same
  have ngp : g ≠ p := ne_of_none eg np
  have eg2 := s2 _ _ eg
  generalize upd H1 p (.lst [.int 1]) = H2 at s2 ep eg2 ⊢
  have s02 := s1.trans s2
  obtain ⟨ms, em, lm⟩ : ∃ ms : List Int, cutV (ns.map V.int) none (some 63) = ms.map V.int ∧ ms.length ≤ 63 := by
    unfold cutV
    rw [← List.map_drop, ← List.map_take]
    exact ⟨_, rfl, by rw [List.length_take, List.length_drop]; omega⟩
  refine ⟨_, rfl, ?_⟩
  show tNoPart _ _ _
  unfold tNoPart
  refine ⟨_, rfl, t, _, rfl, s02.seq ht, fun L nL => ?_⟩
  rw [em]
  have s3 := same_new (o := .lst (ms.map V.int)) nL
  have eL : upd H2 L (.lst (ms.map V.int)) L = some (.lst (ms.map V.int)) := upd_same
  have nLg : L ≠ g := Ne.symm (ne_of_none eg2 nL)
  have nLp : L ≠ p := Ne.symm (ne_of_none ep nL)
  have eg3 := s3 _ _ eg2
  have ep3 := s3 _ _ ep
  generalize upd H2 L (.lst (ms.map V.int)) = H3 at s3 eL eg3 ep3 ⊢
  have s03 := s02.trans s3
  have ng0 : H g = none := ng
  have np0 : H p = none := none_ofI s1 np
  refine ⟨L, rfl, ⟨_, .of eL⟩, for_list (xs := ms.map V.int) (fun i σ' H' => ∃ (gs ps : List Int) (z : Option V), σ' = [some (.ref t), some (.ref g), some (.ref p), z] ∧ Bx g p H3 H' ∧ H' g = some (.lst (gs.map .int)) ∧ H' p = some (.lst (ps.map .int)) ∧ gs.length ≤ i ∧ (1 ≤ ps.length ∧ ps.length ≤ i + 1) ∧ (∀ x ∈ gs, 0 ≤ x) ∧ ∀ x ∈ ps, 0 ≤ x ∧ x < 2147483647) ⟨[], [1], none, rfl, Bx.refl _, eg3, ep3, Nat.le_refl _, ⟨Nat.le_refl _, Nat.le_refl _⟩, (fun x h => nomatch h), fun x h => by rw [List.mem_singleton.mp h]; decide⟩ (fun i σ' H' _ ⟨_, _, _, _, b, _⟩ => .of (b _ _ nLg nLp eL)) ?_ ?_⟩
  · rintro i x σ' H' hx ⟨gs, ps, z0, rfl, b, hg, hp, lg, lp, pg, pp⟩
    obtain ⟨z, hz, rfl⟩ := get_map hx
    have hi : i < ms.length := (List.getElem?_eq_some_iff.mp hz).1
    refine ⟨_, rfl, _, _, rfl, rfl, ⟨by decide, by decide, by decide⟩, _, _, rfl, rfl, _, rfl, ?_⟩
    have go : ∀ D : Ends, (∀ (gs' ps' : List Int) (G : Hp), Bx g p H3 G → G g = some (.lst (gs'.map .int)) → G p = some (.lst (ps'.map .int)) → gs'.length ≤ i + 1 → (1 ≤ ps'.length ∧ ps'.length ≤ i + 1 + 1) → (∀ x ∈ gs', 0 ≤ x) → (∀ x ∈ ps', 0 ≤ x ∧ x < 2147483647) → D.nx [some (.ref t), some (.ref g), some (.ref p), some (.int z)] G) → True := fun _ _ => trivial
    have great : ∀ {Z : Hp → Prop}, (∀ (gs' : List Int) (G : Hp), Bx g p H3 G → G g = some (.lst (gs'.map .int)) → G p = some (.lst (ps.map .int)) → gs'.length ≤ i + 1 → (∀ x ∈ gs', 0 ≤ x) → Z G) → Z (upd H' g (.lst (gs.map V.int ++ [.int (if z < 0 then -z else z)]))) := fun k => by
      have bb : But g H' (upd H' g (.lst (gs.map V.int ++ [.int (if z < 0 then -z else z)]))) := But.upd
      refine k (gs ++ [if z < 0 then -z else z]) _ (b.trans bb.bxA) (by rw [List.map_append]; exact upd_same) (bb _ _ (Ne.symm ngp) hp) (by simp; omega) fun x h => ?_
      rcases List.mem_append.mp h with h | h
      · exact pg x h
      · rw [List.mem_singleton.mp h]
        split <;> omega
    clear go
    by_cases c1 : (10 ^ (18 : Int).toNat : Int) ≤ z
    · rw [decide_eq_true c1]
      refine iteT (iteT ⟨_, rfl, .inl ⟨rfl, _, .of hg⟩, _, rfl, _, rfl, g, _, _, rfl, rfl, hg, by rw [List.length_map, sizeLine_eq]; omega, ?_⟩)
      exact great fun gs' G h1 h2 h3 h4 h5 => ⟨gs', ps, _, rfl, h1, h2, h3, h4, ⟨lp.1, by omega⟩, h5, pp⟩
    rw [decide_eq_false c1]
    refine iteF ⟨_, rfl, _, _, rfl, rfl, ⟨by decide, by decide, by decide⟩, _, _, rfl, rfl, _, _, rfl, rfl, _, rfl, ?_⟩
    by_cases c2 : z < 0 - (10 ^ (18 : Int).toNat : Int)
    · rw [decide_eq_true c2]
      refine iteT ⟨_, rfl, .inl ⟨rfl, _, .of hg⟩, _, rfl, _, rfl, g, _, _, rfl, rfl, hg, by rw [List.length_map, sizeLine_eq]; omega, ?_⟩
      exact great fun gs' G h1 h2 h3 h4 h5 => ⟨gs', ps, _, rfl, h1, h2, h3, h4, ⟨lp.1, by omega⟩, h5, pp⟩
    rw [decide_eq_false c2]
    have y0 := Int.emod_nonneg z (show (2147483647 : Int) ≠ 0 by decide)
    have y1 := Int.emod_lt_of_pos z (show (0 : Int) < 2147483647 by decide)
    refine iteF ⟨_, rfl, .inl ⟨rfl, _, .of hp⟩, ?_⟩
    refine ⟨_, rfl, .inl ⟨_, rfl, _, _, rfl, rfl, (by show (0 : Int) < 2147483647; decide), p, _, _, rfl, rfl, hp, by rw [List.length_map, sizeLine_eq]; omega, ?_⟩⟩
    have bb : But p H' (upd H' p (.lst (ps.map V.int ++ [.int (z % 2147483647)]))) := But.upd
    have hp1 : upd H' p (.lst (ps.map V.int ++ [.int (z % 2147483647)])) p = some (.lst (ps.map V.int ++ [.int (z % 2147483647)])) := upd_same
    have hg1 := bb _ _ ngp hg
    have b1 : Bx g p H3 _ := b.trans bb.bxL
    generalize upd H' p (.lst (ps.map V.int ++ [.int (z % 2147483647)])) = G at hp1 hg1 b1 ⊢
    obtain ⟨q0, qs, rfl⟩ : ∃ q0 qs, ps = q0 :: qs := by
      cases ps with
      | nil => exact absurd lp.1 (by decide)
      | cons q0 qs => exact ⟨q0, qs, rfl⟩
    have sq : SqL K G p ((q0 :: qs).map V.int ++ [.int (z % 2147483647)]) := .of hp1
    refine ⟨_, rfl, _, _, _, _, rfl, rfl, sq, at0, _, _, rfl, rfl, .inr ⟨by decide, by decide⟩, _, rfl, _, rfl, _, _, _, _, rfl, rfl, sq, atI_last _ _, _, _, rfl, rfl, _, _, rfl, rfl, .inl ⟨_, rfl, _, _, rfl, rfl, (by show (0 : Int) < 2147483647; decide), _, rfl, p, _, _, 0, rfl, rfl, hp1, ixKI (k := 0) (by decide) (by simp only [List.length_append, List.length_map, List.length_cons, List.length_nil]; omega), ?_⟩⟩
    have x0 := Int.emod_nonneg (q0 * 69069 + z % 2147483647 + 1) (show (2147483647 : Int) ≠ 0 by decide)
    have x1 := Int.emod_lt_of_pos (q0 * 69069 + z % 2147483647 + 1) (show (0 : Int) < 2147483647 by decide)
    have b2 : But p G (upd G p (.lst (((q0 :: qs).map V.int ++ [V.int (z % 2147483647)]).set 0 (V.int ((q0 * 69069 + z % 2147483647 + 1) % 2147483647))))) := But.upd
    refine ⟨gs, ((q0 * 69069 + z % 2147483647 + 1) % 2147483647) :: (qs ++ [z % 2147483647]), _, rfl, b1.trans b2.bxL, b2 _ _ ngp hg1, ?_, by omega, ⟨by simp, by have := lp.2; simp at this ⊢; omega⟩, pg, fun x h => ?_⟩
    · rw [upd_same]
      show some (HO.lst (V.int _ :: (qs.map V.int ++ [V.int _]))) = _
      rw [List.map_cons, List.map_append]
      rfl
    · rcases List.mem_cons.mp h with rfl | h
      · exact ⟨x0, x1⟩
      · rcases List.mem_append.mp h with h | h
        · exact pp x (List.mem_cons_of_mem _ h)
        · rw [List.mem_singleton.mp h]
          exact ⟨y0, y1⟩
  · rintro σ' H' ⟨gs, ps, z0, rfl, b, hg, hp, lg, lp, pg, pp⟩
    rw [List.length_map] at lg lp
    have sH : Same H H' := fun b' o e => b _ _ (ne_of_none e ng0) (ne_of_none e np0) (s03 _ _ e)
    refine ⟨_, rfl, _, rfl, (by show 4 ≤ sizeLine; decide), fun a na => ?_⟩
    have s4 := same_new (o := .lst [.ref g, .int 0, .ref p, .int 0]) na
    exact q a g p _ (sH.trans s4) (none_ofI sH na) ng0 np0 ⟨gs, ps, 0, 0, upd_same, s4 _ _ hg, s4 _ _ hp, ⟨Ne.symm (ne_of_none hg na), Ne.symm (ne_of_none hp na), ngp⟩, pg, by decide, ⟨lp.1, by omega⟩, pp, by decide⟩
def spDrawH : Sp := fun vs H Q _ => ∃ (a l pl : Addr) (m : Int), vs = [.ref a, .int m] ∧ HandAt H a l pl ∧ (1 ≤ m ∧ m ≤ 1000000000) ∧ ∀ (i : Int) (H' : Hp), Bx a l H H' → HandAt H' a l pl → (0 ≤ i ∧ i < m) → Q (.int i) H'
theorem ca_l_draw (T : Txt w K mg) : Ca P w K mg base 1 "_law_draw" (spDrawH) := by
  refine ca_of (N := ["_law_hand_here", "_law_many", "_law_great", "_law_value", "_law_plain", "_law_count", "_law_number"]) (ps := ["_law_hand_here", "_law_many"]) T.f_l_draw T.g_law_draw ⟨rfl, rfl, rfl, by decide +kernel, rfl, by decide +kernel, by decide +kernel⟩ (fun _ _ _ _ _ _ us hl => match us, hl with | [_, _], _ => rfl)
    (fun vs H Q E h => by obtain ⟨a, l, pl, m, rfl, hb, hm, q⟩ := h; rfl) (fun cdv A outer s H vs Q E hr h => ?_)
  have nd : (["_law_hand_here", "_law_many", "_law_great", "_law_value", "_law_plain", "_law_count", "_law_number"] : List Str).Nodup := by decide +kernel
  obtain ⟨a, l, pl, m, rfl, hb, hm, q⟩ := h
  refine ⟨_, (pss_cons (ps_asg (pe_op op_add (pe_ix ix_list (pv 0) pe_int (fun _ _ => rfl)) pe_int) (pg_sub (pv 0) pe_int set_list))
      (pss_cons (ps_if (pt_cmpR op_lt (pe_ix ix_list (pv 0) pe_int (fun _ _ => rfl)) (pe_callB call_len_seq (by rfl) T.b_len PySem.boot_len (pa_cons (pe_ix ix_list (pv 0) pe_int (fun _ _ => rfl)) pa_nil)) (nomark _)) (pss_cons (ps_set (i := 2) nd rfl (.inl rfl) (pe_ix ix_list (pv 0) pe_int (fun _ _ => rfl)))
      (pss_cons (ps_set (i := 3) nd rfl (.inl rfl) (pe_ix ix_list (pv 2) (pe_ix ix_list (pv 0) pe_int (fun _ _ => rfl)) (fun _ _ => rfl)))
      (pss_cons (ps_asg (pe_op op_fdiv (pv 3) (pv 1)) (pg_sub (pv 2) (pe_ix ix_list (pv 0) pe_int (fun _ _ => rfl)) set_list))
      (pss_cons (ps_if (pt_cmpR op_lt (pv 3) (pv 1) (nomark _)) (pss_one (ps_asg (pe_op op_add (pe_ix ix_list (pv 0) pe_int (fun _ _ => rfl)) pe_int) (pg_sub (pv 0) pe_int set_list))) pss_nil)
      (pss_one (ps_ret (pe_op op_mod (pe_callTy call_int1 (by rfl) T.b_int boot_int (pa_cons (pv 3) pa_nil)) (pv 1)))))))) pss_nil)
      (pss_cons (ps_set (i := 4) nd rfl (.inl rfl) (pe_ix ix_list (pv 0) pe_int (fun _ _ => rfl)))
      (pss_cons (ps_set (i := 5) nd rfl (.inl rfl) (pe_ix ix_list (pv 0) pe_int (fun _ _ => rfl)))
      (pss_cons (ps_set (i := 6) nd rfl (.inl rfl) (pe_op op_mod (pe_callTy call_int1 (by rfl) T.b_int boot_int (pa_cons (pe_op op_mul (pe_op op_add (pe_op op_add (pe_op op_add (pe_ix ix_list (pv 4) pe_int (fun _ _ => rfl)) (pe_ix ix_list (pv 4) (pe_op op_mod (pe_callTy call_int1 (by rfl) T.b_int boot_int (pa_cons (pv 5) pa_nil)) (pe_callB call_len_seq (by rfl) T.b_len PySem.boot_len (pa_cons (pv 4) pa_nil))) (fun _ _ => rfl))) (pe_op op_mul pe_int (pv 5))) pe_int) pe_int) pa_nil)) pe_int))
      (pss_cons (ps_set (i := 6) nd rfl (.inl rfl) (pe_op op_mod (pe_callTy call_int1 (by rfl) T.b_int boot_int (pa_cons (pe_op op_mul (pv 6) (pe_op op_add (pe_op op_fdiv (pv 6) pe_int) pe_int)) pa_nil)) pe_int))
      (pss_cons (ps_set (i := 6) nd rfl (.inl rfl) (pe_op op_mod (pe_callTy call_int1 (by rfl) T.b_int boot_int (pa_cons (pe_op op_mul (pv 6) (pe_op op_add (pe_op op_fdiv (pv 6) pe_int) pe_int)) pa_nil)) pe_int))
      (pss_one (ps_ret (pe_op op_mod (pe_callTy call_int1 (by rfl) T.b_int boot_int (pa_cons (pe_op op_fdiv (pv 6) pe_int) pa_nil)) (pv 1))))))))))), ?_⟩
  obtain ⟨gs, ps, i, n, h⟩ := hb
  have hsq : SqL K H a [.ref l, .int i, .ref pl, .int n] := .of h.ea
  refine ⟨_, rfl, _, _, _, _, rfl, rfl, hsq, at3, _, _, rfl, rfl, _, rfl, a, _, _, 3, rfl, rfl, h.ea, rfl, ?_⟩
  have b1 : But a H (upd H a (.lst (([.ref l, .int i, .ref pl, .int n] : List V).set 3 (.int (n + 1))))) := But.upd
  have ea1 : upd H a (.lst (([.ref l, .int i, .ref pl, .int n] : List V).set 3 (.int (n + 1)))) a = some (.lst [.ref l, .int i, .ref pl, .int (n + 1)]) := upd_same
  generalize upd H a (.lst (([.ref l, .int i, .ref pl, .int n] : List V).set 3 (.int (n + 1)))) = H1 at b1 ea1 ⊢
  have el1 := b1 _ _ (Ne.symm h.ne.1) h.el
  have ep1 := b1 _ _ (Ne.symm h.ne.2.1) h.ep
  have hsq1 : SqL K H1 a [.ref l, .int i, .ref pl, .int (n + 1)] := .of ea1
  have n0 := h.n0
  have i0 := h.i0
  refine ⟨_, rfl, _, _, _, _, rfl, rfl, hsq1, at1, _, rfl, _, _, _, _, rfl, rfl, hsq1, at0, l, _, rfl, .inl (.of el1), _, _, rfl, rfl, _, rfl, ?_⟩
  by_cases c : i < ((gs.map V.int).length : Nat)
  · rw [decide_eq_true c]
    have li : i.toNat < gs.length := by rw [List.length_map] at c; omega
    have hgv : (gs.map V.int)[i.toNat]? = some (.int (gs[i.toNat]'li)) := by rw [List.getElem?_map, List.getElem?_eq_getElem li]; rfl
    have hat : atI (gs.map V.int) i = some (.int (gs[i.toNat]'li)) := by
      have := atI_nat hgv
      rw [Int.toNat_of_nonneg i0] at this
      exact this
    have gv0 := h.gs _ (List.getElem_mem li)
    generalize gs[i.toNat]'li = gv at hat gv0
    refine iteT ⟨_, rfl, _, _, _, _, rfl, rfl, hsq1, at0, ?_⟩
    refine ⟨_, rfl, _, rfl, _, _, _, _, rfl, rfl, hsq1, at1, _, _, _, _, rfl, rfl, .of el1, hat, ?_⟩
    refine ⟨_, rfl, _, rfl, _, _, rfl, rfl, ⟨(by show (0 : Int) < m; omega), (by show m < 1073741824; omega)⟩, ?_⟩
    refine ⟨_, rfl, _, rfl, _, _, _, _, rfl, rfl, hsq1, at1, l, _, _, i.toNat, rfl, rfl, el1, ixKI i0 (by rw [List.length_map]; omega), ?_⟩
    have b2 : But l H1 (upd H1 l (.lst ((gs.map V.int).set i.toNat (.int (gv / m))))) := But.upd
    have el2 : upd H1 l (.lst ((gs.map V.int).set i.toNat (.int (gv / m)))) l = some (.lst ((gs.set i.toNat (gv / m)).map V.int)) := by rw [upd_same, List.map_set]
    generalize upd H1 l (.lst ((gs.map V.int).set i.toNat (.int (gv / m)))) = H2 at b2 el2 ⊢
    have ea2 := b2 _ _ h.ne.1 ea1
    have ep2 := b2 _ _ (Ne.symm h.ne.2.2) ep1
    have hsq2 : SqL K H2 a [.ref l, .int i, .ref pl, .int (n + 1)] := .of ea2
    have bx2 : Bx a l H H2 := b1.bxA.trans b2.bxL
    have pg : ∀ x ∈ gs.set i.toNat (gv / m), 0 ≤ x := fun x hx => by
      rcases List.mem_or_eq_of_mem_set hx with hx | rfl
      · exact h.gs x hx
      · exact Int.ediv_nonneg gv0 (by omega)
    have rng : 0 ≤ gv % m ∧ gv % m < m := ⟨Int.emod_nonneg _ (by omega), Int.emod_lt_of_pos _ (by omega)⟩
    refine ⟨_, rfl, _, rfl, _, _, rfl, rfl, _, rfl, ?_⟩
    by_cases c2 : gv < m
    · rw [decide_eq_true c2]
      refine iteT ⟨_, rfl, _, _, _, _, rfl, rfl, hsq2, at1, _, _, rfl, rfl, _, rfl, a, _, _, 1, rfl, rfl, ea2, rfl, ?_⟩
      have b3 : But a H2 (upd H2 a (.lst (([.ref l, .int i, .ref pl, .int (n + 1)] : List V).set 1 (.int (i + 1))))) := But.upd
      exact ⟨_, rfl, .inl ⟨_, rfl, _, rfl, _, _, rfl, rfl, (by show (0 : Int) < m; omega), q _ _ (bx2.trans b3.bxA) ⟨_, ps, i + 1, n + 1, upd_same, b3 _ _ (Ne.symm h.ne.1) el2, b3 _ _ (Ne.symm h.ne.2.1) ep2, h.ne, pg, by omega, h.pn, h.ps, by omega⟩ rng⟩⟩
    · rw [decide_eq_false c2]
      exact iteF ⟨_, rfl, .inl ⟨_, rfl, _, rfl, _, _, rfl, rfl, (by show (0 : Int) < m; omega), q _ _ bx2 ⟨_, ps, i, n + 1, ea2, el2, ep2, h.ne, pg, i0, h.pn, h.ps, by omega⟩ rng⟩⟩
  · rw [decide_eq_false c]
    obtain ⟨q0, qs, rfl⟩ : ∃ q0 qs, ps = q0 :: qs := by
      have := h.pn.1
      cases ps with
      | nil => exact absurd this (by decide)
      | cons q0 qs => exact ⟨q0, qs, rfl⟩
    have lpos : (0 : Int) < (((q0 :: qs).map V.int).length : Nat) := by simp
    have r0 := Int.emod_nonneg (n + 1) (show (((q0 :: qs).map V.int).length : Int) ≠ 0 by omega)
    have r1 := Int.emod_lt_of_pos (n + 1) lpos
    obtain ⟨cc, hcc⟩ : ∃ cc : Int, atI ((q0 :: qs).map V.int) ((n + 1) % (((q0 :: qs).map V.int).length : Nat)) = some (.int cc) := by
      generalize (n + 1) % ((((q0 :: qs).map V.int).length : Nat) : Int) = u at r0 r1
      rw [List.length_map] at r1
      have lu : u.toNat < (q0 :: qs).length := by omega
      have e := atI_nat (show ((q0 :: qs).map V.int)[u.toNat]? = some (.int ((q0 :: qs)[u.toNat]'lu)) by rw [List.getElem?_map, List.getElem?_eq_getElem lu]; rfl)
      rw [Int.toNat_of_nonneg r0] at e
      exact ⟨_, e⟩
    have mb : ∀ u : Int, -(2 ^ 64) < u % 2147483647 ∧ u % 2147483647 < 2 ^ 64 := fun u => by
      have h0 := Int.emod_nonneg u (show (2147483647 : Int) ≠ 0 by decide)
      have h1 := Int.emod_lt_of_pos u (show (0 : Int) < 2147483647 by decide)
      omega
    refine iteF ⟨_, rfl, _, _, _, _, rfl, rfl, hsq1, at2, ?_⟩
    refine ⟨_, rfl, _, _, _, _, rfl, rfl, hsq1, at3, ?_⟩
    refine ⟨_, rfl, _, _, _, _, rfl, rfl, .of ep1, at0, _, rfl, _, rfl, .inl ⟨_, rfl, _, rfl, pl, _, rfl, .inl (.of ep1), _, _, rfl, rfl, lpos, _, _, _, _, rfl, rfl, .of ep1, hcc, _, _, rfl, rfl, _, rfl, _, _, rfl, rfl, .inl (by decide), _, _, rfl, rfl, _, _, rfl, rfl, _, _, rfl, rfl, .inr ⟨by decide, by decide⟩, .inl ⟨_, rfl, _, _, rfl, rfl, (by show (0 : Int) < 2147483647; decide), ?_⟩⟩⟩
    refine ⟨_, rfl, _, rfl, _, _, rfl, rfl, ⟨(by show (0 : Int) < 1009; decide), (by show (1009 : Int) < 1073741824; decide)⟩, _, _, rfl, rfl, _, _, rfl, rfl, .inl (mb _), .inl ⟨_, rfl, _, _, rfl, rfl, (by show (0 : Int) < 2147483647; decide), ?_⟩⟩
    refine ⟨_, rfl, _, rfl, _, _, rfl, rfl, ⟨(by show (0 : Int) < 2003; decide), (by show (2003 : Int) < 1073741824; decide)⟩, _, _, rfl, rfl, _, _, rfl, rfl, .inl (mb _), .inl ⟨_, rfl, _, _, rfl, rfl, (by show (0 : Int) < 2147483399; decide), ?_⟩⟩
    refine ⟨_, rfl, _, _, rfl, rfl, ⟨(by show (0 : Int) < 16; decide), (by show (16 : Int) < 1073741824; decide)⟩, .inl ⟨_, rfl, _, rfl, _, _, rfl, rfl, (by show (0 : Int) < m; omega), ?_⟩⟩
    exact q _ _ b1.bxA ⟨gs, _, i, n + 1, ea1, el1, ep1, h.ne, h.gs, i0, h.pn, h.ps, by omega⟩ ⟨Int.emod_nonneg _ (by omega), Int.emod_lt_of_pos _ (by omega)⟩
end

end M

set_option Elab.async false
set_option linter.all false
set_option maxRecDepth 100000
set_option maxHeartbeats 2000000
namespace M
open PySem PySem.Spec PyProof.Rows L2

theorem iLet26 {i : Int} (h : 0 ≤ i ∧ i < 26) : atI ("abcdefghijklmnopqrstuvwxyz" : Str).cps.toList i = some (97 + i.toNat) := by
  obtain ⟨k, rfl⟩ : ∃ k : _root_.Fin 26, i = ((k.val : Nat) : Int) := ⟨⟨i.toNat, by omega⟩, by show i = ((i.toNat : Nat) : Int); omega⟩
  revert k
  decide +kernel
theorem iJoin_nil : ∀ ps : List (List Nat), TL.joinL [] ps = ps.flatten
  | [] => rfl
  | [p] => by show p = p ++ []; rw [List.append_nil]
  | p :: q :: r => by
    show p ++ ([] ++ TL.joinL [] (q :: r)) = p ++ (q :: r).flatten
    rw [List.nil_append, iJoin_nil (q :: r)]
theorem iJoin_let {ss : List Str} (h : ∀ s ∈ ss, ∃ c, s = ⟨#[c]⟩ ∧ 97 ≤ c ∧ c ≤ 122) : (TL.tl (Txt.join ("" : Str) ss)).length = ss.length ∧ ∀ c ∈ TL.tl (Txt.join ("" : Str) ss), 97 ≤ c ∧ c ≤ 122 := by
  have e : TL.tl (Txt.join ("" : Str) ss) = (ss.map TL.tl).flatten := by
    have := TL.tl_join ("" : Str) ss
    rw [← TL.join_eq] at this
    rw [← iJoin_nil]
    exact this
  rw [e]
  clear e
  induction ss with
  | nil => exact ⟨rfl, fun c hc => by cases hc⟩
  | cons s r ih =>
    obtain ⟨c, rfl, h1, h2⟩ := h s List.mem_cons_self
    obtain ⟨i1, i2⟩ := ih fun x hx => h x (List.mem_cons_of_mem _ hx)
    have et : TL.tl (⟨#[c]⟩ : Str) = [c] := rfl
    rw [List.map_cons, List.flatten_cons, et]
    refine ⟨by rw [List.length_append, i1]; simp; omega, fun d hd => ?_⟩
    rcases List.mem_append.mp hd with hd | hd
    · rw [List.mem_singleton.mp hd]
      exact ⟨h1, h2⟩
    · exact i2 d hd
theorem iCut_to {z : Str} {k : Nat} : TL.tl (cutS z none (some (k : Int))) = (TL.tl z).take k := by
  unfold cutS
  rw [HT.sIx_none, HT.sIx_nat, List.drop_zero, Nat.sub_zero]
  show (TL.tl z).take (min k z.length) = _
  rw [TL.len_tl]
  by_cases h : k ≤ (TL.tl z).length
  · rw [Nat.min_eq_left h]
  · rw [Nat.min_eq_right (by omega), List.take_of_length_le (Nat.le_refl _), List.take_of_length_le (by omega)]
theorem iCut_from {z : Str} {k : Nat} : TL.tl (cutS z (some (k : Int)) none) = (TL.tl z).drop k := by
  unfold cutS
  rw [HT.sIx_none, HT.sIx_nat]
  show ((TL.tl z).drop (min k z.length)).take (z.length - min k z.length) = _
  rw [TL.len_tl]
  by_cases h : k ≤ (TL.tl z).length
  · rw [Nat.min_eq_left h]
    exact List.take_of_length_le (by rw [List.length_drop]; exact Nat.le_refl _)
  · rw [Nat.min_eq_right (by omega), Nat.sub_self, List.take_zero, List.drop_of_length_le (by omega)]
/-- the letter that was put in at k -/
def markI (k : Nat) (l : List Nat) : Option Nat := if k < l.length then l[k]? else l.getLast?
theorem markI_put (k : Nat) (w : List Nat) (c : Nat) : markI k (w.take k ++ ([c] ++ w.drop k)) = some c := by
  unfold markI
  by_cases h : k ≤ w.length
  · have lt : (w.take k).length = k := by rw [List.length_take]; omega
    rw [if_pos (by rw [List.length_append, List.length_append, lt, List.length_singleton]; omega), List.getElem?_append_right (by omega), lt, Nat.sub_self]
    rfl
  · have e : w.drop k = [] := List.drop_of_length_le (by omega)
    have e2 : w.take k = w := List.take_of_length_le (by omega)
    rw [e, e2, if_neg (by simp; omega)]
    simp
theorem wordI {s : Str} {k c : Nat} (ws : (TL.tl s).length ≤ 7 ∧ ∀ x ∈ TL.tl s, 97 ≤ x ∧ x ≤ 122) (hc : 97 ≤ c ∧ c ≤ 122) : NameOk (cutS s none (some (k : Int)) ++ (⟨#[c]⟩ : Str) ++ cutS s (some (k : Int)) none) ∧ markI k (TL.tl (cutS s none (some (k : Int)) ++ (⟨#[c]⟩ : Str) ++ cutS s (some (k : Int)) none)) = some c := by
  have e : TL.tl (cutS s none (some (k : Int)) ++ (⟨#[c]⟩ : Str) ++ cutS s (some (k : Int)) none) = (TL.tl s).take k ++ ([c] ++ (TL.tl s).drop k) := by
    rw [TL.tl_append, TL.tl_append, iCut_to, iCut_from, List.append_assoc]
  have ll : ((TL.tl s).take k ++ ([c] ++ (TL.tl s).drop k)).length = (TL.tl s).length + 1 := by
    rw [List.length_append, List.length_append, List.length_take, List.length_singleton, List.length_drop]
    omega
  refine ⟨⟨?_, ?_, fun x hx => ?_⟩, by rw [e]; exact markI_put ..⟩
  · rw [TL.len_tl, e, ll]; omega
  · rw [TL.len_tl, e, ll]; omega
  · have hx : x ∈ TL.tl (cutS s none (some (k : Int)) ++ (⟨#[c]⟩ : Str) ++ cutS s (some (k : Int)) none) := hx
    rw [e, List.mem_append, List.mem_append, List.mem_singleton] at hx
    rcases hx with hx | rfl | hx
    · exact ws.2 x (List.mem_of_mem_take hx)
    · exact hc
    · exact ws.2 x (List.mem_of_mem_drop hx)
section
variable {P : Program} {w : World} {K : PySem.W.Frag} {mg : Str → Option Value} {base : Heap}
def spNamesH (K : PySem.W.Frag) : Sp := fun vs H Q _ => ∃ (a l pl : Addr) (m : Int), vs = [.ref a, .int m] ∧ HandAt H a l pl ∧ (1 ≤ m ∧ m ≤ 26) ∧
  ∀ (p : Addr) (ns : List Str) (H' : Hp), Bx a l H H' → HandAt H' a l pl → H p = none → H' p = some (.lst (ns.map .str)) → ns.length = m.toNat → (∀ n ∈ ns, NameOk n) → ns.Nodup → Q (.ref p) H'
theorem ca_l_names (T : Txt w K mg) : Ca P w K mg base 3 "_law_names" (spNamesH K) := by
  refine ca_of (N := ["_law_hand_here", "_law_many", "_law_letters", "_law_at", "_law_first", "_law_names_here", "_law_k", "_law_j", "_law_word"]) (ps := ["_law_hand_here", "_law_many"]) T.f_l_names T.g_law_names ⟨rfl, rfl, rfl, by decide +kernel, rfl, by decide +kernel, by decide +kernel⟩ (fun _ _ _ _ _ _ us hl => match us, hl with | [_, _], _ => rfl)
    (fun vs H Q E h => by obtain ⟨a, l, pl, m, rfl, hb, hm, q⟩ := h; rfl) (fun cdv A outer s H vs Q E hr h => ?_)
  have nd : (["_law_hand_here", "_law_many", "_law_letters", "_law_at", "_law_first", "_law_names_here", "_law_k", "_law_j", "_law_word"] : List Str).Nodup := by decide +kernel
  obtain ⟨a, l, pl, m, rfl, hb, hm, q⟩ := h
  refine ⟨_, (pss_cons (ps_set (i := 2) nd rfl (.inr rfl) pe_str)
      (pss_cons (ps_set (i := 3) nd rfl (.inl rfl) (pe_ca (ca_l_draw T) hr (pa_cons (pv 0) (pa_cons pe_int pa_nil))))
      (pss_cons (ps_set (i := 4) nd rfl (.inl rfl) (pe_ca (ca_l_draw T) hr (pa_cons (pv 0) (pa_cons pe_int pa_nil))))
      (pss_cons (ps_set (i := 5) nd rfl (.inl rfl) (pe_lst pa_nil))
      (pss_cons (ps_for PassesOwn.never rfl (pi_range1 rfl T.b_range (pa_cons (pv 1) pa_nil)) (pg_name (i := 6) nd rfl (.inl rfl)) (pss_cons (ps_set (i := 8) nd rfl (.inl rfl) (pe_join pe_str (pe_lc (own := [("_law_j", 7)]) (tt := tYes) rfl nd (pi_range1 rfl T.b_range (pa_cons (pe_ca (ca_l_draw T) hr (pa_cons (pv 0) (pa_cons pe_int pa_nil))) pa_nil)) (blkOk_by (N := ["_law_hand_here", "_law_many", "_law_letters", "_law_at", "_law_first", "_law_names_here", "_law_k", "_law_j", "_law_word"]) (sc := defScope s_l_names) (by decide +kernel)) (fun _ _ _ _ _ => pg_name (i := 7) nd rfl (.inl rfl)) (fun _ _ _ _ _ => pts_nil) (fun _ _ _ _ _ => pe_ix ix_str (pv 2) (pe_ca (ca_l_draw T) hr (pa_cons (pv 0) (pa_cons pe_int pa_nil))) (fun _ _ => rfl)))))
      (pss_one (ps_expr (pe_bm PySem.F.plainAttrs_list PySem.F.slot_list_append PySem.F.type_list_append mt_append (pv 5) (pa_cons (pe_op op_add_str (pe_op op_add_str (pe_slice sl_str (pv 8) po_none (po_some (pv 3))) (pe_ix ix_str (pv 2) (pe_op op_mod (pe_callTy call_int1 (by rfl) T.b_int boot_int (pa_cons (pe_op op_add (pv 4) (pe_op op_mul pe_int (pv 6))) pa_nil)) pe_int) (fun _ _ => rfl))) (pe_slice sl_str (pv 8) (po_some (pv 3)) po_none)) pa_nil))))))
      (pss_one (ps_ret (pv 5)))))))), ?_⟩
  refine ⟨_, rfl, a, l, pl, 8, rfl, hb, by omega, fun at_ H1 b1 p1 hat_ => ?_⟩
  refine ⟨_, rfl, a, l, pl, 26, rfl, p1, by omega, fun fi H2 b2 p2 hfi => ?_⟩
  refine ⟨(by show 0 ≤ sizeLine; exact Nat.zero_le _), fun p np => ?_⟩
  have b02 := b1.trans b2
  have s3 := same_new (o := .lst []) np
  have ep : upd H2 p (.lst []) p = some (.lst []) := upd_same
  obtain ⟨npa, npl, npp⟩ := hand_ne p2 np
  have p3 := p2.same s3
  have b03 : Bx a l H (upd H2 p (.lst [])) := b02.trans (Same.bx (same_new np))
  have np0 : H p = none := by
    cases e : H p with
    | none => rfl
    | some o => rw [b02 _ _ npa npl e] at np; cases np
  generalize upd H2 p (.lst []) = H3 at ep p3 b03 ⊢
  refine ⟨_, rfl, m, rfl, by omega, by omega, for_it (n := m.toNat) walk_range (fun i σ' H' => ∃ (ns : List Str) (z6 z7 z8 : Option V), σ' = [some (.ref a), some (.int m), some (.str "abcdefghijklmnopqrstuvwxyz"), some (.int at_), some (.int fi), some (.ref p), z6, z7, z8] ∧ Bx a l H H' ∧ HandAt H' a l pl ∧ H' p = some (.lst (ns.map .str)) ∧ ns.length = i ∧ (∀ n ∈ ns, NameOk n) ∧ ∀ (j : Nat) (n : Str), ns[j]? = some n → markI at_.toNat (TL.tl n) = some (97 + ((fi + 7 * (j : Int)) % 26).toNat)) ⟨[], _, _, _, rfl, b03, p3, ep, rfl, (fun n h => nomatch h), fun j n h => by simp at h⟩ (fun _ _ _ _ _ => trivial) ?_ ?_⟩
  · rintro i z σ' Hx H' hi ⟨ns, z6, z7, z8, rfl, b, ph, hp, el, hok, hmk⟩ ⟨rfl, rfl⟩
    have hi26 : i < 26 := by have : i < m.toNat := hi; omega
    refine ⟨⟨_, rfl⟩, _, rfl, a, l, pl, 8, rfl, ph, by omega, fun k J1 c1 q1 hk => ⟨_, rfl, by omega, by omega, fun D nD => ?_⟩⟩
    obtain ⟨nDa, nDl, nDp⟩ := hand_ne q1 nD
    have hp1 := c1 _ _ npa npl hp
    have npD : p ≠ D := ne_of_none hp1 nD
    refine it_any (n := k.toNat) walk_range (fun i' J => ∃ ss : List Str, Bx a l J1 J ∧ HandAt J a l pl ∧ J D = some (.lst (ss.map V.str)) ∧ ss.length = i' ∧ ∀ s ∈ ss, ∃ c, s = ⟨#[c]⟩ ∧ 97 ≤ c ∧ c ≤ 122) ⟨[], Same.bx (same_new nD), q1.same (same_new nD), upd_same, rfl, fun s h => by cases h⟩ (fun _ _ _ _ => trivial) ?_ ?_
    · rintro j z J0 J hj ⟨ss, bj, pj, hD, el', hss⟩ ⟨rfl, rfl⟩
      refine ⟨rfl, _, rfl, _, rfl, a, l, pl, 26, rfl, pj, by omega, fun c J2 b6 p6 hc => ?_⟩
      have hat := iLet26 hc
      have hD2 := b6 _ _ nDa nDl hD
      have bb : But D J2 (upd J2 D (.lst (ss.map V.str ++ [.str ⟨#[97 + c.toNat]⟩]))) := But.upd
      refine ⟨_, c, 97 + c.toNat, rfl, rfl, (by decide +kernel), hat, ss.map V.str, hD2, by rw [List.length_map, sizeLine_eq]; omega, ss ++ [⟨#[97 + c.toNat]⟩], fun b o n1 n2 e => bb _ _ (ne_of_none e nD) (b6 _ _ n1 n2 (bj _ _ n1 n2 e)), p6.but bb ⟨nDa, nDl, nDp⟩, by rw [List.map_append]; exact upd_same, by simp [el'], fun s hs => ?_⟩
      rcases List.mem_append.mp hs with hs | hs
      · exact hss s hs
      · rw [List.mem_singleton.mp hs]
        exact ⟨_, rfl, by omega, by omega⟩
    rintro J3 ⟨ss, bj, pj, hD, el', hss⟩
    obtain ⟨j1, j2⟩ := iJoin_let hss
    have sum1 : ∀ ss : List Str, (∀ s ∈ ss, ∃ c, s = (⟨#[c]⟩ : Str) ∧ 97 ≤ c ∧ c ≤ 122) → (ss.map (·.length)).sum ≤ ss.length := by
      intro ss hss
      induction ss with
      | nil => exact Nat.le_refl _
      | cons s r ih =>
        obtain ⟨c, rfl, _⟩ := hss s List.mem_cons_self
        have := ih fun x hx => hss x (List.mem_cons_of_mem _ hx)
        rw [List.map_cons, List.sum_cons, List.length_cons]
        show 1 + _ ≤ _
        omega
    have e0 : ("" : Str).length = 0 := by decide +kernel
    refine ⟨_, D, ss, rfl, rfl, .inl (.of hD), by have := sum1 ss hss; rw [e0]; omega, ?_⟩
    have wl : (TL.tl (Txt.join ("" : Str) ss)).length ≤ 7 ∧ ∀ x ∈ TL.tl (Txt.join ("" : Str) ss), 97 ≤ x ∧ x ≤ 122 := ⟨by rw [j1]; omega, j2⟩
    generalize Txt.join ("" : Str) ss = wd at wl ⊢
    clear j1 j2 hss hD
    have hp3 := bj _ _ npa npl hp1
    have r0 := Int.emod_nonneg (fi + 7 * (0 + (i : Int))) (show (26 : Int) ≠ 0 by decide)
    have r1 := Int.emod_lt_of_pos (fi + 7 * (0 + (i : Int))) (show (0 : Int) < 26 by decide)
    have hz : wd.length ≤ sizeLine := by have := wl.1; rw [TL.len_tl, sizeLine_eq]; omega
    have eat : ((at_.toNat : Nat) : Int) = at_ := Int.toNat_of_nonneg hat_.1
    have wI := wordI (k := at_.toNat) (c := 97 + ((fi + 7 * (0 + (i : Int))) % 26).toNat) wl (by omega)
    rw [eat] at wI
    refine ⟨_, rfl, .inl ⟨rfl, _, .of hp3⟩, ?_⟩
    have lc := iLet26 (i := (fi + 7 * (0 + (i : Int))) % 26) ⟨r0, r1⟩
    have c1' := cutS_length wd none (some at_)
    have c2' := cutS_length wd (some at_) none
    have lw : wd.length ≤ 7 := by rw [TL.len_tl]; exact wl.1
    have l1 : (⟨#[97 + ((fi + 7 * (0 + (i : Int))) % 26).toNat]⟩ : Str).length = 1 := rfl
    have la : ∀ a b : Str, (a ++ b).length = a.length + b.length := fun a b => by rw [TL.len_tl, TL.tl_append, List.length_append, ← TL.len_tl, ← TL.len_tl]
    refine ⟨_, rfl, ?_⟩
    show tNoPart _ _ _
    unfold tNoPart
    refine ⟨_, rfl, _, rfl, _, rfl, hz, _, rfl, _, rfl, _, rfl, _, _, rfl, rfl, .inl (by decide), _, _, rfl, rfl, .inl ⟨_, rfl, _, _, rfl, rfl, (by show (0 : Int) < 26; decide), _, _, _, rfl, rfl, (by decide +kernel), lc, _, _, rfl, rfl, by rw [l1, sizeLine_eq]; omega, _, rfl, _, rfl, _, rfl, ?_⟩⟩
    refine ⟨_, rfl, hz, _, _, rfl, rfl, by rw [la, l1, sizeLine_eq]; omega, p, _, _, rfl, rfl, hp3, by rw [List.length_map, sizeLine_eq]; omega, ?_⟩
    have bp : But p J3 (upd J3 p (.lst (ns.map V.str ++ [.str (cutS wd none (some at_) ++ (⟨#[97 + ((fi + 7 * (0 + (i : Int))) % 26).toNat]⟩ : Str) ++ cutS wd (some at_) none)]))) := But.upd
    refine ⟨ns ++ [cutS wd none (some at_) ++ (⟨#[97 + ((fi + 7 * (0 + (i : Int))) % 26).toNat]⟩ : Str) ++ cutS wd (some at_) none], _, _, _, rfl, fun b' o n1 n2 e => bp _ _ (ne_of_none e np0) (bj _ _ n1 n2 (c1 _ _ n1 n2 (b _ _ n1 n2 e))), pj.but bp ⟨npa, npl, npp⟩, by rw [List.map_append]; exact upd_same, by simp [el], fun x hx => ?_, fun j x e => ?_⟩
    · rcases List.mem_append.mp hx with h | h
      · exact hok x h
      · rw [List.mem_singleton.mp h]
        exact wI.1
    · by_cases c : j < ns.length
      · rw [List.getElem?_append_left c] at e
        exact hmk j x e
      · have lj := (List.getElem?_eq_some_iff.mp e).1
        rw [List.length_append, List.length_singleton] at lj
        have ej : j = ns.length := by omega
        subst ej
        rw [List.getElem?_append_right (Nat.le_refl _), Nat.sub_self] at e
        cases (Option.some.inj e)
        rw [wI.2, el, Int.zero_add]
  · rintro σ' H' ⟨ns, z6, z7, z8, rfl, b, ph, hp, el, hok, hmk⟩
    refine ⟨_, rfl, q p ns H' b ph np0 hp el hok ?_⟩
    refine List.pairwise_iff_getElem.mpr fun i j hi hj hij e => ?_
    have m1 := hmk i _ (List.getElem?_eq_getElem hi)
    have m2 := hmk j _ (List.getElem?_eq_getElem hj)
    rw [e] at m1
    have z := Option.some.inj (m1.symm.trans m2)
    have hj26 : j < 26 := by omega
    omega
end

end M

set_option Elab.async false
set_option linter.all false
set_option maxRecDepth 100000
set_option maxHeartbeats 2000000
namespace M
open PySem PySem.Spec PyProof.Rows L2

theorem let4 {i : Int} (h : 0 ≤ i ∧ i < 4) : ∃ c, atI ("abcd" : Str).cps.toList i = some c ∧ (⟨#[c]⟩ : Str) ∈ regs4 := by
  have : i = 0 ∨ i = 1 ∨ i = 2 ∨ i = 3 := by omega
  rcases this with rfl | rfl | rfl | rfl
  · exact ⟨97, by decide +kernel, by decide +kernel⟩
  · exact ⟨98, by decide +kernel, by decide +kernel⟩
  · exact ⟨99, by decide +kernel, by decide +kernel⟩
  · exact ⟨100, by decide +kernel, by decide +kernel⟩
theorem sgn5 {i : Int} (h : 0 ≤ i ∧ i < 5) : ∃ c, atI ("+-*=<" : Str).cps.toList i = some c ∧ (⟨#[c]⟩ : Str) ∈ signs := by
  have : i = 0 ∨ i = 1 ∨ i = 2 ∨ i = 3 ∨ i = 4 := by omega
  rcases this with rfl | rfl | rfl | rfl | rfl
  · exact ⟨43, by decide +kernel, by decide +kernel⟩
  · exact ⟨45, by decide +kernel, by decide +kernel⟩
  · exact ⟨42, by decide +kernel, by decide +kernel⟩
  · exact ⟨61, by decide +kernel, by decide +kernel⟩
  · exact ⟨60, by decide +kernel, by decide +kernel⟩
theorem let5h {i : Int} (h : 0 ≤ i ∧ i < 5) : ∃ c, atI ("axbcd" : Str).cps.toList i = some c ∧ (⟨#[c]⟩ : Str) ∈ regs5 := by
  have : i = 0 ∨ i = 1 ∨ i = 2 ∨ i = 3 ∨ i = 4 := by omega
  rcases this with rfl | rfl | rfl | rfl | rfl
  · exact ⟨97, by decide +kernel, by decide +kernel⟩
  · exact ⟨120, by decide +kernel, by decide +kernel⟩
  · exact ⟨98, by decide +kernel, by decide +kernel⟩
  · exact ⟨99, by decide +kernel, by decide +kernel⟩
  · exact ⟨100, by decide +kernel, by decide +kernel⟩
theorem in_x : ("x" : Str) ∈ regs5 := by decide +kernel
section
variable {P : Program} {w : World} {K : PySem.W.Frag} {mg : Str → Option Value} {base : Heap}
def spXprH (K : PySem.W.Frag) (n : Nat) : Sp := fun vs H Q _ => ∃ (a l pl : Addr) (k : Nat), vs = [.ref a, .int (k : Int)] ∧ HandAt H a l pl ∧ k < n ∧ ∀ (v : V) (e : Exp) (H' : Hp), Bx a l H H' → HandAt H' a l pl → e.ok → e.dep ≤ k → Dp K H' v e.d → Q v H'
theorem ca_l_expression : ∀ (n : Nat) (T : Txt w K mg), Ca P w K mg base (n + 2) "_law_expression" (spXprH K n)
  | 0, T => by
    refine ca_of (N := ["_law_hand_here", "_law_depth", "_law_choice", "_law_sign", "_law_one"]) (ps := ["_law_hand_here", "_law_depth"]) T.f_l_expression T.g_law_expression ⟨rfl, rfl, rfl, by decide +kernel, rfl, by decide +kernel, by decide +kernel⟩ (fun _ _ _ _ _ _ us hl => match us, hl with | [_, _], _ => rfl)
      (fun vs H Q E h => by obtain ⟨a, l, pl, k, rfl, hp, hk, q⟩ := h; rfl) (fun cdv A outer s H vs Q E hr h => ?_)
    have nd : (["_law_hand_here", "_law_depth", "_law_choice", "_law_sign", "_law_one"] : List Str).Nodup := by decide +kernel
    obtain ⟨a, l, pl, k, rfl, hp, hk, q⟩ := h
    omega
  | n + 1, T => by
    refine ca_of (N := ["_law_hand_here", "_law_depth", "_law_choice", "_law_sign", "_law_one"]) (ps := ["_law_hand_here", "_law_depth"]) T.f_l_expression T.g_law_expression ⟨rfl, rfl, rfl, by decide +kernel, rfl, by decide +kernel, by decide +kernel⟩ (fun _ _ _ _ _ _ us hl => match us, hl with | [_, _], _ => rfl)
      (fun vs H Q E h => by obtain ⟨a, l, pl, k, rfl, hp, hk, q⟩ := h; rfl) (fun cdv A outer s H vs Q E hr h => ?_)
    have nd : (["_law_hand_here", "_law_depth", "_law_choice", "_law_sign", "_law_one"] : List Str).Nodup := by decide +kernel
    obtain ⟨a, l, pl, k, rfl, hp, hk, q⟩ := h
    refine ⟨_, (pss_cons (ps_set (i := 2) nd rfl (.inl rfl) (pe_ca (ca_l_draw T) hr (pa_cons (pv 0) (pa_cons pe_int pa_nil)) (by omega)))
      (pss_cons (ps_if (PW.pt (pw_or (pt_cmpR op_lt (pv 2) pe_int (nomark _)) (pw_or1 (PW.pt (pw_and (pt_cmpR op_eq (pv 1) pe_int (nomark _)) (pw_and1 (pt_cmpR op_gt (pv 2) pe_int (nomark _)))))))) (pss_one (ps_ret (pe_ca (ca_l_draw T) hr (pa_cons (pv 0) (pa_cons pe_int pa_nil)) (by omega)))) pss_nil)
      (pss_cons (ps_if (pt_cmpR op_lt (pv 2) pe_int (nomark _)) (pss_one (ps_ret (pe_ix ix_str pe_str (pe_ca (ca_l_draw T) hr (pa_cons (pv 0) (pa_cons pe_int pa_nil)) (by omega)) (fun _ _ => rfl)))) pss_nil)
      (pss_cons (ps_set (i := 3) nd rfl (.inl rfl) (pe_ix ix_str pe_str (pe_ca (ca_l_draw T) hr (pa_cons (pv 0) (pa_cons pe_int pa_nil)) (by omega)) (fun _ _ => rfl)))
      (pss_cons (ps_set (i := 4) nd rfl (.inl rfl) (pe_ca (ca_l_expression n T) hr (pa_cons (pv 0) (pa_cons (pe_op op_sub (pv 1) pe_int) pa_nil)) (by omega)))
      (pss_one (ps_ret (pe_tup (pa_cons (pv 3) (pa_cons (pv 4) (pa_cons (pe_ca (ca_l_expression n T) hr (pa_cons (pv 0) (pa_cons (pe_op op_sub (pv 1) pe_int) pa_nil)) (by omega)) pa_nil))))))))))), ?_⟩
    refine (?key : ∀ R : TS, (∀ (c : Int) (H1 : Hp), Bx a l H H1 → HandAt H1 a l pl → (2 ≤ c ∧ c < 7) → (k = 0 → c ≤ 4) → R _ [some (.ref a), some (.int (k : Int)), some (.int c), none, none] H1) → tSeq _ (tSeq _ R) _ _ _) _ ?rest
    case key =>
      intro R hR
      refine ⟨_, rfl, a, l, pl, 7, rfl, hp, by omega, fun c H1 b1 p1 hc => ?_⟩
      have num : ∀ {G : Hp} {σ : L2.St}, Bx a l H G → HandAt G a l pl → σ[0]? = some (some (.ref a)) → tCall spDrawH [] E0 (tCons (tVar 0) (tCons (tC (.int 10)) tNil)) σ G Q := fun b p e => ⟨_, e, a, l, pl, 10, rfl, p, by omega, fun j H2 b2 p2 hj => q _ (.num j) H2 (b.trans b2) p2 (by show 0 ≤ j ∧ j ≤ 9; omega) (Nat.zero_le _) (.int j)⟩
      refine ⟨_, rfl, _, _, rfl, rfl, _, rfl, ?_⟩
      by_cases c2 : c < 2
      · rw [decide_eq_true c2]
        exact iteT (iteT (num b1 p1 rfl))
      rw [decide_eq_false c2]
      refine iteF ⟨_, rfl, rfl, _, rfl, ?_⟩
      by_cases k0 : k = 0
      · rw [decide_eq_true (show V.int (k : Int) = V.int 0 from congrArg V.int (by omega))]
        refine iteT ⟨_, rfl, _, _, rfl, rfl, _, rfl, ?_⟩
        by_cases c4 : 4 < c
        · rw [decide_eq_true c4]
          exact iteT (num b1 p1 rfl)
        · rw [decide_eq_false c4]
          exact iteF (hR c H1 b1 p1 (by omega) (fun _ => by omega))
      · rw [decide_eq_false (show ¬ V.int (k : Int) = V.int 0 from fun z => k0 (by have := V.int.inj z; omega))]
        exact iteF (iteF (hR c H1 b1 p1 (by omega) (fun e => absurd e k0)))
    intro c H1 b1 p1 hc hk0
    refine ⟨_, rfl, _, _, rfl, rfl, _, rfl, ?_⟩
    by_cases c5 : c < 5
    · rw [decide_eq_true c5]
      refine iteT ⟨_, rfl, a, l, pl, 5, rfl, p1, by omega, fun j H2 b2 p2 hj => ?_⟩
      obtain ⟨cd, hcd, hsg⟩ := let5h hj
      exact ⟨_, j, cd, rfl, rfl, (by decide +kernel), hcd, q _ (.reg ⟨#[cd]⟩) H2 (b1.trans b2) p2 hsg (Nat.zero_le _) (.str _)⟩
    rw [decide_eq_false c5]
    have k1 : 1 ≤ k := by
      rcases Nat.eq_zero_or_pos k with e | e
      · have := hk0 e; omega
      · exact e
    have ek : ((k : Nat) : Int) - 1 = ((k - 1 : Nat) : Int) := by omega
    refine iteF ⟨_, rfl, a, l, pl, 5, rfl, p1, by omega, fun j H2 b2 p2 hj => ?_⟩
    obtain ⟨cd, hcd, hsg⟩ := sgn5 hj
    refine ⟨_, j, cd, rfl, rfl, (by decide +kernel), hcd, ?_⟩
    refine ⟨_, rfl, _, rfl, _, _, rfl, rfl, a, l, pl, k - 1, by rw [← ek]; rfl, p2, by omega, fun v1 e1 H3 b3 p3 o1 d1 y1 => ?_⟩
    refine ⟨_, rfl, _, rfl, _, rfl, _, rfl, _, _, rfl, rfl, a, l, pl, k - 1, by rw [← ek]; rfl, p3, by omega, fun v2 e2 H4 b4 p4 o2 d2 y2 => ?_⟩
    refine ⟨(by show 3 ≤ sizeLine; decide), fun t nt => ?_⟩
    have s6 : Same H4 (upd H4 t (.tup [.str ⟨#[cd]⟩, v1, v2])) := same_new nt
    refine q _ (.op ⟨#[cd]⟩ e1 e2) _ ((((b1.trans b2).trans b3).trans b4).trans (Same.bx s6)) (p4.same s6) ⟨hsg, o1, o2⟩ ?_ (.tup (.of upd_same) (.cons (.str _) (.cons (dp_same s6 (dp_hx p3 p4 b4 y1 e1.noL)) (.cons (dp_same s6 y2) .nil))))
    show Nat.max e1.dep e2.dep + 1 ≤ k
    have : Nat.max e1.dep e2.dep ≤ k - 1 := Nat.max_le.mpr ⟨d1, d2⟩
    omega
end

end M

set_option Elab.async false
set_option linter.all false
set_option maxRecDepth 100000
set_option maxHeartbeats 2000000
namespace M
open PySem PySem.Spec PyProof.Rows L2

/-! ### free rows -/
def rB : Nat → Nat
  | 0 => 1
  | d + 1 => 1 + 4 * rB d
theorem rB_pos : ∀ d, 1 ≤ rB d
  | 0 => Nat.le_refl 1
  | d + 1 => Nat.le_add_right 1 _
/-- a row that may stand so deep -/
structure RowH (c : Int) (deep : Nat) (r : Row) : Prop where
  ok : ∀ dp loops, dp + deep ≤ 12 → loops + deep ≤ 2 → r.ok c dp loops
  cc : r.cc = 0
  cl : r.cl ≤ rB deep
theorem rowsD_mapI : ∀ rs : List Row, rowsD rs = rs.map Row.d
  | [] => rfl
  | r :: rs => by
    show r.d :: rowsD rs = _
    rw [rowsD_mapI rs]
    rfl
theorem rowsH_ok {c : Int} {deep : Nat} : ∀ {rs : List Row}, (∀ r ∈ rs, RowH c deep r) → ∀ dp loops, dp + deep ≤ 12 → loops + deep ≤ 2 → rowsOk c dp loops rs
  | [], _, _, _, _, _ => trivial
  | r :: rs, h, dp, loops, h1, h2 => ⟨by omega, (h r List.mem_cons_self).ok dp loops h1 h2, rowsH_ok (fun x hx => h x (List.mem_cons_of_mem _ hx)) dp loops h1 h2⟩
theorem rowsH_cc {c : Int} {deep : Nat} : ∀ {rs : List Row}, (∀ r ∈ rs, RowH c deep r) → rowsCc rs = 0
  | [], _ => rfl
  | r :: rs, h => by
    show r.cc + rowsCc rs = 0
    rw [(h r List.mem_cons_self).cc, rowsH_cc fun x hx => h x (List.mem_cons_of_mem _ hx)]
theorem rowsH_cl {c : Int} {deep : Nat} : ∀ {rs : List Row}, (∀ r ∈ rs, RowH c deep r) → rowsCl rs ≤ rs.length * rB deep
  | [], _ => Nat.zero_le _
  | r :: rs, h => by
    show r.cl + rowsCl rs ≤ (rs.length + 1) * rB deep
    have h1 := (h r List.mem_cons_self).cl
    have h2 := rowsH_cl fun x hx => h x (List.mem_cons_of_mem _ hx)
    rw [Nat.add_mul, Nat.one_mul]
    omega
theorem rowsH_noL {rs : List Row} : ∀ d ∈ rs.map Row.d, NoL d := fun d hd => by
  obtain ⟨r, _, rfl⟩ := List.mem_map.mp hd
  exact r.noL
section
variable {P : Program} {w : World} {K : PySem.W.Frag} {mg : Str → Option Value} {base : Heap}
def spRowH (K : PySem.W.Frag) (n : Nat) : Sp := fun vs H Q _ => ∃ (a l pl : Addr) (c deep : Nat), vs = [.ref a, .int (c : Int), .int (deep : Int)] ∧ HandAt H a l pl ∧ (1 ≤ c ∧ c ≤ 6) ∧ deep < n ∧ deep ≤ 2 ∧ ∀ (v : V) (r : Row) (H' : Hp), Bx a l H H' → HandAt H' a l pl → Dp K H' v r.d → RowH c deep r → Q v H'
def spRowsH (K : PySem.W.Frag) (n : Nat) : Sp := fun vs H Q _ => ∃ (a l pl : Addr) (c deep lim : Nat), vs = [.ref a, .int (c : Int), .int (deep : Int), .int (lim : Int)] ∧ HandAt H a l pl ∧ (1 ≤ c ∧ c ≤ 6) ∧ deep < n ∧ deep ≤ 2 ∧ lim ≤ 100 ∧ ∀ (v : V) (rs : List Row) (H' : Hp), Bx a l H H' → HandAt H' a l pl → Dp K H' v (.tuple (rowsD rs)) → rs.length ≤ lim → (∀ r ∈ rs, RowH c deep r) → Q v H'
theorem ca_l_rowH1 {n : Nat} (R : Ca P w K mg base (2 * n + 5) "_law_rows" (spRowsH K n)) (T : Txt w K mg) : Ca P w K mg base (2 * n + 6) "_law_row" (spRowH K (n + 1)) := by
    refine ca_of (N := ["_law_hand_here", "_law_width", "_law_depth", "_law_kind", "_law_cell", "_law_reg", "_law_one", "_law_then"]) (ps := ["_law_hand_here", "_law_width", "_law_depth"]) T.f_l_row T.g_law_row ⟨rfl, rfl, rfl, by decide +kernel, rfl, by decide +kernel, by decide +kernel⟩ (fun _ _ _ _ _ _ us hl => match us, hl with | [_, _, _], _ => rfl)
      (fun vs H Q E h => by obtain ⟨a, l, pl, c, deep, rfl, hp, hc, hn, hd, q⟩ := h; rfl) (fun cdv A outer s H vs Q E hr h => ?_)
    have nd : (["_law_hand_here", "_law_width", "_law_depth", "_law_kind", "_law_cell", "_law_reg", "_law_one", "_law_then"] : List Str).Nodup := by decide +kernel
    obtain ⟨a, l, pl, c, deep, rfl, hp, hc, hn, hd, q⟩ := h
    refine ⟨_, (pss_cons (ps_set (i := 3) nd rfl (.inl rfl) (pe_ca (ca_l_draw T) hr (pa_cons (pv 0) (pa_cons pe_int pa_nil)) (by omega)))
      (pss_cons (ps_set (i := 4) nd rfl (.inl rfl) (pe_ca (ca_l_draw T) hr (pa_cons (pv 0) (pa_cons (pv 1) pa_nil)) (by omega)))
      (pss_cons (ps_set (i := 5) nd rfl (.inl rfl) (pe_ix ix_str pe_str (pe_ca (ca_l_draw T) hr (pa_cons (pv 0) (pa_cons pe_int pa_nil)) (by omega)) (fun _ _ => rfl)))
      (pss_cons (ps_if (PW.pt (pw_or (pt_cmpR op_lt (pv 3) pe_int (nomark _)) (pw_or1 (PW.pt (pw_and (pt_cmpR op_eq (pv 2) pe_int (nomark _)) (pw_and1 (pt_cmpR op_eq (pv 3) pe_int (nomark _)))))))) (pss_one (ps_ret (pe_tup (pa_cons pe_str (pa_cons (pv 5) (pa_cons (pv 4) pa_nil)))))) pss_nil)
      (pss_cons (ps_set (i := 6) nd rfl (.inl rfl) (pe_ca (ca_l_expression 3 T) hr (pa_cons (pv 0) (pa_cons pe_int pa_nil)) (by omega)))
      (pss_cons (ps_if (PW.pt (pw_or (pt_cmpR op_lt (pv 3) pe_int (nomark _)) (pw_or1 (PW.pt (pw_and (pt_cmpR op_eq (pv 2) pe_int (nomark _)) (pw_and1 (pt_cmpR op_eq (pv 3) pe_int (nomark _)))))))) (pss_one (ps_ret (pe_tup (pa_cons pe_str (pa_cons (pv 4) (pa_cons (pv 6) pa_nil)))))) pss_nil)
      (pss_cons (ps_if (pt_cmpR op_eq (pv 3) pe_int (nomark _)) (pss_one (ps_ret (pe_tup (pa_cons pe_str (pa_cons (pv 5) (pa_cons (pv 4) (pa_cons (pv 6) (pa_cons (pe_ca (ca_l_expression 3 T) hr (pa_cons (pv 0) (pa_cons pe_int pa_nil)) (by omega)) pa_nil)))))))) pss_nil)
      (pss_cons (ps_if (pt_cmpR op_eq (pv 3) pe_int (nomark _)) (pss_one (ps_ret (pe_tup (pa_cons pe_str (pa_cons (pv 5) (pa_cons (pv 6) pa_nil)))))) pss_nil)
      (pss_cons (ps_if (pt_cmpR op_eq (pv 3) pe_int (nomark _)) (pss_one (ps_ret (pe_tup (pa_cons pe_str (pa_cons (pv 6) pa_nil))))) pss_nil)
      (pss_cons (ps_set (i := 7) nd rfl (.inl rfl) (pe_ca R hr (pa_cons (pv 0) (pa_cons (pv 1) (pa_cons (pe_op op_sub (pv 2) pe_int) (pa_cons pe_int pa_nil)))) (by omega)))
      (pss_cons (ps_if (pt_cmpR op_eq (pv 3) pe_int (nomark _)) (pss_one (ps_ret (pe_tup (pa_cons pe_str (pa_cons (pv 6) (pa_cons (pv 7) (pa_cons (pe_ca R hr (pa_cons (pv 0) (pa_cons (pv 1) (pa_cons (pe_op op_sub (pv 2) pe_int) (pa_cons pe_int pa_nil)))) (by omega)) pa_nil))))))) pss_nil)
      (pss_one (ps_ret (pe_tup (pa_cons pe_str (pa_cons (pe_ix ix_list (pe_lst (pa_cons pe_int (pa_cons pe_int (pa_cons pe_int (pa_cons pe_int (pa_cons pe_str pa_nil)))))) (pe_ca (ca_l_draw T) hr (pa_cons (pv 0) (pa_cons pe_int pa_nil)) (by omega)) (fun _ _ => rfl)) (pa_cons (pv 7) pa_nil))))))))))))))))), ?_⟩
    have one : ∀ r : Row, r.cc = 0 → (∀ dp loops, dp + deep ≤ 12 → loops + deep ≤ 2 → r.ok c dp loops) → r.cl = 1 → RowH c deep r := fun r h1 h2 h3 => ⟨h2, h1, by rw [h3]; exact rB_pos deep⟩
    refine (?key : ∀ R : TS, (∀ (k ci : Int) (cd : Nat) (H1 : Hp), Bx a l H H1 → HandAt H1 a l pl → (2 ≤ k ∧ k < 9) → (deep = 0 → k ≠ 7) → (0 ≤ ci ∧ ci < c) → (⟨#[cd]⟩ : Str) ∈ regs4 → R _ [some (.ref a), some (.int (c : Int)), some (.int (deep : Int)), some (.int k), some (.int ci), some (.str ⟨#[cd]⟩), none, none] H1) → tSeq _ (tSeq _ (tSeq _ (tSeq _ R))) _ _ _) _ ?rest
    case key =>
      intro R hR
      refine ⟨_, rfl, a, l, pl, 9, rfl, hp, by omega, fun k H1 b1 p1 hk => ?_⟩
      refine ⟨_, rfl, _, rfl, a, l, pl, (c : Int), rfl, p1, by omega, fun ci H2 b2 p2 hci => ?_⟩
      refine ⟨_, rfl, a, l, pl, 4, rfl, p2, by omega, fun ri H3 b3 p3 hri => ?_⟩
      obtain ⟨cd, hcd, hreg⟩ := let4 hri
      refine ⟨_, ri, cd, rfl, rfl, (by decide +kernel), hcd, ?_⟩
      have b13 := (b1.trans b2).trans b3
      have rd : ∀ t, H3 t = none → Q (.ref t) (upd H3 t (.tup [.str "read", .str ⟨#[cd]⟩, .int ci])) := fun t nt => q _ (.read ⟨#[cd]⟩ ci) _ (b13.trans (Same.bx (same_new nt))) (p3.same (same_new nt)) (.tup (.of upd_same) (.cons (.str _) (.cons (.str _) (.cons (.int _) .nil)))) (one _ rfl (fun _ _ _ _ => ⟨hreg, hci⟩) rfl)
      refine ⟨_, rfl, _, _, rfl, rfl, _, rfl, ?_⟩
      by_cases k2 : k < 2
      · rw [decide_eq_true k2]
        exact iteT (iteT ⟨_, rfl, _, rfl, (by show 3 ≤ sizeLine; decide), rd⟩)
      rw [decide_eq_false k2]
      refine iteF ⟨_, rfl, rfl, _, rfl, ?_⟩
      by_cases d0 : deep = 0
      · rw [decide_eq_true (show V.int (deep : Int) = V.int 0 from congrArg V.int (by omega))]
        refine iteT ⟨_, rfl, rfl, _, rfl, ?_⟩
        by_cases k7 : k = 7
        · rw [decide_eq_true (show V.int k = V.int 7 from congrArg V.int k7)]
          exact iteT ⟨_, rfl, _, rfl, (by show 3 ≤ sizeLine; decide), rd⟩
        · rw [decide_eq_false (show ¬ V.int k = V.int 7 from fun z => k7 (V.int.inj z))]
          exact iteF (hR k ci cd H3 b13 p3 (by omega) (fun _ => k7) hci hreg)
      · rw [decide_eq_false (show ¬ V.int (deep : Int) = V.int 0 from fun z => d0 (by have := V.int.inj z; omega))]
        exact iteF (iteF (hR k ci cd H3 b13 p3 (by omega) (fun e => absurd e d0) hci hreg))
    intro k ci cd H1 b1 p1 hk hk7 hci hreg
    refine (?key2 : ∀ R : TS, (∀ (ev : V) (e : Exp) (H2 : Hp), Bx a l H H2 → HandAt H2 a l pl → e.good → Dp K H2 ev e.d → (4 ≤ k ∧ k < 9) → (deep = 0 → k ≠ 8) → R _ [some (.ref a), some (.int (c : Int)), some (.int (deep : Int)), some (.int k), some (.int ci), some (.str ⟨#[cd]⟩), some ev, none] H2) → tSeq _ (tSeq _ R) _ _ _) _ ?rest2
    case key2 =>
      intro R hR
      refine ⟨_, rfl, a, l, pl, 2, rfl, p1, by omega, fun ev e H2 b2 p2 eo ed de => ?_⟩
      have b12 := b1.trans b2
      have ge : e.good := ⟨eo, by omega⟩
      have st : ∀ t, H2 t = none → Q (.ref t) (upd H2 t (.tup [.str "set", .int ci, ev])) := fun t nt => q _ (.set ci e) _ (b12.trans (Same.bx (same_new nt))) (p2.same (same_new nt)) (.tup (.of upd_same) (.cons (.str _) (.cons (.int _) (.cons (dp_same (same_new nt) de) .nil)))) (one _ rfl (fun _ _ _ _ => ⟨hci, ge⟩) rfl)
      refine ⟨_, rfl, _, _, rfl, rfl, _, rfl, ?_⟩
      by_cases k4 : k < 4
      · rw [decide_eq_true k4]
        exact iteT (iteT ⟨_, rfl, _, rfl, (by show 3 ≤ sizeLine; decide), st⟩)
      rw [decide_eq_false k4]
      refine iteF ⟨_, rfl, rfl, _, rfl, ?_⟩
      by_cases d0 : deep = 0
      · rw [decide_eq_true (show V.int (deep : Int) = V.int 0 from congrArg V.int (by omega))]
        refine iteT ⟨_, rfl, rfl, _, rfl, ?_⟩
        by_cases k8 : k = 8
        · rw [decide_eq_true (show V.int k = V.int 8 from congrArg V.int k8)]
          exact iteT ⟨_, rfl, _, rfl, (by show 3 ≤ sizeLine; decide), st⟩
        · rw [decide_eq_false (show ¬ V.int k = V.int 8 from fun z => k8 (V.int.inj z))]
          exact iteF (hR ev e H2 b12 p2 ge de (by omega) (fun _ => k8))
      · rw [decide_eq_false (show ¬ V.int (deep : Int) = V.int 0 from fun z => d0 (by have := V.int.inj z; omega))]
        exact iteF (iteF (hR ev e H2 b12 p2 ge de (by omega) (fun e => absurd e d0)))
    intro ev e H2 b2 p2 ge de hk4 hk8
    refine ⟨_, rfl, rfl, _, rfl, ?_⟩
    by_cases k4 : k = 4
    · rw [decide_eq_true (show V.int k = V.int 4 from congrArg V.int k4)]
      refine iteT ⟨_, rfl, _, rfl, _, rfl, _, rfl, a, l, pl, 1, rfl, p2, by omega, fun fv f H3 b3 p3 fo fd df => ⟨(by show 5 ≤ sizeLine; decide), fun t nt => ?_⟩⟩
      have s4 := same_new (o := .tup [.str "swap", .str ⟨#[cd]⟩, .int ci, ev, fv]) nt
      exact q _ (.swap ⟨#[cd]⟩ ci e f) _ ((b2.trans b3).trans (Same.bx s4)) (p3.same s4) (.tup (.of upd_same) (.cons (.str _) (.cons (.str _) (.cons (.int _) (.cons (dp_same s4 (dp_hx p2 p3 b3 de e.noL)) (.cons (dp_same s4 df) .nil)))))) (one _ rfl (fun _ _ _ _ => ⟨hreg, hci, ge, fo, by omega⟩) rfl)
    rw [decide_eq_false (show ¬ V.int k = V.int 4 from fun z => k4 (V.int.inj z))]
    refine iteF ⟨_, rfl, rfl, _, rfl, ?_⟩
    by_cases k5 : k = 5
    · rw [decide_eq_true (show V.int k = V.int 5 from congrArg V.int k5)]
      refine iteT ⟨_, rfl, _, rfl, (by show 3 ≤ sizeLine; decide), fun t nt => ?_⟩
      have s4 := same_new (o := .tup [.str "keep", .str ⟨#[cd]⟩, ev]) nt
      exact q _ (.keep ⟨#[cd]⟩ e) _ (b2.trans (Same.bx s4)) (p2.same s4) (.tup (.of upd_same) (.cons (.str _) (.cons (.str _) (.cons (dp_same s4 de) .nil)))) (one _ rfl (fun _ _ _ _ => ⟨hreg, ge⟩) rfl)
    rw [decide_eq_false (show ¬ V.int k = V.int 5 from fun z => k5 (V.int.inj z))]
    refine iteF ⟨_, rfl, rfl, _, rfl, ?_⟩
    by_cases k6 : k = 6
    · rw [decide_eq_true (show V.int k = V.int 6 from congrArg V.int k6)]
      refine iteT ⟨_, rfl, (by show 2 ≤ sizeLine; decide), fun t nt => ?_⟩
      have s4 := same_new (o := .tup [.str "answer", ev]) nt
      exact q _ (.ans e) _ (b2.trans (Same.bx s4)) (p2.same s4) (.tup (.of upd_same) (.cons (.str _) (.cons (dp_same s4 de) .nil))) (one _ rfl (fun _ _ _ _ => ge) rfl)
    rw [decide_eq_false (show ¬ V.int k = V.int 6 from fun z => k6 (V.int.inj z))]
    have d1 : 1 ≤ deep := by
      rcases Nat.eq_zero_or_pos deep with e0 | e0
      · have h7 := hk7 e0
        have h8 := hk8 e0
        omega
      · exact e0
    obtain ⟨m, rfl⟩ : ∃ m, deep = m + 1 := ⟨deep - 1, by omega⟩
    have em : ((m + 1 : Nat) : Int) - 1 = ((m : Nat) : Int) := by omega
    have eB : rB (m + 1) = 1 + 4 * rB m := rfl
    refine iteF ⟨_, rfl, _, rfl, _, rfl, _, _, rfl, rfl, a, l, pl, c, m, 2, by rw [← em]; rfl, p2, hc, by omega, by omega, by decide, fun v1 r1 H3 b3 p3 dv1 l1 hr1 => ?_⟩
    have de3 := dp_hx p2 p3 b3 de e.noL
    have b13 := b2.trans b3
    refine ⟨_, rfl, rfl, _, rfl, ?_⟩
    by_cases k7 : k = 7
    · rw [decide_eq_true (show V.int k = V.int 7 from congrArg V.int k7)]
      refine iteT ⟨_, rfl, _, rfl, _, rfl, _, rfl, _, rfl, _, _, rfl, rfl, a, l, pl, c, m, 2, by rw [← em]; rfl, p3, hc, by omega, by omega, by decide, fun v2 r2 H4 b4 p4 dv2 l2 hr2 => ⟨(by show 4 ≤ sizeLine; decide), fun t nt => ?_⟩⟩
      have s5 := same_new (o := .tup [.str "if", ev, v1, v2]) nt
      have n1 : NoL (.tuple (rowsD r1)) := .tup (by rw [rowsD_mapI]; exact rowsH_noL)
      refine q _ (.iff e r1 r2) _ ((b13.trans b4).trans (Same.bx s5)) (p4.same s5) (.tup (.of upd_same) (.cons (.str _) (.cons (dp_same s5 (dp_hx p3 p4 b4 de3 e.noL)) (.cons (dp_same s5 (dp_hx p3 p4 b4 dv1 n1)) (.cons (dp_same s5 dv2) .nil))))) ⟨fun dp loops h1 h2 => ⟨ge, rowsH_ok hr1 _ _ (by omega) (by omega), rowsH_ok hr2 _ _ (by omega) (by omega)⟩, ?_, ?_⟩
      · show rowsCc r1 + rowsCc r2 = 0
        rw [rowsH_cc hr1, rowsH_cc hr2]
      · show 1 + (rowsCl r1 + rowsCl r2) ≤ rB (m + 1)
        have h1 := Nat.le_trans (rowsH_cl hr1) (Nat.mul_le_mul_right _ l1)
        have h2 := Nat.le_trans (rowsH_cl hr2) (Nat.mul_le_mul_right _ l2)
        omega
    rw [decide_eq_false (show ¬ V.int k = V.int 7 from fun z => k7 (V.int.inj z))]
    refine iteF ⟨(by show 5 ≤ sizeLine; decide), fun L nL => ?_⟩
    have s4 := same_new (o := .lst [.int 0, .int 1, .int 2, .int 3, .str "x"]) nL
    have eL : upd H3 L (.lst [.int 0, .int 1, .int 2, .int 3, .str "x"]) L = some (.lst [.int 0, .int 1, .int 2, .int 3, .str "x"]) := upd_same
    obtain ⟨nLa, nLl, nLp⟩ := hand_ne p3 nL
    have p4 := p3.same s4
    generalize upd H3 L (.lst [.int 0, .int 1, .int 2, .int 3, .str "x"]) = H4 at s4 eL p4 ⊢
    refine ⟨_, rfl, a, l, pl, 5, rfl, p4, by omega, fun j H5 b5 p5 hj => ?_⟩
    have eL5 := b5 _ _ nLa nLl eL
    obtain ⟨xv, xe, hx1, hx2, hx3⟩ : ∃ (xv : V) (xe : Exp), atI [V.int 0, .int 1, .int 2, .int 3, .str "x"] j = some xv ∧ (∀ G, Dp K G xv xe.d) ∧ xe.good := by
      have : j = 0 ∨ j = 1 ∨ j = 2 ∨ j = 3 ∨ j = 4 := by omega
      rcases this with rfl | rfl | rfl | rfl | rfl
      · exact ⟨_, .num 0, at0, fun G => .int _, ⟨⟨by decide, by decide⟩, Nat.zero_le _⟩⟩
      · exact ⟨_, .num 1, at1, fun G => .int _, ⟨⟨by decide, by decide⟩, Nat.zero_le _⟩⟩
      · exact ⟨_, .num 2, at2, fun G => .int _, ⟨⟨by decide, by decide⟩, Nat.zero_le _⟩⟩
      · exact ⟨_, .num 3, at3, fun G => .int _, ⟨⟨by decide, by decide⟩, Nat.zero_le _⟩⟩
      · exact ⟨_, .reg "x", atI_nat (j := 4) rfl, fun G => .str _, ⟨in_x, Nat.zero_le _⟩⟩
    refine ⟨L, _, _, _, rfl, rfl, .of eL5, hx1, _, rfl, (by show 3 ≤ sizeLine; decide), fun t nt => ?_⟩
    have s6 := same_new (o := .tup [.str "times", xv, v1]) nt
    have n1 : NoL (.tuple (rowsD r1)) := .tup (by rw [rowsD_mapI]; exact rowsH_noL)
    have b35 : Bx a l H3 H5 := (Same.bx s4).trans b5
    refine q _ (.times xe r1) _ ((b13.trans b35).trans (Same.bx s6)) (p5.same s6) (.tup (.of upd_same) (.cons (.str _) (.cons (hx2 _) (.cons (dp_same s6 (dp_hx p3 p5 b35 dv1 n1)) .nil)))) ⟨fun dp loops h1 h2 => ⟨hx3, by omega, rowsH_ok hr1 _ _ (by omega) (by omega)⟩, rowsH_cc hr1, ?_⟩
    show 1 + rowsCl r1 ≤ rB (m + 1)
    have h1 := Nat.le_trans (rowsH_cl hr1) (Nat.mul_le_mul_right _ l1)
    omega
theorem ca_l_rowsH1 {n : Nat} (R : Ca P w K mg base (2 * n + 6) "_law_row" (spRowH K (n + 1))) (T : Txt w K mg) : Ca P w K mg base (2 * n + 7) "_law_rows" (spRowsH K (n + 1)) := by
    refine ca_of (N := ["_law_hand_here", "_law_width", "_law_depth", "_law_limit", "_law_k"]) (ps := ["_law_hand_here", "_law_width", "_law_depth", "_law_limit"]) T.f_l_rows T.g_law_rows ⟨rfl, rfl, rfl, by decide +kernel, rfl, by decide +kernel, by decide +kernel⟩ (fun _ _ _ _ _ _ us hl => match us, hl with | [_, _, _, _], _ => rfl)
      (fun vs H Q E h => by obtain ⟨a, l, pl, c, deep, lim, rfl, hp, hc, hn, hd, hlim, q⟩ := h; rfl) (fun cdv A outer s H vs Q E hr h => ?_)
    have nd : (["_law_hand_here", "_law_width", "_law_depth", "_law_limit", "_law_k"] : List Str).Nodup := by decide +kernel
    obtain ⟨a, l, pl, c, deep, lim, rfl, hp, hc, hn, hd, hlim, q⟩ := h
    refine ⟨_, (pss_one (ps_ret (pe_tupleOf (by rfl) T.b_tuple (pe_lc (own := [("_law_k", 4)]) (tt := tYes) rfl nd (pi_range1 rfl T.b_range (pa_cons (pe_ca (ca_l_draw T) hr (pa_cons (pv 0) (pa_cons (pe_op op_add (pv 3) pe_int) pa_nil)) (by omega)) pa_nil)) (blkOk_by (N := ["_law_hand_here", "_law_width", "_law_depth", "_law_limit", "_law_k"]) (sc := defScope s_l_rows) (by decide +kernel)) (fun _ _ _ _ _ => pg_name (i := 4) nd rfl (.inl rfl)) (fun _ _ _ _ _ => pts_nil) (fun _ _ _ _ _ => pe_ca R hr (pa_cons (pv 0) (pa_cons (pv 1) (pa_cons (pv 2) pa_nil))) (by omega)))))), ?_⟩
    refine ⟨_, rfl, _, rfl, _, _, rfl, rfl, a, l, pl, (lim : Int) + 1, rfl, hp, by omega, fun m H1 b1 p1 hm => ⟨_, rfl, by omega, by omega, fun D nD => ?_⟩⟩
    obtain ⟨nDa, nDl, nDp⟩ := hand_ne p1 nD
    refine it_any (n := m.toNat) walk_range (fun i J => ∃ (ys : List V) (rs : List Row), Bx a l H1 J ∧ HandAt J a l pl ∧ J D = some (.lst ys) ∧ DpAll K J ys (rs.map Row.d) ∧ rs.length = i ∧ ∀ r ∈ rs, RowH c deep r) ⟨[], [], Same.bx (same_new nD), p1.same (same_new nD), upd_same, .nil, rfl, fun s h => by cases h⟩ (fun _ _ _ _ => trivial) ?_ ?_
    · rintro j z J0 J hj ⟨ys, rs, bj, pj, hD, hys, el, hrs⟩ ⟨rfl, rfl⟩
      refine ⟨rfl, _, rfl, _, rfl, _, rfl, a, l, pl, c, deep, rfl, pj, hc, hn, hd, fun v r J2 b6 p6 dv hr' => ?_⟩
      have hD2 := b6 _ _ nDa nDl hD
      have bb : But D J2 (upd J2 D (.lst (ys ++ [v]))) := But.upd
      have lys : ys.length = rs.length := by rw [dps_len hys, List.length_map]
      refine ⟨ys, hD2, by rw [sizeLine_eq]; omega, ys ++ [v], rs ++ [r], fun b o n1 n2 e => bb _ _ (ne_of_none e nD) (b6 _ _ n1 n2 (bj _ _ n1 n2 e)), p6.but bb ⟨nDa, nDl, nDp⟩, upd_same, ?_, by simp [el], fun x hx => ?_⟩
      · rw [List.map_append]
        exact dps_app (dps_but (.lst hD2) bb (dps_hx pj p6 b6 hys rowsH_noL) rowsH_noL) (.cons (dp_but (.lst hD2) bb dv r.noL) .nil)
      · rcases List.mem_append.mp hx with h | h
        · exact hrs x h
        · rw [List.mem_singleton.mp h]
          exact hr'
    rintro J3 ⟨ys, rs, bj, pj, hD, hys, el, hrs⟩
    refine .inl ⟨D, _, rfl, .of hD, fun st nst => ?_⟩
    have s4 := same_new (o := .tup ys) nst
    exact q _ rs _ ((b1.trans bj).trans (Same.bx s4)) (pj.same s4) (by rw [rowsD_mapI]; exact .tup (.of upd_same) (dps_same s4 hys)) (by omega) hrs
theorem ca_l_rowsH0 (T : Txt w K mg) : Ca P w K mg base 5 "_law_rows" (spRowsH K 0) := by
    refine ca_of (N := ["_law_hand_here", "_law_width", "_law_depth", "_law_limit", "_law_k"]) (ps := ["_law_hand_here", "_law_width", "_law_depth", "_law_limit"]) T.f_l_rows T.g_law_rows ⟨rfl, rfl, rfl, by decide +kernel, rfl, by decide +kernel, by decide +kernel⟩ (fun _ _ _ _ _ _ us hl => match us, hl with | [_, _, _, _], _ => rfl)
      (fun vs H Q E h => by obtain ⟨a, l, pl, c, deep, lim, rfl, hp, hc, hn, hd, hlim, q⟩ := h; rfl) (fun cdv A outer s H vs Q E hr h => ?_)
    have nd : (["_law_hand_here", "_law_width", "_law_depth", "_law_limit", "_law_k"] : List Str).Nodup := by decide +kernel
    obtain ⟨a, l, pl, c, deep, lim, rfl, hp, hc, hn, hd, hlim, q⟩ := h
    omega
theorem ca_l_rowsH (T : Txt w K mg) : ∀ n, Ca P w K mg base (2 * n + 5) "_law_rows" (spRowsH K n)
  | 0 => ca_l_rowsH0 T
  | n + 1 => ca_l_rowsH1 (ca_l_rowH1 (ca_l_rowsH T n) T) T
end

end M

set_option Elab.async false
set_option linter.all false
set_option maxRecDepth 100000
set_option maxHeartbeats 2000000
namespace M
open PySem PySem.Spec PyProof.Rows L2

/-! ### displays of data that hang on what was drawn -/
section
variable {X : Cx} {K : PySem.W.Frag} {γ : Type} {C : γ → L2.St → Hp → Prop} {D : γ → PyData} {Ds : γ → List PyData} {e : Expr} {es : List Expr} {pos : Pos}
def Stg (C : γ → L2.St → Hp → Prop) : Prop := ∀ g σ H H', Same H H' → C g σ H → C g σ H'
def tGc (K : PySem.W.Frag) (C : γ → L2.St → Hp → Prop) (D : γ → PyData) : TE := fun σ H Q => ∃ g, C g σ H ∧ ∀ v H', Same H H' → Dp K H' v (D g) → Q v H'
def tGs (K : PySem.W.Frag) (C : γ → L2.St → Hp → Prop) (Ds : γ → List PyData) : TA := fun σ H Q => ∃ g, C g σ H ∧ ∀ vs H', Same H H' → DpAll K H' vs (Ds g) → Q vs H'
theorem pa_impG {t t' : TA} (h : PA X es t) (i : ∀ σ H Q, t' σ H Q → t σ H Q) : PA X es t' := ⟨fun pos pins s σ H Q I q => h.run pos pins s σ H Q I (i σ H Q q)⟩
theorem gd_str {x : Str} {j : Nat} : PE X (.Constant (.str x) j pos) (tGc K C fun _ => .str x) := pe_imp pe_str fun σ H Q ⟨_, _, q⟩ => q _ H (Same.refl _) (.str _)
theorem gd_int {x : Int} {j : Nat} : PE X (.Constant (.int x) j pos) (tGc K C fun _ => .int x) := pe_imp pe_int fun σ H Q ⟨_, _, q⟩ => q _ H (Same.refl _) (.int _)
theorem gd_nil : PA X [] (tGs K C fun _ => []) := pa_impG pa_nil fun σ H Q ⟨_, _, q⟩ => q [] H (Same.refl _) .nil
theorem gd_cons (hC : Stg C) (he : PE X e (tGc K C D)) (ht : PA X es (tGs K C Ds)) (hs : starEach (e :: es) X.env = (false, eval e X.env) :: starEach es X.env := by rfl) : PA X (e :: es) (tGs K C fun g => D g :: Ds g) :=
  pa_impG (pa_cons he ht hs) fun σ H Q ⟨g, c, q⟩ => ⟨g, c, fun v H1 s1 dv => ⟨g, hC _ _ _ _ s1 c, fun vs H2 s2 dvs => q _ H2 (s1.trans s2) (.cons (dp_same s2 dv) dvs)⟩⟩
theorem gd_tup {n : Nat} (h : PA X es (tGs K C Ds)) (hl : ∀ g, (Ds g).length ≤ 100 := by intro _; exact Nat.le_of_ble_eq_true rfl) : PE X (.Tuple es n pos) (tGc K C fun g => .tuple (Ds g)) :=
  pe_imp (pe_tup h) fun σ H Q ⟨g, c, q⟩ => ⟨g, c, fun vs H1 s1 dvs => ⟨by have := hl g; rw [dps_len dvs, sizeLine_eq]; omega, fun t nt => q _ _ (s1.trans (same_new nt)) (.tup (.of upd_same) (dps_same (same_new nt) dvs))⟩⟩
theorem gd_of {t : TE} (h : PE X e t) (k : ∀ g σ H, C g σ H → ∀ Q : VK, (∀ v H', Same H H' → Dp K H' v (D g) → Q v H') → t σ H Q) : PE X e (tGc K C D) := pe_imp h fun σ H Q ⟨g, c, q⟩ => k g σ H c Q q
end
theorem zeros_h {c : Nat} : ∀ js : List Nat, (∀ j ∈ js, j < c) → rowsOk c 1 0 (js.map fun j => Row.set ((j : Nat) : Int) (.num 0)) ∧ rowsCc (js.map fun j => Row.set ((j : Nat) : Int) (.num 0)) = 0 ∧ rowsCl (js.map fun j => Row.set ((j : Nat) : Int) (.num 0)) = js.length
  | [], _ => ⟨trivial, rfl, rfl⟩
  | j :: js, h => by
    obtain ⟨h1, h2, h3⟩ := zeros_h js fun x hx => h x (List.mem_cons_of_mem _ hx)
    have hj := h j List.mem_cons_self
    refine ⟨⟨by decide, ⟨⟨Int.natCast_nonneg _, by omega⟩, ⟨⟨by decide, by decide⟩, Nat.zero_le _⟩⟩, h1⟩, ?_, ?_⟩
    · show 0 + rowsCc _ = 0
      rw [h2]
    · show 1 + rowsCl _ = js.length + 1
      rw [h3, Nat.add_comm]
theorem bod_noL (rs : List Row) : NoL (.tuple (rowsD rs)) := .tup (by rw [rowsD_mapI]; exact rowsH_noL)
section
variable {P : Program} {w : World} {K : PySem.W.Frag} {mg : Str → Option Value} {base : Heap}
/-- what a drawn body is -/
structure BodH (c : Nat) (rs : List Row) : Prop where
  ok : rowsOk c 1 0 rs
  cc : rowsCc rs = 0
  cl : rowsCl rs ≤ 2000
def spBodyH (K : PySem.W.Frag) : Sp := fun vs H Q _ => ∃ (a l pl : Addr) (c : Nat), vs = [.ref a, .int (c : Int)] ∧ HandAt H a l pl ∧ (1 ≤ c ∧ c ≤ 6) ∧ ∀ (v : V) (rs : List Row) (H' : Hp), Bx a l H H' → HandAt H' a l pl → Dp K H' v (.tuple (rowsD rs)) → BodH c rs → Q v H'
theorem ca_l_body (T : Txt w K mg) : Ca P w K mg base 14 "_law_body" (spBodyH K) := by
  refine ca_of (N := ["_law_hand_here", "_law_width", "_law_kind", "_law_one", "_law_other", "_law_k", "_law_bodies"]) (ps := ["_law_hand_here", "_law_width"]) T.f_l_body T.g_law_body ⟨rfl, rfl, rfl, by decide +kernel, rfl, by decide +kernel, by decide +kernel⟩ (fun _ _ _ _ _ _ us hl => match us, hl with | [_, _], _ => rfl)
    (fun vs H Q E h => by obtain ⟨a, l, pl, c, rfl, hp, hc, q⟩ := h; rfl) (fun cdv A outer s H vs Q E hr h => ?_)
  have nd : (["_law_hand_here", "_law_width", "_law_kind", "_law_one", "_law_other", "_law_k", "_law_bodies"] : List Str).Nodup := by decide +kernel
  obtain ⟨a, l, pl, c, rfl, hp, hc, q⟩ := h
  let C0 : Int × Int → L2.St → Hp → Prop := fun g σ H => σ[3]? = some (some (.int g.1)) ∧ σ[4]? = some (some (.int g.2))
  have h0 : Stg C0 := fun g σ H H' s e => e
  have f3 : ∀ g σ H, C0 g σ H → ∀ Q : VK, (∀ v H', Same H H' → Dp K H' v (.int g.1) → Q v H') → tVar 3 σ H Q := fun g σ H ⟨e1, e2⟩ Q q => ⟨_, e1, q _ H (Same.refl _) (.int _)⟩
  have f4 : ∀ g σ H, C0 g σ H → ∀ Q : VK, (∀ v H', Same H H' → Dp K H' v (.int g.2) → Q v H') → tVar 4 σ H Q := fun g σ H ⟨e1, e2⟩ Q q => ⟨_, e2, q _ H (Same.refl _) (.int _)⟩
  refine ⟨_, (pss_cons (ps_set (i := 2) nd rfl (.inl rfl) (pe_ca (ca_l_draw T) hr (pa_cons (pv 0) (pa_cons pe_int pa_nil))))
      (pss_cons (ps_set (i := 3) nd rfl (.inl rfl) (pe_ca (ca_l_draw T) hr (pa_cons (pv 0) (pa_cons (pv 1) pa_nil))))
      (pss_cons (ps_set (i := 4) nd rfl (.inl rfl) (pe_ca (ca_l_draw T) hr (pa_cons (pv 0) (pa_cons (pv 1) pa_nil))))
      (pss_cons (ps_set (i := 6) nd rfl (.inl rfl) (pe_lst (pa_cons (gd_tup (K := K) (gd_cons h0 (gd_tup (K := K) (gd_cons h0 gd_str (gd_cons h0 (gd_of (C := C0) (pv 3) f3) (gd_cons h0 gd_str gd_nil)))) gd_nil)) (pa_cons (gd_tup (K := K) (gd_cons h0 (gd_tup (K := K) (gd_cons h0 gd_str (gd_cons h0 gd_str (gd_cons h0 (gd_of (C := C0) (pv 3) f3) gd_nil)))) (gd_cons h0 (gd_tup (K := K) (gd_cons h0 gd_str (gd_cons h0 gd_str gd_nil))) gd_nil))) (pa_cons (gd_tup (K := K) (gd_cons h0 (gd_tup (K := K) (gd_cons h0 gd_str (gd_cons h0 gd_str (gd_cons h0 (gd_of (C := C0) (pv 3) f3) gd_nil)))) (gd_cons h0 (gd_tup (K := K) (gd_cons h0 gd_str (gd_cons h0 (gd_of (C := C0) (pv 4) f4) (gd_cons h0 gd_str gd_nil)))) (gd_cons h0 (gd_tup (K := K) (gd_cons h0 gd_str (gd_cons h0 (gd_of (C := C0) (pv 3) f3) (gd_cons h0 gd_str gd_nil)))) gd_nil)))) (pa_cons (gd_tup (K := K) (gd_cons h0 (gd_tup (K := K) (gd_cons h0 gd_str (gd_cons h0 gd_str (gd_cons h0 (gd_of (C := C0) (pv 3) f3) gd_nil)))) (gd_cons h0 (gd_tup (K := K) (gd_cons h0 gd_str (gd_cons h0 (gd_of (C := C0) (pv 3) f3) (gd_cons h0 (gd_tup (K := K) (gd_cons h0 gd_str (gd_cons h0 gd_str (gd_cons h0 gd_int gd_nil)))) gd_nil)))) (gd_cons h0 (gd_tup (K := K) (gd_cons h0 gd_str (gd_cons h0 gd_str gd_nil))) gd_nil)))) (pa_cons (gd_tup (K := K) (gd_cons h0 (gd_tup (K := K) (gd_cons h0 gd_str (gd_cons h0 gd_str (gd_cons h0 (gd_of (C := C0) (pv 3) f3) gd_nil)))) (gd_cons h0 (gd_tup (K := K) (gd_cons h0 gd_str (gd_cons h0 (gd_tup (K := K) (gd_cons h0 gd_str (gd_cons h0 gd_str (gd_cons h0 gd_str gd_nil)))) (gd_cons h0 (gd_tup (K := K) (gd_cons h0 (gd_tup (K := K) (gd_cons h0 gd_str (gd_cons h0 gd_int gd_nil))) gd_nil)) (gd_cons h0 (gd_tup (K := K) gd_nil) gd_nil))))) (gd_cons h0 (gd_tup (K := K) (gd_cons h0 gd_str (gd_cons h0 (gd_of (C := C0) (pv 4) f4) (gd_cons h0 gd_int gd_nil)))) gd_nil)))) (pa_cons (pe_tup (pa_cons (pe_tup (pa_cons pe_str (pa_cons pe_str (pa_cons (pv 3) (pa_cons pe_str (pa_cons (pe_ca (ca_l_draw T) hr (pa_cons (pv 0) (pa_cons pe_int pa_nil))) pa_nil)))))) (pa_cons (pe_tup (pa_cons pe_str (pa_cons pe_str pa_nil))) pa_nil))) (pa_cons (gd_tup (K := K) (gd_cons h0 (gd_tup (K := K) (gd_cons h0 gd_str (gd_cons h0 (gd_of (C := C0) (pv 3) f3) (gd_cons h0 (gd_tup (K := K) (gd_cons h0 gd_str (gd_cons h0 gd_str (gd_cons h0 gd_int gd_nil)))) gd_nil)))) (gd_cons h0 (gd_tup (K := K) (gd_cons h0 gd_str (gd_cons h0 (gd_of (C := C0) (pv 3) f3) (gd_cons h0 gd_str gd_nil)))) gd_nil))) (pa_cons (gd_tup (K := K) (gd_cons h0 (gd_tup (K := K) (gd_cons h0 gd_str (gd_cons h0 gd_str (gd_cons h0 (gd_of (C := C0) (pv 3) f3) gd_nil)))) (gd_cons h0 (gd_tup (K := K) (gd_cons h0 gd_str (gd_cons h0 gd_str (gd_cons h0 (gd_of (C := C0) (pv 4) f4) gd_nil)))) (gd_cons h0 (gd_tup (K := K) (gd_cons h0 gd_str (gd_cons h0 (gd_of (C := C0) (pv 3) f3) (gd_cons h0 gd_str gd_nil)))) (gd_cons h0 (gd_tup (K := K) (gd_cons h0 gd_str (gd_cons h0 (gd_of (C := C0) (pv 4) f4) (gd_cons h0 gd_str gd_nil)))) gd_nil))))) (pa_cons (pe_tupleOf (by rfl) T.b_tuple (pe_lc (own := [("_law_k", 5)]) (tt := tYes) rfl nd (pi_range1 rfl T.b_range (pa_cons (pv 1) pa_nil)) (blkOk_by (N := ["_law_hand_here", "_law_width", "_law_kind", "_law_one", "_law_other", "_law_k", "_law_bodies"]) (sc := defScope s_l_body) (by decide +kernel)) (fun _ _ _ _ _ => pg_name (i := 5) nd rfl (.inl rfl)) (fun _ _ _ _ _ => pts_nil) (fun _ _ _ _ _ => pe_tup (pa_cons pe_str (pa_cons (pv 5) (pa_cons pe_int pa_nil)))))) pa_nil)))))))))))
      (pss_cons (ps_if (pt_cmpR op_lt (pv 2) (pe_callB call_len_seq (by rfl) T.b_len PySem.boot_len (pa_cons (pv 6) pa_nil)) (nomark _)) (pss_one (ps_ret (pe_ix ix_list (pv 6) (pv 2) (fun _ _ => rfl)))) pss_nil)
      (pss_one (ps_ret (pe_ca (ca_l_rowsH T 3) hr (pa_cons (pv 0) (pa_cons (pv 1) (pa_cons pe_int (pa_cons pe_int pa_nil)))))))))))), ?_⟩
  refine ⟨_, rfl, a, l, pl, 14, rfl, hp, by omega, fun k H1 b1 p1 hk => ?_⟩
  refine ⟨_, rfl, _, rfl, a, l, pl, (c : Int), rfl, p1, by omega, fun o H2 b2 p2 ho => ?_⟩
  refine ⟨_, rfl, _, rfl, a, l, pl, (c : Int), rfl, p2, by omega, fun o2 H3 b3 p3 ho2 => ?_⟩
  have b13 := (b1.trans b2).trans b3
  refine ⟨(o, o2), ⟨rfl, rfl⟩, fun v1 J1 s1 d1 => ?_⟩
  refine ⟨(o, o2), ⟨rfl, rfl⟩, fun v2 J2 s2 d2 => ?_⟩
  refine ⟨(o, o2), ⟨rfl, rfl⟩, fun v3 J3 s3 d3 => ?_⟩
  refine ⟨(o, o2), ⟨rfl, rfl⟩, fun v4 J4 s4 d4 => ?_⟩
  refine ⟨(o, o2), ⟨rfl, rfl⟩, fun v5 J5 s5 d5 => ?_⟩
  have s15 := (((s1.trans s2).trans s3).trans s4).trans s5
  refine ⟨_, rfl, _, rfl, a, l, pl, 4, rfl, p3.same s15, by omega, fun u J6 b6 p6 hu => ?_⟩
  have b36 : Bx a l H3 J6 := (Same.bx s15).trans b6
  refine ⟨(by show 5 ≤ sizeLine; decide), fun t1 n1 => ?_⟩
  have s7 := same_new (o := .tup [.str "swap", .str "c", .int o, .str "x", .int u]) n1
  have f7 : upd J6 t1 (.tup [.str "swap", .str "c", .int o, .str "x", .int u]) t1 = some (.tup [.str "swap", .str "c", .int o, .str "x", .int u]) := upd_same
  generalize upd J6 t1 (.tup [.str "swap", .str "c", .int o, .str "x", .int u]) = J7 at s7 f7 ⊢
  refine ⟨(by show 2 ≤ sizeLine; decide), fun t2 n2 => ⟨(by show 2 ≤ sizeLine; decide), fun t3 n3 => ?_⟩⟩
  have s8 := same_new (o := .tup [.str "answer", .str "c"]) n2
  have f8 : upd J7 t2 (.tup [.str "answer", .str "c"]) t2 = some (.tup [.str "answer", .str "c"]) := upd_same
  generalize upd J7 t2 (.tup [.str "answer", .str "c"]) = J8 at s8 f8 n3 ⊢
  have s9 := same_new (o := .tup [.ref t1, .ref t2]) n3
  have f9 : upd J8 t3 (.tup [.ref t1, .ref t2]) t3 = some (.tup [.ref t1, .ref t2]) := upd_same
  generalize upd J8 t3 (.tup [.ref t1, .ref t2]) = J9 at s9 f9 ⊢
  have s69 := (s7.trans s8).trans s9
  have d6 : Dp K J9 (.ref t3) (.tuple (rowsD [.swap "c" o (.reg "x") (.num u), .ans (.reg "c")])) := .tup (.of f9) (.cons (.tup (.of ((s8.trans s9) _ _ f7)) (.cons (.str _) (.cons (.str _) (.cons (.int _) (.cons (.str _) (.cons (.int _) .nil)))))) (.cons (.tup (.of (s9 _ _ f8)) (.cons (.str _) (.cons (.str _) .nil))) .nil))
  refine ⟨(o, o2), ⟨rfl, rfl⟩, fun v7 J10 s10 d7 => ?_⟩
  refine ⟨(o, o2), ⟨rfl, rfl⟩, fun v8 J11 s11 d8 => ?_⟩
  refine ⟨_, rfl, _, rfl, by omega, by omega, fun D nD => ?_⟩
  refine it_any (n := ((c : Nat) : Int).toNat) walk_range (fun i J => ∃ ys : List V, Same J11 J ∧ J D = some (.lst ys) ∧ DpAll K J ys ((List.range i).map fun j => (Row.set ((j : Nat) : Int) (.num 0)).d) ∧ ys.length = i) ⟨[], same_new nD, upd_same, .nil, rfl⟩ (fun _ _ _ _ => trivial) ?_ ?_
  · rintro i x J0 J hi ⟨ys, sj, hD, hys, el⟩ ⟨rfl, rfl⟩
    refine ⟨rfl, _, rfl, (by show 3 ≤ sizeLine; decide), fun t nt => ?_⟩
    have sn := same_new (o := .tup [.str "set", .int (0 + (i : Int)), .int 0]) nt
    have hD2 := sn _ _ hD
    have ft : upd J t (.tup [.str "set", .int (0 + (i : Int)), .int 0]) t = some (.tup [.str "set", .int (0 + (i : Int)), .int 0]) := upd_same
    have hys2 := dps_same sn hys
    generalize upd J t (.tup [.str "set", .int (0 + (i : Int)), .int 0]) = J' at sn hD2 ft hys2 ⊢
    have bb : But D J' (upd J' D (.lst (ys ++ [.ref t]))) := But.upd
    have nol : ∀ d ∈ (List.range i).map fun j => (Row.set ((j : Nat) : Int) (.num 0)).d, NoL d := fun d hd => by
      obtain ⟨j, _, rfl⟩ := List.mem_map.mp hd
      exact (Row.set ((j : Nat) : Int) (.num 0)).noL
    refine ⟨ys, hD2, by rw [sizeLine_eq]; have : i < ((c : Nat) : Int).toNat := hi; omega, ys ++ [.ref t], fun b o e => bb _ _ (ne_of_none e nD) (sn _ _ (sj _ _ e)), upd_same, ?_, by simp [el]⟩
    rw [List.range_succ, List.map_append]
    refine dps_app (dps_but (.lst hD2) bb hys2 nol) (.cons (dp_but (.lst hD2) bb (.tup (.of ft) (.cons (.str _) (.cons ?_ (.cons (.int _) .nil)))) (Row.set ((i : Nat) : Int) (.num 0)).noL) .nil)
    rw [Int.zero_add]
    exact .int _
  rintro J12 ⟨ys, s12, hD, hys, el⟩
  refine .inl ⟨D, _, rfl, .of hD, fun st nst => ?_⟩
  have s13 := same_new (o := .tup ys) nst
  have fst' : upd J12 st (.tup ys) st = some (.tup ys) := upd_same
  generalize upd J12 st (.tup ys) = J13 at s13 fst' ⊢
  refine ⟨(by show 9 ≤ sizeLine; decide), fun L nL => ?_⟩
  have s14 := same_new (o := .lst [v1, v2, v3, v4, v5, .ref t3, v7, v8, .ref st]) nL
  have eL : upd J13 L (.lst [v1, v2, v3, v4, v5, .ref t3, v7, v8, .ref st]) L = some (.lst [v1, v2, v3, v4, v5, .ref t3, v7, v8, .ref st]) := upd_same
  generalize upd J13 L (.lst [v1, v2, v3, v4, v5, .ref t3, v7, v8, .ref st]) = G at s14 eL ⊢
  have s1G := s12.trans (s13.trans s14)
  have s0G := s11.trans s1G
  have s9G := s10.trans s0G
  have s6G := s69.trans s9G
  have pG := p6.same s6G
  have b3G : Bx a l H3 G := b36.trans (Same.bx s6G)
  have bHG := b13.trans b3G
  have up : ∀ {v : V} {rs : List Row}, Dp K J5 v (.tuple (rowsD rs)) → Dp K G v (.tuple (rowsD rs)) := fun d => dp_same s6G (dp_hx (p3.same s15) p6 b6 d (bod_noL _))
  have ra : ("a" : Str) ∈ regs4 := by decide +kernel
  have rb : ("b" : Str) ∈ regs4 := by decide +kernel
  have rc : ("c" : Str) ∈ regs4 := by decide +kernel
  have xa : ("a" : Str) ∈ regs5 := by decide +kernel
  have xb : ("b" : Str) ∈ regs5 := by decide +kernel
  have xc : ("c" : Str) ∈ regs5 := by decide +kernel
  have sp : ("+" : Str) ∈ signs := by decide +kernel
  have se : ("=" : Str) ∈ signs := by decide +kernel
  have z0 : (0 : Nat) ≤ 6 := by decide
  have z1 : (1 : Nat) ≤ 6 := by decide
  have gx : Exp.good (.reg "x") := ⟨in_x, z0⟩
  have ga : Exp.good (.reg "a") := ⟨xa, z0⟩
  have gb : Exp.good (.reg "b") := ⟨xb, z0⟩
  have gc : Exp.good (.reg "c") := ⟨xc, z0⟩
  have g1 : Exp.good (.num 1) := ⟨(by show (0 : Int) ≤ 1 ∧ (1 : Int) ≤ 9; decide), z0⟩
  have gu : Exp.good (.num u) := ⟨(by show 0 ≤ u ∧ u ≤ 9; omega), z0⟩
  have gb1 : Exp.good (.op "+" (.reg "b") (.num 1)) := ⟨⟨sp, xb, g1.1⟩, z1⟩
  have gx1 : Exp.good (.op "+" (.reg "x") (.num 1)) := ⟨⟨sp, in_x, g1.1⟩, z1⟩
  have gax : Exp.good (.op "=" (.reg "a") (.reg "x")) := ⟨⟨se, xa, in_x⟩, z1⟩
  have le : ∀ {n m : Nat}, n.ble m = true → n ≤ m := Nat.le_of_ble_eq_true
  have bod : ∀ {v : V} (rs : List Row), Dp K G v (.tuple (rowsD rs)) → rowsOk c 1 0 rs → rowsCc rs = 0 → rowsCl rs ≤ 2000 → ∃ rs, Dp K G v (.tuple (rowsD rs)) ∧ BodH c rs := fun rs d h1 h2 h3 => ⟨rs, d, h1, h2, h3⟩
  refine ⟨_, rfl, _, rfl, L, _, rfl, .inl (.of eL), _, _, rfl, rfl, _, rfl, ?_⟩
  by_cases k9 : k < 9
  · rw [decide_eq_true (show k < (([v1, v2, v3, v4, v5, .ref t3, v7, v8, .ref st] : List V).length : Nat) from k9)]
    have pick : ∃ v, atI [v1, v2, v3, v4, v5, .ref t3, v7, v8, .ref st] k = some v ∧ ∃ rs, Dp K G v (.tuple (rowsD rs)) ∧ BodH c rs := by
      have : k = 0 ∨ k = 1 ∨ k = 2 ∨ k = 3 ∨ k = 4 ∨ k = 5 ∨ k = 6 ∨ k = 7 ∨ k = 8 := by omega
      rcases this with rfl | rfl | rfl | rfl | rfl | rfl | rfl | rfl | rfl
      · exact ⟨_, at0, bod [.set o (.reg "x")] (up (dp_same (((s2.trans s3).trans s4).trans s5) d1)) ⟨by decide, ⟨ho, gx⟩, trivial⟩ rfl (le rfl)⟩
      · exact ⟨_, at1, bod [.read "a" o, .ans (.reg "a")] (up (dp_same ((s3.trans s4).trans s5) d2)) ⟨by decide, ⟨ra, ho⟩, by decide, ga, trivial⟩ rfl (le rfl)⟩
      · exact ⟨_, at2, bod [.read "a" o, .set o2 (.reg "a"), .set o (.reg "x")] (up (dp_same (s4.trans s5) d3)) ⟨by decide, ⟨ra, ho⟩, by decide, ⟨ho2, ga⟩, by decide, ⟨ho, gx⟩, trivial⟩ rfl (le rfl)⟩
      · exact ⟨_, at3, bod [.read "b" o, .set o (.op "+" (.reg "b") (.num 1)), .ans (.reg "b")] (up (dp_same s5 d4)) ⟨by decide, ⟨rb, ho⟩, by decide, ⟨ho, gb1⟩, by decide, gb, trivial⟩ rfl (le rfl)⟩
      · exact ⟨_, atI_nat (j := 4) rfl, bod [.read "a" o, .iff (.op "=" (.reg "a") (.reg "x")) [.ans (.num 1)] [], .set o2 (.num 1)] (up d5) ⟨by decide, ⟨ra, ho⟩, by decide, ⟨gax, ⟨by decide, g1, trivial⟩, trivial⟩, by decide, ⟨ho2, g1⟩, trivial⟩ rfl (le rfl)⟩
      · exact ⟨_, atI_nat (j := 5) rfl, bod _ (dp_same s9G d6) ⟨by decide, ⟨rc, ho, gx, gu⟩, by decide, gc, trivial⟩ rfl (le rfl)⟩
      · exact ⟨_, atI_nat (j := 6) rfl, bod [.set o (.op "+" (.reg "x") (.num 1)), .set o (.reg "x")] (dp_same s0G d7) ⟨by decide, ⟨ho, gx1⟩, by decide, ⟨ho, gx⟩, trivial⟩ rfl (le rfl)⟩
      · exact ⟨_, atI_nat (j := 7) rfl, bod [.read "a" o, .read "b" o2, .set o (.reg "b"), .set o2 (.reg "a")] (dp_same s1G d8) ⟨by decide, ⟨ra, ho⟩, by decide, ⟨rb, ho2⟩, by decide, ⟨ho, gb⟩, by decide, ⟨ho2, ga⟩, trivial⟩ rfl (le rfl)⟩
      · obtain ⟨z1, z2, z3⟩ := zeros_h (c := c) (List.range c) fun j hj => List.mem_range.mp hj
        refine ⟨_, atI_nat (j := 8) rfl, bod ((List.range c).map fun j => Row.set ((j : Nat) : Int) (.num 0)) ?_ z1 z2 (by rw [z3, List.length_range]; omega)⟩
        rw [rowsD_mapI, List.map_map]
        refine dp_same s14 (.tup (.of fst') (dps_same s13 ?_))
        rw [show ((c : Nat) : Int).toNat = c from by omega] at hys
        exact hys
    obtain ⟨v, hat, rs, dv, hb⟩ := pick
    exact iteT ⟨_, rfl, _, rfl, L, _, _, _, rfl, rfl, .of eL, hat, q v rs G bHG pG dv hb⟩
  · rw [decide_eq_false (show ¬ k < (([v1, v2, v3, v4, v5, .ref t3, v7, v8, .ref st] : List V).length : Nat) from k9)]
    refine iteF ⟨_, rfl, _, rfl, a, l, pl, c, 2, 4, rfl, pG, hc, by decide, by decide, by decide, fun v rs H' b p dv lrs hrs => ?_⟩
    refine q v rs H' (bHG.trans b) p dv ⟨rowsH_ok hrs 1 0 (by decide) (by decide), rowsH_cc hrs, ?_⟩
    have h1 := Nat.le_trans (rowsH_cl hrs) (Nat.mul_le_mul_right _ lrs)
    have h2 : rB 2 = 21 := rfl
    omega
end

end M

set_option Elab.async false
set_option linter.all false
set_option maxRecDepth 100000
set_option maxHeartbeats 2000000
namespace M
open PySem PySem.Spec PyProof.Rows L2

def gR : Nat → List Row
  | 0 => [.read "a" 0]
  | i + 1 => [.iff (.op "=" (.reg "x") (.num ((i : Int) + 1))) [.read "a" ((i : Int) + 1)] (gR i)]
theorem gR_ok {c : Nat} : ∀ (i : Nat), i < c → i ≤ 9 → ∀ dp, dp + i ≤ 11 → rowsOk c dp 0 (gR i)
  | 0, h, _, dp, hd => ⟨by omega, ⟨by decide +kernel, by decide, by omega⟩, trivial⟩
  | i + 1, h, h9, dp, hd => by
    have gx : Exp.good (.op "=" (.reg "x") (.num ((i : Int) + 1))) := ⟨⟨by decide +kernel, in_x, (by show (0 : Int) ≤ (i : Int) + 1 ∧ (i : Int) + 1 ≤ 9; omega)⟩, by show (1 : Nat) ≤ 6; decide⟩
    exact ⟨by omega, ⟨gx, ⟨by omega, ⟨by decide +kernel, by omega, by omega⟩, trivial⟩, gR_ok i (by omega) (by omega) (dp + 1) (by omega)⟩, trivial⟩
theorem gR_cc : ∀ i, rowsCc (gR i) = 0
  | 0 => rfl
  | i + 1 => by
    show (0 + rowsCc (gR i)) + 0 = 0
    rw [gR_cc i]
theorem gR_cl : ∀ i, rowsCl (gR i) = 1 + 2 * i
  | 0 => rfl
  | i + 1 => by
    show 1 + (1 + rowsCl (gR i)) + 0 = _
    rw [gR_cl i]
    omega
theorem ok_appI {c : Int} {deep loops : Nat} : ∀ {as bs : List Row}, rowsOk c deep loops as → rowsOk c deep loops bs → rowsOk c deep loops (as ++ bs)
  | [], bs, _, h => h
  | a :: as, bs, h, k => ⟨h.1, h.2.1, ok_appI h.2.2 k⟩
theorem cc_appI : ∀ (as bs : List Row), rowsCc (as ++ bs) = rowsCc as + rowsCc bs
  | [], bs => (Nat.zero_add _).symm
  | a :: as, bs => by
    show a.cc + rowsCc (as ++ bs) = a.cc + rowsCc as + rowsCc bs
    rw [cc_appI as bs, Nat.add_assoc]
theorem cl_appI : ∀ (as bs : List Row), rowsCl (as ++ bs) = rowsCl as + rowsCl bs
  | [], bs => (Nat.zero_add _).symm
  | a :: as, bs => by
    show a.cl + rowsCl (as ++ bs) = a.cl + rowsCl as + rowsCl bs
    rw [cl_appI as bs, Nat.add_assoc]
theorem gB_ok {c : Nat} {i : Nat} (h : i < c) (h9 : i ≤ 9) : BodH c (gR i ++ [.ans (.reg "a")]) := by
  refine ⟨ok_appI (gR_ok i h h9 1 (by omega)) ⟨by decide, ⟨(by show ("a" : Str) ∈ regs5; decide +kernel), Nat.zero_le _⟩, trivial⟩, ?_, ?_⟩
  · rw [cc_appI, gR_cc]
    rfl
  · rw [cl_appI, gR_cl]
    show 1 + 2 * i + 1 ≤ 2000
    omega
section
variable {P : Program} {w : World} {K : PySem.W.Frag} {mg : Str → Option Value} {base : Heap}
def spGetter (K : PySem.W.Frag) : Sp := fun vs H Q _ => ∃ (c : Nat), vs = [.int (c : Int)] ∧ (1 ≤ c ∧ c ≤ 6) ∧ ∀ (v : V) (rs : List Row) (H' : Hp), Same H H' → Dp K H' v (.tuple (rowsD rs)) → (∀ n, c ≤ n → BodH n rs) → Q v H'
theorem ca_l_getter (T : Txt w K mg) : Ca P w K mg base 1 "_law_getter" (spGetter K) := by
  refine ca_of (N := ["_law_width", "_law_rows_here", "_law_k"]) (ps := ["_law_width"]) T.f_l_getter T.g_law_getter ⟨rfl, rfl, rfl, by decide +kernel, rfl, by decide +kernel, by decide +kernel⟩ (fun _ _ _ _ _ _ us hl => match us, hl with | [_], _ => rfl)
    (fun vs H Q E h => by obtain ⟨c, rfl, hc, q⟩ := h; rfl) (fun cdv A outer s H vs Q E hr h => ?_)
  have nd : (["_law_width", "_law_rows_here", "_law_k"] : List Str).Nodup := by decide +kernel
  obtain ⟨c, rfl, hc, q⟩ := h
  refine ⟨_, (pss_cons (ps_set (i := 1) nd rfl (.inl rfl) (pe_tup (pa_cons (pe_tup (pa_cons pe_str (pa_cons pe_str (pa_cons pe_int pa_nil)))) pa_nil)))
      (pss_cons (ps_for PassesOwn.never rfl (pi_range2 rfl T.b_range (pa_cons pe_int (pa_cons (pv 0) pa_nil))) (pg_name (i := 2) nd rfl (.inl rfl)) (pss_one (ps_set (i := 1) nd rfl (.inl rfl) (pe_tup (pa_cons (pe_tup (pa_cons pe_str (pa_cons (pe_tup (pa_cons pe_str (pa_cons pe_str (pa_cons (pv 2) pa_nil)))) (pa_cons (pe_tup (pa_cons (pe_tup (pa_cons pe_str (pa_cons pe_str (pa_cons (pv 2) pa_nil)))) pa_nil)) (pa_cons (pv 1) pa_nil))))) pa_nil)))))
      (pss_one (ps_ret (pe_op op_catA (pv 1) (pe_tup (pa_cons (pe_tup (pa_cons pe_str (pa_cons pe_str pa_nil))) pa_nil))))))), ?_⟩
  refine ⟨(by show 3 ≤ sizeLine; decide), fun t1 n1 => ⟨(by show 1 ≤ sizeLine; decide), fun t2 n2 => ?_⟩⟩
  have s1 := same_new (o := .tup [.str "read", .str "a", .int 0]) n1
  have f1 : upd H t1 (.tup [.str "read", .str "a", .int 0]) t1 = some (.tup [.str "read", .str "a", .int 0]) := upd_same
  generalize upd H t1 (.tup [.str "read", .str "a", .int 0]) = H1 at s1 f1 n2 ⊢
  have s2 := same_new (o := .tup [.ref t1]) n2
  have f2 : upd H1 t2 (.tup [.ref t1]) t2 = some (.tup [.ref t1]) := upd_same
  generalize upd H1 t2 (.tup [.ref t1]) = H2 at s2 f2 ⊢
  have d2 : Dp K H2 (.ref t2) (.tuple (rowsD (gR 0))) := .tup (.of f2) (.cons (.tup (.of (s2 _ _ f1)) (.cons (.str _) (.cons (.str _) (.cons (.int _) .nil)))) .nil)
  refine ⟨_, rfl, _, _, rfl, by omega, for_it (n := (((c : Nat) : Int) - 1).toNat) walk_range (fun i σ' H' => ∃ (u : V) (z : Option V), σ' = [some (.int (c : Int)), some u, z] ∧ Same H2 H' ∧ Dp K H' u (.tuple (rowsD (gR i)))) ⟨_, none, rfl, Same.refl _, d2⟩ (fun _ _ _ _ _ => trivial) ?_ ?_⟩
  · rintro i z σ' Hx H' hi ⟨u, _, rfl, s3, du⟩ ⟨rfl, rfl⟩
    have ec : (1 : Int) + (i : Int) = (i : Int) + 1 := Int.add_comm _ _
    refine ⟨_, rfl, (by show 3 ≤ sizeLine; decide), fun ta na => ?_⟩
    have w1 := same_new (o := .tup [.str "=", .str "x", .int (1 + (i : Int))]) na
    have g1 : upd H' ta (.tup [.str "=", .str "x", .int (1 + (i : Int))]) ta = some (.tup [.str "=", .str "x", .int (1 + (i : Int))]) := upd_same
    generalize upd H' ta (.tup [.str "=", .str "x", .int (1 + (i : Int))]) = J1 at w1 g1 ⊢
    refine ⟨_, rfl, (by show 3 ≤ sizeLine; decide), fun tb nb => ?_⟩
    have w2 := same_new (o := .tup [.str "read", .str "a", .int (1 + (i : Int))]) nb
    have g2 : upd J1 tb (.tup [.str "read", .str "a", .int (1 + (i : Int))]) tb = some (.tup [.str "read", .str "a", .int (1 + (i : Int))]) := upd_same
    generalize upd J1 tb (.tup [.str "read", .str "a", .int (1 + (i : Int))]) = J2 at w2 g2 ⊢
    refine ⟨(by show 1 ≤ sizeLine; decide), fun tc nc => ?_⟩
    have w3 := same_new (o := .tup [.ref tb]) nc
    have g3 : upd J2 tc (.tup [.ref tb]) tc = some (.tup [.ref tb]) := upd_same
    generalize upd J2 tc (.tup [.ref tb]) = J3 at w3 g3 ⊢
    refine ⟨_, rfl, (by show 4 ≤ sizeLine; decide), fun td nd' => ⟨(by show 1 ≤ sizeLine; decide), fun te ne => ?_⟩⟩
    have w4 := same_new (o := .tup [.str "if", .ref ta, .ref tc, u]) nd'
    have g4 : upd J3 td (.tup [.str "if", .ref ta, .ref tc, u]) td = some (.tup [.str "if", .ref ta, .ref tc, u]) := upd_same
    generalize upd J3 td (.tup [.str "if", .ref ta, .ref tc, u]) = J4 at w4 g4 ne ⊢
    have w5 := same_new (o := .tup [.ref td]) ne
    have g5 : upd J4 te (.tup [.ref td]) te = some (.tup [.ref td]) := upd_same
    generalize upd J4 te (.tup [.ref td]) = J5 at w5 g5 ⊢
    rw [ec] at g1 g2
    have w25 := ((w2.trans w3).trans w4).trans w5
    have w15 := w1.trans w25
    refine ⟨.ref te, _, rfl, s3.trans w15, .tup (.of g5) (.cons (.tup (.of (w5 _ _ g4)) (.cons (.str _) (.cons (.tup (.of (w25 _ _ g1)) (.cons (.str _) (.cons (.str _) (.cons (.int _) .nil)))) (.cons (.tup (.of ((w4.trans w5) _ _ g3)) (.cons (.tup (.of (((w3.trans w4).trans w5) _ _ g2)) (.cons (.str _) (.cons (.str _) (.cons (.int _) .nil)))) .nil)) (.cons (dp_same w15 du) .nil))))) .nil)⟩
  · rintro σ' H' ⟨u, z, rfl, s3, du⟩
    refine ⟨_, rfl, (by show 2 ≤ sizeLine; decide), fun t3 n3 => ⟨(by show 1 ≤ sizeLine; decide), fun t4 n4 => ?_⟩⟩
    have s4 := same_new (o := .tup [.str "answer", .str "a"]) n3
    have f4 : upd H' t3 (.tup [.str "answer", .str "a"]) t3 = some (.tup [.str "answer", .str "a"]) := upd_same
    generalize upd H' t3 (.tup [.str "answer", .str "a"]) = H4 at s4 f4 n4 ⊢
    have s5 := same_new (o := .tup [.ref t3]) n4
    have f5 : upd H4 t4 (.tup [.ref t3]) t4 = some (.tup [.ref t3]) := upd_same
    generalize upd H4 t4 (.tup [.ref t3]) = H5 at s5 f5 ⊢
    have s45 := s4.trans s5
    have du5 := dp_same s45 du
    have d5 : Dp K H5 (.ref t4) (.tuple (rowsD [.ans (.reg "a")])) := .tup (.of f5) (.cons (.tup (.of (s5 _ _ f4)) (.cons (.str _) (.cons (.str _) .nil))) .nil)
    have ei : (((c : Nat) : Int) - 1).toNat = c - 1 := by omega
    rw [ei] at du5
    obtain ⟨b, xs, rfl, hb, hxs⟩ := dp_tup du5
    have lxs := dps_len hxs
    have l1 : (rowsD (gR (c - 1))).length = 1 := by cases c - 1 <;> rfl
    have s25 := (s2.trans s3).trans s45
    have app : rowsD (gR (c - 1) ++ [.ans (.reg "a")]) = rowsD (gR (c - 1)) ++ rowsD [.ans (.reg "a")] := by rw [rowsD_mapI, rowsD_mapI, rowsD_mapI, List.map_append]
    refine ⟨b, t4, xs, _, rfl, rfl, hb, .of f5, by rw [lxs, l1, sizeLine_eq]; show 1 + 1 ≤ 16777216; decide, fun e => ?_, fun _ e => (by cases e), fun _ _ p np => ?_⟩
    · rw [e] at lxs
      rw [l1] at lxs
      cases lxs
    · refine q _ (gR (c - 1) ++ [.ans (.reg "a")]) _ ((s1.trans s25).trans (same_new np)) ?_ (fun n hn => gB_ok (by omega) (by omega))
      rw [app]
      refine .tup (.of upd_same) (dps_app (dps_same (same_new np) hxs) (dps_same (same_new np) ?_))
      exact .cons (.tup (.of (s5 _ _ f4)) (.cons (.str _) (.cons (.str _) .nil))) .nil
end

end M

set_option Elab.async false
set_option linter.all false
set_option maxRecDepth 100000
set_option maxHeartbeats 2000000
namespace M
open PySem PySem.Spec PyProof.Rows L2

/-- a shape as drawn: what its deeds are -/
structure DeedsH (c : Nat) (ds : List (Str × Int × List Row)) : Prop where
  ok : ∀ d ∈ ds, NameOk d.1 ∧ (1 ≤ d.2.1 ∧ d.2.1 ≤ 3) ∧ BodH c d.2.2
  nd : (ds.map (·.1)).Nodup
theorem ix_listK {X : Cx} (K : PySem.W.Frag) (hK : X.K = K) : IxR X (rIxL K) := hK ▸ ix_list
theorem dps_takeH {K : PySem.W.Frag} {H : Hp} : ∀ {xs : List V} {ds : List PyData} (n : Nat), DpAll K H xs ds → DpAll K H (xs.take n) (ds.take n)
  | _, _, 0, _ => .nil
  | _, _, n + 1, .nil => .nil
  | _, _, n + 1, .cons h r => .cons h (dps_takeH n r)
theorem dps_dropH {K : PySem.W.Frag} {H : Hp} : ∀ {xs : List V} {ds : List PyData} (n : Nat), DpAll K H xs ds → DpAll K H (xs.drop n) (ds.drop n)
  | _, _, 0, h => h
  | _, _, n + 1, .nil => .nil
  | _, _, n + 1, .cons h r => dps_dropH n r
theorem cellsN_h : ∀ cs : List (Int × Int), ∀ d ∈ cs.map cellD, NoL d := fun cs d hd => by
  obtain ⟨c, _, rfl⟩ := List.mem_map.mp hd
  exact .tup fun x hx => by
    simp only [List.mem_cons, List.not_mem_nil, or_false] at hx
    rcases hx with rfl | rfl <;> exact .int _
theorem deedsN_h : ∀ ds : List (Str × Int × List Row), ∀ d ∈ ds.map deedD, NoL d := fun ds d hd => by
  obtain ⟨c, _, rfl⟩ := List.mem_map.mp hd
  exact deed_noL c
section
variable {P : Program} {w : World} {K : PySem.W.Frag} {mg : Str → Option Value} {base : Heap}
/-- the deeds' list under way -/
structure ShpW (K : PySem.W.Frag) (H0 H : Hp) (a l pl cl dl nl : Addr) (c m : Nat) (ns : List Str) (cs : List (Int × Int)) (ds : List (Str × Int × List Row)) : Prop where
  bx : Bx a l H0 H
  hd : HandAt H a l pl
  ne : (cl ≠ a ∧ cl ≠ l ∧ cl ≠ pl) ∧ (dl ≠ a ∧ dl ≠ l ∧ dl ≠ pl) ∧ (nl ≠ a ∧ nl ≠ l ∧ nl ≠ pl) ∧ cl ≠ dl ∧ nl ≠ dl
  n0 : H0 dl = none
  cl : ∃ cxs, H cl = some (.lst cxs) ∧ DpAll K H cxs (cs.map cellD)
  cn : cs.length = c ∧ (1 ≤ c ∧ c ≤ 3) ∧ ∀ x ∈ cs, CellOk x
  nl : H nl = some (.lst (ns.map .str))
  nn : ns.length = m + 1 ∧ (1 ≤ m ∧ m ≤ 4) ∧ (∀ n ∈ ns, NameOk n) ∧ ns.Nodup
  dl : ∃ dxs, H dl = some (.lst dxs) ∧ DpAll K H dxs (ds.map deedD)
  dk : DeedsH c ds
def spShapeH (K : PySem.W.Frag) : Sp := fun vs H Q _ => ∃ (a l pl : Addr) (st : Int), vs = [.ref a, .int st] ∧ HandAt H a l pl ∧ (0 ≤ st ∧ st ≤ 2) ∧ ∀ (t c d : Addr) (cxs dxs : List V) (v : Vlt) (H' : Hp), Bx a l H H' → HandAt H' a l pl → H' t = some (.tup [.ref c, .ref d]) → H' c = some (.tup cxs) → H' d = some (.tup dxs) →
  DpAll K H' cxs (v.cells.map cellD) → DpAll K H' dxs (v.deeds.map deedD) → VGood v → (v.cells.length ≤ 3 ∧ v.deeds.length ≤ 5) → (∀ d ∈ v.deeds, d.2.1 ≤ 3 ∧ rowsCc d.2.2 = 0) → Q (.ref t) H'
theorem ca_l_shape (T : Txt w K mg) : Ca P w K mg base 16 "_law_shape" (spShapeH K) := by
  refine ca_of (N := ["_law_hand_here", "_law_style", "_law_width", "_law_cells", "_law_k", "_law_size", "_law_many", "_law_names_here", "_law_deeds"]) (ps := ["_law_hand_here", "_law_style"]) T.f_l_shape T.g_law_shape ⟨rfl, rfl, rfl, by decide +kernel, rfl, by decide +kernel, by decide +kernel⟩ (fun _ _ _ _ _ _ us hl => match us, hl with | [_, _], _ => rfl)
    (fun vs H Q E h => by obtain ⟨a, l, pl, st, rfl, hp, hst, q⟩ := h; rfl) (fun cdv A outer s H vs Q E hr h => ?_)
  have nd : (["_law_hand_here", "_law_style", "_law_width", "_law_cells", "_law_k", "_law_size", "_law_many", "_law_names_here", "_law_deeds"] : List Str).Nodup := by decide +kernel
  obtain ⟨a, l, pl, st, rfl, hp, hst, q⟩ := h
  refine ⟨_, (pss_cons (ps_set (i := 2) nd rfl (.inr rfl) (pe_op op_add pe_int (pe_ca (ca_l_draw T) hr (pa_cons (pv 0) (pa_cons pe_int pa_nil)))))
      (pss_cons (ps_set (i := 3) nd rfl (.inl rfl) (pe_lst pa_nil))
      (pss_cons (ps_for PassesOwn.never rfl (pi_range1 rfl T.b_range (pa_cons (pv 2) pa_nil)) (pg_name (i := 4) nd rfl (.inl rfl)) (pss_cons (ps_set (i := 5) nd rfl (.inl rfl) (pe_op op_add pe_int (pe_ca (ca_l_draw T) hr (pa_cons (pv 0) (pa_cons (pe_ix ix_list (pe_lst (pa_cons pe_int (pa_cons pe_int (pa_cons pe_int pa_nil)))) (pe_op op_sub (pv 2) pe_int) (fun _ _ => rfl)) pa_nil)))))
      (pss_one (ps_expr (pe_bm PySem.F.plainAttrs_list PySem.F.slot_list_append PySem.F.type_list_append mt_append (pv 3) (pa_cons (pe_tup (pa_cons (pv 5) (pa_cons (pe_ca (ca_l_draw T) hr (pa_cons (pv 0) (pa_cons (pv 5) pa_nil))) pa_nil))) pa_nil))))))
      (pss_cons (ps_set (i := 6) nd rfl (.inl rfl) (pe_op op_add pe_int (pe_ca (ca_l_draw T) hr (pa_cons (pv 0) (pa_cons pe_int pa_nil)))))
      (pss_cons (ps_set (i := 7) nd rfl (.inr rfl) (pe_ca (ca_l_names T) hr (pa_cons (pv 0) (pa_cons (pe_op op_add (pv 6) pe_int) pa_nil))))
      (pss_cons (ps_setLc (i := 8) (own := [("_law_k", 4)]) (tt := tYes) rfl nd rfl rfl (by rfl) (pi_range1 rfl T.b_range (pa_cons (pv 6) pa_nil)) (blkOk_by (N := ["_law_hand_here", "_law_style", "_law_width", "_law_cells", "_law_k", "_law_size", "_law_many", "_law_names_here", "_law_deeds"]) (sc := defScope s_l_shape) (by decide +kernel)) (fun _ _ _ _ _ => pg_name (i := 4) nd rfl (.inl rfl)) (fun _ _ _ _ _ => pts_nil) (fun _ _ _ _ _ => pe_tup (pa_cons (pe_ix (ix_listK K rfl) (pv 7) (pv 4) (fun _ _ => rfl)) (pa_cons (pe_op op_add pe_int (pe_ca (ca_l_draw T) hr (pa_cons (pv 0) (pa_cons pe_int pa_nil)))) (pa_cons (pe_ca (ca_l_body T) hr (pa_cons (pv 0) (pa_cons (pv 2) pa_nil))) pa_nil)))))
      (pss_cons (ps_if (pt_cmpR op_eq (pv 1) pe_int (nomark _)) (pss_one (ps_expr (pe_bm PySem.F.plainAttrs_list PySem.F.slot_list_insert PySem.F.type_list_insert mt_insert (pv 8) (pa_cons (pe_ca (ca_l_draw T) hr (pa_cons (pv 0) (pa_cons (pe_op op_add (pv 6) pe_int) pa_nil))) (pa_cons (pe_tup (pa_cons (pe_ix ix_list (pv 7) (pv 6) (fun _ _ => rfl)) (pa_cons (pv 2) (pa_cons (pe_ca (ca_l_getter T) hr (pa_cons (pv 2) pa_nil)) pa_nil)))) pa_nil))))) pss_nil)
      (pss_cons (ps_if (pt_cmpR op_eq (pv 1) pe_int (nomark _)) (pss_one (ps_expr (pe_bm PySem.F.plainAttrs_list PySem.F.slot_list_insert PySem.F.type_list_insert mt_insert (pv 8) (pa_cons (pe_ca (ca_l_draw T) hr (pa_cons (pv 0) (pa_cons (pe_op op_add (pv 6) pe_int) pa_nil))) (pa_cons (pe_tup (pa_cons (pe_ix ix_list (pv 7) (pv 6) (fun _ _ => rfl)) (pa_cons pe_int (pa_cons (pe_ca (ca_l_getter T) hr (pa_cons pe_int pa_nil)) pa_nil)))) pa_nil))))) pss_nil)
      (pss_one (ps_ret (pe_tup (pa_cons (pe_tupleOf (by rfl) T.b_tuple (pv 3)) (pa_cons (pe_tupleOf (by rfl) T.b_tuple (pv 8)) pa_nil))))))))))))), ?_⟩
  refine (?key : ∀ R : TS, (∀ (cl dl nl : Addr) (c m : Nat) (ns : List Str) (cs : List (Int × Int)) (ds : List (Str × Int × List Row)) (z4 z5 : Option V) (G : Hp), ShpW K H G a l pl cl dl nl c m ns cs ds → ds.map (·.1) = ns.take m → R _ [some (.ref a), some (.int st), some (.int (c : Int)), some (.ref cl), z4, z5, some (.int (m : Int)), some (.ref nl), some (.ref dl)] G) → tSeq _ (tSeq _ (tSeq _ (tSeq _ (tSeq _ (tSeq _ R))))) _ _ _) _ ?rest
  case key =>
    intro R hR
    refine ⟨_, rfl, a, l, pl, 3, rfl, hp, by omega, fun w0 H1 b1 p1 hw => ⟨_, _, rfl, rfl, ?_⟩⟩
    obtain ⟨c, ec, hc⟩ : ∃ c : Nat, 1 + w0 = (c : Int) ∧ 1 ≤ c ∧ c ≤ 3 := ⟨(1 + w0).toNat, by omega, by omega, by omega⟩
    show gName 2 (V.int (1 + w0)) _ _ _
    rw [ec]
    refine ⟨(by show 0 ≤ sizeLine; exact Nat.zero_le _), fun D nD => ?_⟩
    obtain ⟨nDa, nDl, nDp⟩ := hand_ne p1 nD
    have s2 := same_new (o := .lst []) nD
    have eD : upd H1 D (.lst []) D = some (.lst []) := upd_same
    have p2 := p1.same s2
    have b2 : Bx a l H (upd H1 D (.lst [])) := b1.trans (Same.bx s2)
    have nD0 : H D = none := by
      cases e : H D with
      | none => rfl
      | some o => rw [b1 _ _ nDa nDl e] at nD; cases nD
    generalize upd H1 D (.lst []) = H2 at eD p2 b2 ⊢
    refine ⟨_, rfl, _, rfl, by omega, by omega, for_it (n := ((c : Nat) : Int).toNat) walk_range (fun i σ' J => ∃ (z4 z5 : Option V) (ys : List V) (cs : List (Int × Int)), σ' = [some (.ref a), some (.int st), some (.int (c : Int)), some (.ref D), z4, z5, none, none, none] ∧ Bx a l H J ∧ HandAt J a l pl ∧ J D = some (.lst ys) ∧ DpAll K J ys (cs.map cellD) ∧ cs.length = i ∧ ∀ x ∈ cs, CellOk x) ⟨none, none, [], [], rfl, b2, p2, eD, .nil, rfl, fun x h => nomatch h⟩ (fun _ _ _ _ _ => trivial) ?_ ?_⟩
    · rintro i z σ' Hx J hi ⟨z4, z5, ys, cs, rfl, b, ph, hD, hys, el, hcs⟩ ⟨rfl, rfl⟩
      refine ⟨_, rfl, (by show 3 ≤ sizeLine; decide), fun L nL => ?_⟩
      have s3 := same_new (o := .lst [.int 4, .int 3, .int 2]) nL
      have eL : upd J L (.lst [.int 4, .int 3, .int 2]) L = some (.lst [.int 4, .int 3, .int 2]) := upd_same
      have hD3 := s3 _ _ hD
      have hys3 := dps_same s3 hys
      have p3 := ph.same s3
      have b3 : Bx a l H (upd J L (.lst [.int 4, .int 3, .int 2])) := b.trans (Same.bx s3)
      generalize upd J L (.lst [.int 4, .int 3, .int 2]) = J3 at s3 eL hD3 hys3 p3 b3 ⊢
      obtain ⟨mx, hmx, hmx2⟩ : ∃ mx : Int, atI [V.int 4, .int 3, .int 2] ((c : Int) - 1) = some (.int mx) ∧ (2 ≤ mx ∧ mx ≤ 4) := by
        have : c = 1 ∨ c = 2 ∨ c = 3 := by omega
        rcases this with rfl | rfl | rfl
        · exact ⟨4, at0, by decide, by decide⟩
        · exact ⟨3, at1, by decide, by decide⟩
        · exact ⟨2, at2, by decide, by decide⟩
      refine ⟨_, rfl, _, _, rfl, rfl, L, _, _, _, rfl, rfl, .of eL, hmx, a, l, pl, mx, rfl, p3, by omega, fun sz J4 b4 p4 hsz => ⟨_, _, rfl, rfl, ?_⟩⟩
      refine ⟨_, rfl, .inl ⟨rfl, _, .of (b4 _ _ nDa nDl hD3)⟩, _, rfl, _, rfl, _, rfl, a, l, pl, 2 + sz, rfl, p4, by omega, fun fi J5 b5 p5 hfi => ⟨(by show 2 ≤ sizeLine; decide), fun t nt => ?_⟩⟩
      have s6 := same_new (o := .tup [.int (2 + sz), .int fi]) nt
      have f6 : upd J5 t (.tup [.int (2 + sz), .int fi]) t = some (.tup [.int (2 + sz), .int fi]) := upd_same
      have hD6 := s6 _ _ (b5 _ _ nDa nDl (b4 _ _ nDa nDl hD3))
      have b36 := b4.trans b5
      have hys6 := dps_same s6 (dps_hx p3 p5 b36 hys3 (cellsN_h cs))
      have p6 := p5.same s6
      have b6 : Bx a l H (upd J5 t (.tup [.int (2 + sz), .int fi])) := (b3.trans b36).trans (Same.bx s6)
      generalize upd J5 t (.tup [.int (2 + sz), .int fi]) = J6 at f6 hD6 hys6 p6 b6 ⊢
      have bb : But D J6 (upd J6 D (.lst (ys ++ [.ref t]))) := But.upd
      have lys : ys.length = cs.length := by rw [dps_len hys, List.length_map]
      have hi3 : i < c := by have : i < ((c : Nat) : Int).toNat := hi; omega
      refine ⟨D, ys, _, rfl, rfl, hD6, by rw [sizeLine_eq]; omega, _, _, ys ++ [.ref t], cs ++ [(2 + sz, fi)], rfl, fun x o n1 n2 e => bb _ _ (ne_of_none e nD0) (b6 _ _ n1 n2 e), p6.but bb ⟨nDa, nDl, nDp⟩, upd_same, ?_, by simp [el], fun x hx => ?_⟩
      · rw [List.map_append]
        exact dps_app (dps_but (.lst hD6) bb hys6 (cellsN_h cs)) (.cons (.tup (.of (bb _ _ (fun e => by rw [e, hD6] at f6; cases f6) f6)) (.cons (.int _) (.cons (.int _) .nil))) .nil)
      · rcases List.mem_append.mp hx with h | h
        · exact hcs x h
        · rw [List.mem_singleton.mp h]
          exact ⟨by show 1 ≤ 2 + sz; omega, by show 2 + sz ≤ 9; omega, hfi⟩
    rintro σ' H3 ⟨z4, z5, ys, cs, rfl, b3, p3, hD, hys, el, hcs⟩
    have el : cs.length = c := by rw [el]; omega
    refine ⟨_, rfl, a, l, pl, 4, rfl, p3, by omega, fun m0 H4 b4 p4 hm0 => ⟨_, _, rfl, rfl, ?_⟩⟩
    obtain ⟨m, em, hm⟩ : ∃ m : Nat, 1 + m0 = (m : Int) ∧ 1 ≤ m ∧ m ≤ 4 := ⟨(1 + m0).toNat, by omega, by omega, by omega⟩
    show gName 6 (V.int (1 + m0)) _ _ _
    rw [em]
    refine ⟨_, rfl, _, rfl, _, _, rfl, rfl, a, l, pl, (m : Int) + 1, rfl, p4, by omega, fun nl ns H5 b5 p5 nnl hnl lns hok hnd => ?_⟩
    have lns : ns.length = m + 1 := by rw [lns]; omega
    have b45 := b4.trans b5
    have hD5 := b45 _ _ nDa nDl hD
    have nlD : nl ≠ D := fun e => by
      have := b4 _ _ nDa nDl hD
      rw [e, this] at nnl
      cases nnl
    obtain ⟨nla, nll, nlp⟩ := hand_ne p4 nnl
    have hys5 := dps_hx p3 p5 b45 hys (cellsN_h cs)
    refine ⟨_, rfl, _, rfl, by omega, by omega, fun E0' nE => ?_⟩
    obtain ⟨nEa, nEl, nEp⟩ := hand_ne p5 nE
    have b05 := b3.trans b45
    have nE0 : H E0' = none := by
      cases e : H E0' with
      | none => rfl
      | some o => rw [b05 _ _ nEa nEl e] at nE; cases nE
    have nED : D ≠ E0' := ne_of_none hD5 nE
    have nEn : nl ≠ E0' := ne_of_none hnl nE
    refine it_any (n := ((m : Nat) : Int).toNat) walk_range (fun i J => ∃ (dys : List V) (ds : List (Str × Int × List Row)), (∀ b' o, b' ≠ a → b' ≠ l → H5 b' = some o → J b' = some o) ∧ HandAt J a l pl ∧ J E0' = some (.lst dys) ∧ DpAll K J dys (ds.map deedD) ∧ ds.length = i ∧ ds.map (·.1) = ns.take i ∧ ∀ d ∈ ds, (1 ≤ d.2.1 ∧ d.2.1 ≤ 3) ∧ BodH c d.2.2) ⟨[], [], fun b' o n1 n2 e => same_new nE _ _ e, p5.same (same_new nE), upd_same, .nil, rfl, rfl, fun d h => nomatch h⟩ (fun _ _ _ _ => trivial) ?_ ?_
    · rintro i z J0 J hi ⟨dys, ds, bj, pj, hE, hds, eld, enm, hok2⟩ ⟨rfl, rfl⟩
      have him : i < m := by have : i < ((m : Nat) : Int).toNat := hi; omega
      obtain ⟨nm, hnm⟩ : ∃ nm, ns[i]? = some nm := ⟨_, List.getElem?_eq_getElem (by omega)⟩
      have hat : atI (ns.map V.str) ((0 : Int) + (i : Nat)) = some (.str nm) := by
        rw [Int.zero_add]
        exact atI_nat (by rw [List.getElem?_map, hnm]; rfl)
      refine ⟨rfl, _, rfl, _, rfl, nl, _, _, _, rfl, rfl, .of (bj _ _ nla nll hnl), hat, _, rfl, a, l, pl, 3, rfl, pj, by omega, fun ch J2 b2' p2' hch => ⟨_, _, rfl, rfl, ?_⟩⟩
      refine ⟨_, rfl, _, rfl, a, l, pl, c, rfl, p2', ⟨hc.1, by omega⟩, fun v rs J3 b3' p3' dv hb => ⟨(by show 3 ≤ sizeLine; decide), fun t nt => ?_⟩⟩
      have s4 := same_new (o := .tup [.str nm, .int (1 + ch), v]) nt
      have b24 := b2'.trans b3'
      have f4 : Dp K (upd J3 t (.tup [.str nm, .int (1 + ch), v])) (.ref t) (deedD (nm, 1 + ch, rs)) := .tup (.of upd_same) (.cons (.str _) (.cons (.int _) (.cons (dp_same s4 dv) .nil)))
      have hE4 := s4 _ _ (b24 _ _ nEa nEl hE)
      have hds4 := dps_same s4 (dps_hx pj p3' b24 hds (deedsN_h ds))
      have p4' := p3'.same s4
      have bj4 : ∀ b' o, b' ≠ a → b' ≠ l → H5 b' = some o → upd J3 t (.tup [.str nm, .int (1 + ch), v]) b' = some o := fun b' o n1 n2 e => s4 _ _ (b24 _ _ n1 n2 (bj _ _ n1 n2 e))
      generalize upd J3 t (.tup [.str nm, .int (1 + ch), v]) = J4 at f4 hE4 hds4 p4' bj4 ⊢
      have bb : But E0' J4 (upd J4 E0' (.lst (dys ++ [.ref t]))) := But.upd
      have ldy : dys.length = ds.length := by rw [dps_len hds, List.length_map]
      refine ⟨dys, hE4, by rw [sizeLine_eq]; omega, dys ++ [.ref t], ds ++ [(nm, 1 + ch, rs)], fun b' o n1 n2 e => bb _ _ (ne_of_none e nE) (bj4 _ _ n1 n2 e), p4'.but bb ⟨nEa, nEl, nEp⟩, upd_same, ?_, by simp [eld], ?_, fun d hd => ?_⟩
      · rw [List.map_append]
        exact dps_app (dps_but (.lst hE4) bb hds4 (deedsN_h ds)) (.cons (dp_but (.lst hE4) bb f4 (deed_noL _)) .nil)
      · rw [List.map_append, enm, take_more hnm]
        rfl
      · rcases List.mem_append.mp hd with h | h
        · exact hok2 d h
        · rw [List.mem_singleton.mp h]
          exact ⟨⟨by show 1 ≤ 1 + ch; omega, by show 1 + ch ≤ 3; omega⟩, hb⟩
    rintro J ⟨dys, ds, bj, pj, hE, hds, eld, enm, hok2⟩
    rw [show ((m : Nat) : Int).toNat = m by omega] at enm eld
    refine hR D E0' nl c m ns cs ds _ _ J ⟨fun b' o n1 n2 e => bj _ _ n1 n2 (b05 _ _ n1 n2 e), pj, ⟨⟨nDa, nDl, nDp⟩, ⟨nEa, nEl, nEp⟩, ⟨nla, nll, nlp⟩, nED, nEn⟩, nE0, ⟨ys, bj _ _ nDa nDl hD5, ?_⟩, ⟨el, hc, hcs⟩, bj _ _ nla nll hnl, ⟨lns, hm, hok, hnd⟩, ⟨dys, hE, hds⟩, ⟨fun d hd => ⟨?_, hok2 d hd⟩, by rw [enm]; exact hnd.sublist (List.take_sublist _ _)⟩⟩ enm
    · exact dps_hx p5 pj bj hys5 (cellsN_h cs)
    · have : d.1 ∈ ns.take m := by rw [← enm]; exact List.mem_map.mpr ⟨d, hd, rfl⟩
      exact hok _ (List.mem_of_mem_take this)
  intro cl dl nl c m ns cs ds z4 z5 G sw enm
  obtain ⟨⟨nca, ncl, ncp⟩, ⟨nda, ndl, ndp⟩, ⟨nna, nnl, nnp⟩, ncd, nnd⟩ := sw.ne
  obtain ⟨cxs, hcl, hcx⟩ := sw.cl
  obtain ⟨dxs, hdl, hdx⟩ := sw.dl
  have hnn := sw.nn
  have hcn := sw.cn
  have lds : ds.length = m := by
    have := congrArg List.length enm
    rw [List.length_map, List.length_take] at this
    omega
  have lns : ns.length = m + 1 := hnn.1
  obtain ⟨nm, hnm⟩ : ∃ nm, ns[m]? = some nm := ⟨_, List.getElem?_eq_getElem (by omega)⟩
  have hat : atI (ns.map V.str) (m : Int) = some (.str nm) := atI_nat (by rw [List.getElem?_map, hnm]; rfl)
  -- one deed more
  have more : ∀ (j : Nat) (k : Int) (rs : List Row), (1 ≤ k ∧ k ≤ 3) → BodH c rs → DeedsH c (ds.take j ++ [(nm, k, rs)] ++ ds.drop j) ∧ (ds.take j ++ [(nm, k, rs)] ++ ds.drop j).length = m + 1 := fun j k rs hk hb => by
    have pm : (ds.take j ++ [(nm, k, rs)] ++ ds.drop j).Perm ((nm, k, rs) :: ds) := by
      rw [List.append_assoc]
      refine List.perm_middle.trans ?_
      show ((nm, k, rs) :: (ds.take j ++ ds.drop j)).Perm _
      rw [List.take_append_drop]
    refine ⟨⟨fun d hd => ?_, ?_⟩, by rw [pm.length_eq, List.length_cons, lds]⟩
    · rcases List.mem_cons.mp (pm.mem_iff.mp hd) with rfl | h
      · exact ⟨hnn.2.2.1 nm (List.mem_of_getElem? hnm), hk, hb⟩
      · exact sw.dk.ok d h
    · refine (pm.map (·.1)).nodup_iff.mpr ?_
      rw [List.map_cons, enm]
      refine List.nodup_cons.mpr ⟨fun h => ?_, hnn.2.2.2.sublist (List.take_sublist _ _)⟩
      obtain ⟨i, hi, ei⟩ := List.mem_iff_getElem.mp h
      rw [List.length_take] at hi
      rw [List.getElem_take] at ei
      have e1 : ns[i]? = some nm := by rw [List.getElem?_eq_getElem (by omega), ei]
      have := nd_ixG hnn.2.2.2 e1 hnm
      omega
  refine (?key2 : ∀ R : TS, (∀ (dxs' : List V) (ds' : List (Str × Int × List Row)) (G' : Hp), Bx a l H G' → HandAt G' a l pl → (∃ cxs, G' cl = some (.lst cxs) ∧ DpAll K G' cxs (cs.map cellD)) → G' dl = some (.lst dxs') → DpAll K G' dxs' (ds'.map deedD) → DeedsH c ds' → (1 ≤ ds'.length ∧ ds'.length ≤ 5) → R _ [some (.ref a), some (.int st), some (.int (c : Int)), some (.ref cl), z4, z5, some (.int (m : Int)), some (.ref nl), some (.ref dl)] G') → tSeq _ (tSeq _ R) _ _ _) _ ?rest2
  case key2 =>
    intro R hR
    -- the list changed
    have ins : ∀ (j : Int) (k : Int) (v : V) (rs : List Row) (J : Hp) (t : Addr), (0 ≤ j ∧ j < (m : Int) + 1) → (1 ≤ k ∧ k ≤ 3) → BodH c rs → Bx a l G J → HandAt J a l pl → Dp K J v (.tuple (rowsD rs)) → J t = none → ∀ Z : Hp → Prop, (∀ G', Bx a l H G' → HandAt G' a l pl → (∃ cxs, G' cl = some (.lst cxs) ∧ DpAll K G' cxs (cs.map cellD)) → G' dl = some (.lst (dxs.take j.toNat ++ [.ref t] ++ dxs.drop j.toNat)) → DpAll K G' (dxs.take j.toNat ++ [.ref t] ++ dxs.drop j.toNat) ((ds.take j.toNat ++ [(nm, k, rs)] ++ ds.drop j.toNat).map deedD) → Z G') → (upd J t (.tup [.str nm, .int k, v])) dl = some (.lst dxs) ∧ Z (upd (upd J t (.tup [.str nm, .int k, v])) dl (.lst (dxs.take j.toNat ++ [.ref t] ++ dxs.drop j.toNat))) := fun j k v rs J t hj hk hb bJ pJ dv nt Z kz => by
      have s4 := same_new (o := .tup [.str nm, .int k, v]) nt
      have f4 : Dp K (upd J t (.tup [.str nm, .int k, v])) (.ref t) (deedD (nm, k, rs)) := .tup (.of upd_same) (.cons (.str _) (.cons (.int _) (.cons (dp_same s4 dv) .nil)))
      have p4 := pJ.same s4
      have b4 : Bx a l G (upd J t (.tup [.str nm, .int k, v])) := bJ.trans (Same.bx s4)
      generalize upd J t (.tup [.str nm, .int k, v]) = J4 at f4 p4 b4 ⊢
      have hdl4 := b4 _ _ nda ndl hdl
      have hdx4 := dps_hx sw.hd p4 b4 hdx (deedsN_h ds)
      have hcl4 := b4 _ _ nca ncl hcl
      have hcx4 := dps_hx sw.hd p4 b4 hcx (cellsN_h cs)
      have bb : But dl J4 (upd J4 dl (.lst (dxs.take j.toNat ++ [.ref t] ++ dxs.drop j.toNat))) := But.upd
      have hdx5 := dps_but (.lst hdl4) bb hdx4 (deedsN_h ds)
      refine ⟨hdl4, kz _ (fun b' o n1 n2 e => bb _ _ (ne_of_none e sw.n0) (b4 _ _ n1 n2 (sw.bx _ _ n1 n2 e))) (p4.but bb ⟨nda, ndl, ndp⟩) ⟨cxs, bb _ _ ncd hcl4, dps_but (.lst hdl4) bb hcx4 (cellsN_h cs)⟩ upd_same ?_⟩
      rw [List.map_append, List.map_append, List.map_take, List.map_drop]
      exact dps_app (dps_app (dps_takeH _ hdx5) (.cons (dp_but (.lst hdl4) bb f4 (deed_noL _)) .nil)) (dps_dropH _ hdx5)
    have skip := hR dxs ds G sw.bx sw.hd ⟨cxs, hcl, hcx⟩ hdl hdx sw.dk ⟨by omega, by omega⟩
    have ldx : dxs.length = ds.length := by rw [dps_len hdx, List.length_map]
    refine ⟨_, rfl, rfl, _, rfl, ?_⟩
    by_cases s1 : st = 1
    · rw [decide_eq_true (show V.int st = V.int 1 from congrArg V.int s1)]
      refine iteT ⟨_, rfl, .inl ⟨rfl, _, .of hdl⟩, _, rfl, _, rfl, _, _, rfl, rfl, a, l, pl, (m : Int) + 1, rfl, sw.hd, by omega, fun j G1 b1 p1 hj => ?_⟩
      refine ⟨_, rfl, _, rfl, nl, _, _, _, rfl, rfl, .of (b1 _ _ nna nnl sw.nl), hat, _, rfl, _, rfl, c, rfl, ⟨hcn.2.1.1, by omega⟩, fun v rs G2 s2 dv hb => ⟨(by show 3 ≤ sizeLine; decide), fun t nt => ?_⟩⟩
      obtain ⟨o1, o2⟩ := more j.toNat c rs (by omega) (hb c (Nat.le_refl _))
      obtain ⟨h1, h2⟩ := ins j c v rs G2 t hj (by omega) (hb c (Nat.le_refl _)) (b1.trans (Same.bx s2)) (p1.same s2) dv nt _ (fun G' g1 g2 g3 g4 g5 => hR _ _ G' g1 g2 g3 g4 g5 o1 (by omega))
      refine ⟨dl, dxs, j, _, rfl, rfl, h1, by rw [sizeLine_eq]; omega, hj.1, by omega, ?_⟩
      refine ⟨_, rfl, rfl, _, rfl, ?_⟩
      rw [decide_eq_false (show ¬ V.int st = V.int 2 from fun z => by have := V.int.inj z; omega)]
      exact iteF h2
    rw [decide_eq_false (show ¬ V.int st = V.int 1 from fun z => s1 (V.int.inj z))]
    refine iteF ⟨_, rfl, rfl, _, rfl, ?_⟩
    by_cases s2 : st = 2
    · rw [decide_eq_true (show V.int st = V.int 2 from congrArg V.int s2)]
      refine iteT ⟨_, rfl, .inl ⟨rfl, _, .of hdl⟩, _, rfl, _, rfl, _, _, rfl, rfl, a, l, pl, (m : Int) + 1, rfl, sw.hd, by omega, fun j G1 b1 p1 hj => ?_⟩
      refine ⟨_, rfl, _, rfl, nl, _, _, _, rfl, rfl, .of (b1 _ _ nna nnl sw.nl), hat, 1, rfl, ⟨by decide, by decide⟩, fun v rs G2 s2 dv hb => ⟨(by show 3 ≤ sizeLine; decide), fun t nt => ?_⟩⟩
      obtain ⟨o1, o2⟩ := more j.toNat 1 rs (by decide) (hb c hcn.2.1.1)
      obtain ⟨h1, h2⟩ := ins j 1 v rs G2 t hj (by decide) (hb c hcn.2.1.1) (b1.trans (Same.bx s2)) (p1.same s2) dv nt _ (fun G' g1 g2 g3 g4 g5 => hR _ _ G' g1 g2 g3 g4 g5 o1 (by omega))
      exact ⟨dl, dxs, j, _, rfl, rfl, h1, by rw [sizeLine_eq]; omega, hj.1, by omega, h2⟩
    rw [decide_eq_false (show ¬ V.int st = V.int 2 from fun z => s2 (V.int.inj z))]
    exact iteF skip
  rintro dxs' ds' G' bG pG ⟨cxs', hcl', hcx'⟩ hdl' hdx' dk ln
  refine ⟨_, rfl, .inl ⟨cl, _, rfl, .of hcl', fun t1 n1 => ?_⟩⟩
  have s1 := same_new (o := .tup cxs') n1
  have f1 : upd G' t1 (.tup cxs') t1 = some (.tup cxs') := upd_same
  have hdl1 := s1 _ _ hdl'
  generalize upd G' t1 (.tup cxs') = K1 at s1 f1 hdl1 ⊢
  refine ⟨_, rfl, .inl ⟨dl, _, rfl, .of hdl1, fun t2 n2 => ⟨(by show 2 ≤ sizeLine; decide), fun t3 n3 => ?_⟩⟩⟩
  have s2 := same_new (o := .tup dxs') n2
  have f2 : upd K1 t2 (.tup dxs') t2 = some (.tup dxs') := upd_same
  generalize upd K1 t2 (.tup dxs') = K2 at s2 f2 n3 ⊢
  have s3 := same_new (o := .tup [.ref t1, .ref t2]) n3
  have s13 := (s1.trans s2).trans s3
  refine q t3 t1 t2 cxs' dxs' ⟨cs, ds'⟩ _ (bG.trans (Same.bx s13)) (pG.same s13) upd_same ((s2.trans s3) _ _ f1) (s3 _ _ f2) (dps_same s13 hcx') (dps_same s13 hdx') ⟨by show 1 ≤ cs.length; omega, by show cs.length ≤ 6; omega, hcn.2.2, ln.1, by show ds'.length ≤ 8; omega, fun d hd => ?_, dk.nd⟩ ⟨by show cs.length ≤ 3; omega, ln.2⟩ (fun d hd => ⟨(dk.ok d hd).2.1.2, (dk.ok d hd).2.2.cc⟩)
  obtain ⟨k1, k2, k3⟩ := dk.ok d hd
  exact ⟨k1, ⟨k2.1, by omega⟩, by show rowsOk (cs.length : Nat) 1 0 d.2.2; rw [hcn.1]; exact k3.ok, by rw [k3.cc]; decide, k3.cl⟩
end

end M

set_option Elab.async false
set_option linter.all false
set_option maxRecDepth 100000
set_option maxHeartbeats 2000000
namespace M
open PySem PySem.Spec PyProof.Rows L2

def callsI (ds : List (Str × Int × List Row)) : List (Str × Int) := ds.flatMap fun d => (List.range d.2.1.toNat).map fun (j : Nat) => (d.1, (j : Int))
theorem callsI_snoc (l : List (Str × Int × List Row)) (d : Str × Int × List Row) : callsI (l ++ [d]) = callsI l ++ (List.range d.2.1.toNat).map fun (j : Nat) => (d.1, (j : Int)) := by simp [callsI]
theorem callsI_len : ∀ l : List (Str × Int × List Row), (∀ d ∈ l, d.2.1 ≤ 9) → (callsI l).length ≤ 9 * l.length
  | [], _ => by simp [callsI]
  | d :: r, h => by
    have e : callsI (d :: r) = ((List.range d.2.1.toNat).map fun (j : Nat) => (d.1, (j : Int))) ++ callsI r := by simp [callsI]
    have h1 := h d List.mem_cons_self
    have h2 := callsI_len r fun d hd => h d (List.mem_cons_of_mem _ hd)
    rw [e, List.length_append, List.length_map, List.length_range, List.length_cons]
    omega
theorem tups_appI {H : Hp} : ∀ {ys zs : List V} {cs ds : List (Str × Int)}, TupsAt H ys cs → TupsAt H zs ds → TupsAt H (ys ++ zs) (cs ++ ds)
  | [], _, [], _, _, k => k
  | _ :: _, _, _ :: _, _, ⟨h, r⟩, k => ⟨h, tups_appI r k⟩
  | [], _, _ :: _, _, h, _ => h.elim
  | _ :: _, _, [], _, h, _ => h.elim
theorem ix_tupKI {X : Cx} (K : PySem.W.Frag) (hK : X.K = K) : IxR X (rIxT K) := hK ▸ ix_tup
section
variable {P : Program} {w : World} {K : PySem.W.Frag} {mg : Str → Option Value} {base : Heap}
def spCallsH (K : PySem.W.Frag) : Sp := fun vs H Q _ => ∃ (t c d : Addr) (dxs : List V) (ds : List (Str × Int × List Row)), vs = [.ref t] ∧ H t = some (.tup [.ref c, .ref d]) ∧ H d = some (.tup dxs) ∧ DpAll K H dxs (ds.map deedD) ∧ ds.length ≤ 8 ∧ (∀ x ∈ ds, 1 ≤ x.2.1 ∧ x.2.1 ≤ 9) ∧
  ∀ (l : Addr) (ys : List V) (H' : Hp), Same H H' → H l = none → H' l = some (.lst ys) → TupsAt H' ys (callsI ds) → Q (.ref l) H'
theorem ca_l_calls (T : Txt w K mg) : Ca P w K mg base 1 "_law_calls" (spCallsH K) := by
  refine ca_of (N := ["_law_shape_here", "_law_calls_here", "_law_deed", "_law_k"]) (ps := ["_law_shape_here"]) T.f_l_calls T.g_law_calls ⟨rfl, rfl, rfl, by decide +kernel, rfl, by decide +kernel, by decide +kernel⟩ (fun _ _ _ _ _ _ us hl => match us, hl with | [_], _ => rfl)
    (fun vs H Q E h => by obtain ⟨t, c, d, dxs, ds, rfl, ht, hd, hdx, l8, hch, q⟩ := h; rfl) (fun cdv A outer s H vs Q E hr h => ?_)
  have nd : (["_law_shape_here", "_law_calls_here", "_law_deed", "_law_k"] : List Str).Nodup := by decide +kernel
  obtain ⟨t, c, d, dxs, ds, rfl, ht, hd, hdx, l8, hch, q⟩ := h
  refine ⟨_, (pss_cons (ps_set (i := 1) nd rfl (.inl rfl) (pe_lst pa_nil))
      (pss_cons (ps_for PassesOwn.never rfl (pi_tup (pe_ix ix_tup (pv 0) pe_int (fun _ _ => rfl))) (pg_name (i := 2) nd rfl (.inr rfl)) (pss_one (ps_set (i := 1) nd rfl (.inl rfl) (pe_op op_cat (pv 1) (pe_lc (own := [("_law_k", 3)]) (tt := tYes) rfl nd (pi_range1 rfl T.b_range (pa_cons (pe_ix ix_tup (pv 2) pe_int (fun _ _ => rfl)) pa_nil)) (blkOk_by (N := ["_law_shape_here", "_law_calls_here", "_law_deed", "_law_k"]) (sc := defScope s_l_calls) (by decide +kernel)) (fun _ _ _ _ _ => pg_name (i := 3) nd rfl (.inl rfl)) (fun _ _ _ _ _ => pts_nil) (fun _ _ _ _ _ => pe_tup (pa_cons (pe_ix (ix_tupKI K rfl) (pv 2) pe_int (fun _ _ => rfl)) (pa_cons (pv 3) pa_nil))))))))
      (pss_one (ps_ret (pv 1))))), ?_⟩
  have lx : dxs.length = ds.length := by rw [dps_len hdx, List.length_map]
  refine ⟨(by show 0 ≤ sizeLine; exact Nat.zero_le _), fun l0 nl0 => ?_⟩
  have s0 := same_new (o := .lst []) nl0
  have e0 : upd H l0 (.lst []) l0 = some (.lst []) := upd_same
  generalize upd H l0 (.lst []) = H0 at s0 e0 ⊢
  refine ⟨_, rfl, _, _, _, _, rfl, rfl, .of (s0 _ _ ht), at1, d, rfl, ⟨_, .of (s0 _ _ hd)⟩, for_tup (xs := dxs) (fun i σ' H' => ∃ (l : Addr) (ys : List V) (z2 z3 : Option V), σ' = [some (.ref t), some (.ref l), z2, z3] ∧ Same H H' ∧ H l = none ∧ H' l = some (.lst ys) ∧ TupsAt H' ys (callsI (ds.take i))) ⟨l0, [], none, none, rfl, s0, nl0, e0, trivial⟩ (fun i σ' H' _ ⟨_, _, _, _, _, s, _⟩ => .of (s _ _ hd)) ?_ ?_⟩
  · rintro i x σ' H' hx ⟨l, ys, z2, z3, rfl, s1, nl, hl, hys⟩
    obtain ⟨dd, edd, hdd⟩ := dps_get hdx hx
    obtain ⟨dv, edv, rfl⟩ := get_mapA edd
    obtain ⟨td, x1, x2, x3, rfl, htd, e1, e2, e3⟩ := dp3 hdd
    cases dp_str e1
    cases dp_int e2
    have c9 := hch dv (List.mem_of_getElem? edv)
    have hi8 : i < ds.length := (List.getElem?_eq_some_iff.mp edv).1
    have lys := tups_len hys
    have lci := callsI_len (ds.take i) fun x hx => (hch x (List.mem_of_mem_take hx)).2
    rw [List.length_take] at lci
    refine ⟨_, rfl, _, rfl, _, _, _, _, rfl, rfl, same_t s1 htd, at1, dv.2.1, rfl, by omega, by omega, fun D nD => ?_⟩
    refine it_any (n := dv.2.1.toNat) walk_range (fun j J => ∃ zs : List V, Same H' J ∧ J D = some (.lst zs) ∧ TupsAt J zs ((List.range j).map fun (j : Nat) => (dv.1, (j : Int)))) ⟨[], same_new nD, upd_same, trivial⟩ (fun _ _ _ _ => trivial) ?_ ?_
    · rintro j z J0 J hj ⟨zs, sj, hD, hzs⟩ ⟨rfl, rfl⟩
      refine ⟨rfl, _, rfl, _, _, _, _, rfl, rfl, same_t (s1.trans sj) htd, at0, _, rfl, (by show 2 ≤ sizeLine; decide), fun u nu => ?_⟩
      have sn := same_new (o := .tup [.str dv.1, .int (0 + (j : Int))]) nu
      have fu : upd J u (.tup [.str dv.1, .int (0 + (j : Int))]) u = some (.tup [.str dv.1, .int (0 + (j : Int))]) := upd_same
      have hD2 := sn _ _ hD
      have hz2 := tups_same sn hzs
      generalize upd J u (.tup [.str dv.1, .int (0 + (j : Int))]) = J2 at sn fu hD2 hz2 ⊢
      have bb : But D J2 (upd J2 D (.lst (zs ++ [.ref u]))) := But.upd
      have lz := tups_len hzs
      rw [List.length_map, List.length_range] at lz
      have hj9 : j < 9 := by have : j < dv.2.1.toNat := hj; omega
      refine ⟨zs, hD2, by rw [sizeLine_eq]; omega, zs ++ [.ref u], fun b o e => bb _ _ (ne_of_none e nD) (sn _ _ (sj _ _ e)), upd_same, ?_⟩
      rw [List.range_succ, List.map_append]
      rw [Int.zero_add] at fu
      exact tups_but (.lst hD2) bb (tups_snoc (c := (dv.1, (j : Int))) fu hz2)
    · rintro J ⟨zs, sj, hD, hzs⟩
      have lz := tups_len hzs
      rw [List.length_map, List.length_range] at lz
      have hlJ := sj _ _ hl
      have sJ := s1.trans sj
      refine ⟨l, D, _, _, rfl, rfl, hlJ, hD, by rw [sizeLine_eq]; omega, fun p np => ?_⟩
      have sn := same_new (o := .lst (ys ++ zs)) np
      refine ⟨p, ys ++ zs, _, _, rfl, sJ.trans sn, none_of sJ np, upd_same, ?_⟩
      rw [take_more edv, callsI_snoc]
      exact tups_same sn (tups_appI (tups_same sj hys) hzs)
  · rintro σ' H' ⟨l, ys, z2, z3, rfl, s1, nl, hl, hys⟩
    rw [lx, List.take_length] at hys
    exact ⟨_, rfl, q l ys H' s1 nl hl hys⟩
end

end M

set_option Elab.async false
set_option linter.all false
set_option maxRecDepth 100000
set_option maxHeartbeats 2000000
namespace M
open PySem PySem.Spec PyProof.Rows L2

/-! ### methods that may raise -/
structure MeX (P : Program) (w : World) (K : PySem.W.Frag) (mg : Str → Option Value) (base : Heap) (k : Nat) (C : Addr) (m : Str) (sp : Sp) : Prop where
  ex : ∃ (f : Addr) (fd : FuncData) (ps : List Str), Cls K C ∧ Meth K C m f ∧ FnOk P w K mg base (L2.CX P w) k f fd ps sp ∧ Binds K fd ps []
section
variable {P : Program} {w : World} {K : PySem.W.Frag} {mg : Str → Option Value} {base : Heap} {x m q : Str} {st : Stmt} {N ps : List Str} {k : Nat} {sp : Sp} {C f : Addr}
theorem me_ofX {C : Str} (F : ∃ fd, FunD K m q (defArgs st) (defBody st) (defScope st) [] [] (He.fAd K (C, some m)) fd) (c : Cls K (He.ga K C)) (g : Meth K (He.ga K C) m (He.ma K (He.ga K C) m)) (S : FnScope N ps (defScope st)) (hb : BindsH m q st ps) (len : ∀ vs H Q E, sp vs H Q E → vs.length = ps.length)
    (hbody : BodyX P w K mg base q st N k (He.fAd K (C, some m)) sp) : MeX P w K mg base (k + 1) (He.ga K C) m sp := by
  obtain ⟨fd, F⟩ := F
  exact ⟨_, fd, ps, c, g, F.ok S len hbody, F.bindsN hb⟩
end
section
variable {X : Cx} {k j : Nat} {x m : Str} {sp : Sp} {C : Addr} {p pos apos : Pos} {e o : Expr} {es : List Expr} {t : TA} {ta : TE}
theorem pe_meX {pl : Sem Bool} {W : WX} (c : MeX X.prog X.w X.K X.mg X.base k C m sp) (hr : Room j X.A) (tk : Takes X W) (he : PE X o ta) (ha : PA X (e :: es) t) (hk : k ≤ j := by decide)
    (hst : starEach (e :: es) X.env = (false, eval e X.env) :: starEach es X.env := by rfl) (hpl : (backTo pos (starEach es X.env)).any (·.1) = false := by rfl)
    (ht : eval (.Call (.Attribute o m apos) (e :: es) [] pos) X.env = (do
      let ov ← eval o X.env
      standAt apos.atName
      let (f, first) ← holding [ov] (getMethod ov m pl)
      callWith pos f first (backTo pos (starEach (e :: es) X.env)) (backToKw pos (keywordEach [] X.env))) := by rfl) :
    PE X (.Call (.Attribute o m apos) (e :: es) [] pos) (fun σ H Q => ta σ H fun x H1 => ∃ a dx fs, x = .ref a ∧ H1 a = some (.ins C dx fs) ∧ fs.lookup m = none ∧ t σ H1 fun vs H2 => sp (x :: vs) H2 Q (WE W σ)) := by
  obtain ⟨f, fd, ps, hc, hm, F, b⟩ := c.ex
  refine ⟨fun pins s σ H Q I h => ?_⟩
  refine PySem.W.methodCall_KW (pl := pl) (thn (he.run pins s σ H _ I h) fun u s1 ⟨x, H1, I1, rx, a, dx, fs, ex, ea, l, q⟩ => ?_) ht
  subst ex
  obtain rfl : u = Value.ref a := rx
  refine getmeth_ok I1 ea hc hm l ?_
  refine PySem.W.callWith_K (first := [.ref a]) (h₀ := X.base) I.ok.mod.kin hm.kp (thn (ha.run pos pins s1 σ H1 _ I1 q) fun us s2 ⟨vs, H2, I2, r, q2⟩ => ⟨I2.kIn, ?_⟩) hst hpl
  exact run_fnS (E := WE W) (us := .ref a :: us) (vs := .ref a :: vs) F (hr.mono hk) b (passAt tk σ) I2 (.cons rfl r) q2
end
def callD (c : Str × Int) : PyData := .tuple [.str c.1, .int c.2]
/-- the call that a thing is, if it is a tuple of a text and a whole number -/
def cOf : Option PyData → Option (Str × Int)
  | some (.tuple [.str n, .int a]) => some (n, a)
  | _ => none
theorem cOf_eq {o : Option PyData} {c : Str × Int} (h : cOf o = some c) : o = some (callD c) := by
  unfold cOf at h
  split at h
  · cases h
    rfl
  · cases h
theorem cOf_callD (c : Str × Int) : cOf (some (callD c)) = some c := rfl
/-- what may be handed in -/
inductive Th (K : PySem.W.Frag) (H : Hp) : V → Option PyData → Prop where
  | dat {v : V} {d : PyData} (h : Dp K H v d) : Th K H v (some d)
  | dic {a : Addr} {kvs : List (Key × V)} (h : H a = some (.dK kvs)) : Th K H (.ref a) none
theorem Th.same {K : PySem.W.Frag} {H H' : Hp} {v : V} {o : Option PyData} (s : Same H H') (h : Th K H v o) : Th K H' v o := by
  cases h with
  | dat h => exact .dat (dp_same s h)
  | dic h => exact .dic (s _ _ h)
theorem th_kd {K : PySem.W.Frag} {H : Hp} {v : V} {o : Option PyData} (h : Th K H v o) : ∃ k, Of K H v k ∧ (∀ d, o = some d → k = kdOf d) ∧ (o = none → k = .dict) := by
  cases h with
  | dat h => exact ⟨_, dp_kd h, (fun d e => by cases e; rfl), fun z => nomatch z⟩
  | dic h => exact ⟨.dict, .dict (.base (.dK h)), (fun d z => nomatch z), fun _ => rfl⟩
def isLst : Option PyData → Bool
  | some (.list _) => true
  | _ => false
theorem th_ls {K : PySem.W.Frag} {H : Hp} {v : V} {o : Option PyData} (h : Th K H v o) : ∃ k, Of K H v k ∧ k.is .list = isLst o := by
  cases h with
  | dat h =>
    rename_i d
    refine ⟨_, dp_kd h, ?_⟩
    cases d <;> rfl
  | dic h => exact ⟨.dict, .dict (.base (.dK h)), rfl⟩
def inR (lo hi : Int) : PyData → Bool
  | .int i => decide (lo ≤ i) && decide (i ≤ hi)
  | _ => false
/-- a tuple of a text and a whole number is tracked -/
def Trk (H : Hp) (v : V) (o : Option PyData) : Prop := ∀ c, cOf o = some c → ∃ t, v = .ref t ∧ H t = some (.tup [.str c.1, .int c.2])
theorem Trk.same {H H' : Hp} {v : V} {o : Option PyData} (s : Same H H') (h : Trk H v o) : Trk H' v o := fun c e => by
  obtain ⟨t, e1, e2⟩ := h c e
  exact ⟨t, e1, s _ _ e2⟩
theorem Trk.no {H : Hp} {v : V} {o : Option PyData} (h : cOf o = none) : Trk H v o := fun c e => by rw [h] at e; cases e
structure Cg (K : PySem.W.Frag) (H : Hp) (v : V) (o : Option PyData) : Prop where
  tg : Th K H v o
  tr : Trk H v o
theorem Cg.same {K : PySem.W.Frag} {H H' : Hp} {v : V} {o : Option PyData} (s : Same H H') (h : Cg K H v o) : Cg K H' v o := ⟨h.tg.same s, h.tr.same s⟩
def clB (cs : List (Str × Int)) (o : Option PyData) : Bool := match cOf o with
  | some c => decide (c ∈ cs)
  | none => false
theorem clB_some {cs : List (Str × Int)} {o : Option PyData} (h : clB cs o = true) : ∃ (c : Str × Int) (i : Nat), cOf o = some c ∧ cs[i]? = some c := by
  unfold clB at h
  split at h
  · rename_i c e
    obtain ⟨i, hi, ei⟩ := List.mem_iff_getElem.mp (of_decide_eq_true h)
    exact ⟨c, i, e, by rw [List.getElem?_eq_getElem hi, ei]⟩
  · cases h
theorem clB_no {cs : List (Str × Int)} {o : Option PyData} {c : Str × Int} (h : clB cs o = false) (e : cOf o = some c) : c ∉ cs := by
  unfold clB at h
  rw [e] at h
  exact of_decide_eq_false h
/-- a row of things -/
def RowG (K : PySem.W.Frag) (H : Hp) (xs : List V) (os : List (Option PyData)) : Prop := xs.length = os.length ∧ ∀ (i : Nat) (y : V), xs[i]? = some y → ∃ o, os[i]? = some o ∧ Cg K H y o
theorem RowG.same {K : PySem.W.Frag} {H H' : Hp} {xs : List V} {os : List (Option PyData)} (s : Same H H') (h : RowG K H xs os) : RowG K H' xs os := ⟨h.1, fun i y e => by
  obtain ⟨o, e1, e2⟩ := h.2 i y e
  exact ⟨o, e1, e2.same s⟩⟩
/-- the place of the first that is no call -/
def wrongAt (cs : List (Str × Int)) : Nat → List (Option PyData) → Option Nat
  | _, [] => none
  | i, o :: os => if clB cs o = true then wrongAt cs (i + 1) os else some i
/-- what may be handed in as a row -/
inductive Rg (K : PySem.W.Frag) (H : Hp) : V → Option (List (Option PyData)) → Prop where
  | row {a : Addr} {xs : List V} {os : List (Option PyData)} (h : SqL K H a xs) (g : RowG K H xs os) : Rg K H (.ref a) (some os)
  | no {v : V} {o : Option PyData} (h : Th K H v o) (n : isLst o = false) : Rg K H v none
  | tup {a : Addr} {xs : List V} (h : SqT K H a xs) : Rg K H (.ref a) none
theorem Rg.same {K : PySem.W.Frag} {H H' : Hp} {v : V} {o : Option (List (Option PyData))} (s : Same H H') (h : Rg K H v o) : Rg K H' v o := by
  cases h with
  | row h g => exact .row (s.seq h) (g.same s)
  | no h n => exact .no (h.same s) n
  | tup h => exact .tup (same_t s h)
def rwW (cs : List (Str × Int)) : Option (List (Option PyData)) → Option Int
  | none => some (-1)
  | some os => (wrongAt cs 0 os).map fun i => ((i : Nat) : Int)
def natV : Option Nat → V
  | some i => .int (i : Nat)
  | none => .non
namespace R
section
variable {P : Program} {w : World} {K : PySem.W.Frag} {mg : Str → Option Value} {base : Heap}
theorem xi_NoRow (T : Txt w K mg) : Xi P w K mg base 2 "NoRow" "index" := by
  refine xi_of (N := ["self", "index"]) (ps := ["self", "index"]) T.f_NoRow_init T.g_NoRow T.e_NoRow ⟨rfl, rfl, rfl, by decide +kernel, rfl, by decide +kernel, by decide +kernel⟩ (fun _ _ _ _ _ _ us hl => match us, hl with | [_, _], _ => rfl) rfl (fun cdv A outer s H vs Q E hr h => ?_)
  obtain ⟨a, v, rfl, e, g⟩ := h
  exact ⟨_, pss_cons (ps_expr (pe_pinit T.g_PastError T.e_PastError (pa_cons (pv 0) (pa_cons pe_str pa_nil)))) (pss_one (ps_ost (pv 0) (pv 1))), .ref a, rfl, a, _, _, rfl, (by show 1 ≤ 1000; decide), (oexB_ok T.e_NoRow).oex, e, v, rfl, .ref a, rfl, a, _, rfl, (oexB_ok T.e_NoRow).oex, (oexB_ok T.e_NoRow).no, .inl ⟨e, g⟩⟩
def spWithin (K : PySem.W.Frag) : Sp := fun vs H Q _ => ∃ (v : V) (d : PyData) (lo hi : Int), vs = [v, .int lo, .int hi] ∧ Dp K H v d ∧ Q (.bl (inR lo hi d)) H
theorem ca_is_within (T : Txt w K mg) : Ca P w K mg base 2 "is_within" (spWithin K) := by
  refine ca_of (N := ["value", "least", "greatest"]) (ps := ["value", "least", "greatest"]) T.f_is_within T.g_is_within ⟨rfl, rfl, rfl, by decide +kernel, rfl, by decide +kernel, by decide +kernel⟩ (fun _ _ _ _ _ _ us hl => match us, hl with | [_, _, _], _ => rfl)
    (fun vs H Q E h => by obtain ⟨v, d, lo, hi, rfl, hd, q⟩ := h; rfl) (fun cdv A outer s H vs Q E hr h => ?_)
  have nd : (["value", "least", "greatest"] : List Str).Nodup := by decide +kernel
  obtain ⟨v, d, lo, hi, rfl, hd, q⟩ := h
  refine ⟨_, (pss_one (ps_ret (pe_and (pe_ca (M.ca_is_integer T) hr (pa_cons (pv 0) pa_nil)) (pe_one (pe_chain op_le op_le (pv 1) (pv 0) (pv 2)))))), ?_⟩
  refine ⟨_, rfl, _, _, rfl, dp_kd hd, _, rfl, ?_⟩
  cases hd with
  | int i =>
    refine iteT ⟨_, rfl, _, rfl, _, _, rfl, rfl, _, rfl, ?_⟩
    have q : Q (.bl (decide (lo ≤ i) && decide (i ≤ hi))) H := q
    by_cases c : lo ≤ i
    · rw [decide_eq_true c] at q ⊢
      exact iteT ⟨_, rfl, _, _, rfl, rfl, q⟩
    · rw [decide_eq_false c] at q ⊢
      exact iteF q
  | _ => exact iteF q
def spTupT (K : PySem.W.Frag) : Sp := fun vs H Q _ => ∃ (v : V) (o : Option PyData) (n : Nat), vs = [v, .int n] ∧ Th K H v o ∧ Q (.bl (match o with | some (.tuple ds) => decide (ds.length = n) | _ => false)) H
theorem ca_is_tuple (T : Txt w K mg) : Ca P w K mg base 1 "is_tuple" (spTupT K) := by
  refine ca_of (N := ["value", "length"]) (ps := ["value", "length"]) T.f_is_tuple T.g_is_tuple ⟨rfl, rfl, rfl, by decide +kernel, rfl, by decide +kernel, by decide +kernel⟩ (fun _ _ _ _ _ _ us hl => match us, hl with | [_, _], _ => rfl)
    (fun vs H Q E h => by obtain ⟨v, o, n, rfl, ho, q⟩ := h; rfl) (fun cdv A outer s H vs Q E hr h => ?_)
  have nd : (["value", "length"] : List Str).Nodup := by decide +kernel
  obtain ⟨v, o, n, rfl, ho, q⟩ := h
  refine ⟨_, (pss_one (ps_ret (pe_and (pe_is .tuple T.b_isinstance (pv 0) T.b_tuple boot_tuple) (pe_one (pe_cmpR op_eq (pe_callB call_len_seq (by rfl) T.b_len PySem.boot_len (pa_cons (pv 0) pa_nil)) (pv 1) (nomark _)))))), ?_⟩
  obtain ⟨k, kd, k1, k2⟩ := th_kd ho
  refine ⟨_, rfl, _, _, rfl, kd, _, rfl, ?_⟩
  cases o with
  | none =>
    cases k2 rfl
    exact iteF q
  | some d =>
    cases ho with
    | dat h =>
      cases k1 _ rfl
      cases h with
      | tup h1 h2 =>
        rename_i a xs ds
        refine iteT ⟨_, rfl, _, _, rfl, .inr h1, _, rfl, rfl, ?_⟩
        have e : (decide (V.int (xs.length : Int) = V.int n)) = decide (ds.length = n) := by
          rw [dps_len h2]
          exact decide_eq_decide.mpr ⟨fun z => by have := V.int.inj z; omega, fun z => by rw [z]⟩
        rw [e]
        exact q
      | _ => exact iteF q
def spNumT (K : PySem.W.Frag) : Sp := fun vs H Q _ => ∃ (d : Addr) (v : V) (cs : List (Str × Int)) (o : Option PyData), vs = [.ref d, v] ∧ H d = some (.dT (numK cs)) ∧ cs.Nodup ∧ Cg K H v o ∧ (clB cs o = false → Q (.int (-1)) H) ∧ (∀ (i : Nat) (c : Str × Int), cOf o = some c → cs[i]? = some c → Q (.int (i : Nat)) H)
theorem ca_call_number (T : Txt w K mg) : Ca P w K mg base 3 "call_number" (spNumT K) := by
  refine ca_of (N := ["numbers", "value"]) (ps := ["numbers", "value"]) T.f_call_number T.g_call_number ⟨rfl, rfl, rfl, by decide +kernel, rfl, by decide +kernel, by decide +kernel⟩ (fun _ _ _ _ _ _ us hl => match us, hl with | [_, _], _ => rfl)
    (fun vs H Q E h => by obtain ⟨d, v, cs, o, rfl, hd, nds, cg, qn, qi⟩ := h; rfl) (fun cdv A outer s H vs Q E hr h => ?_)
  have nd : (["numbers", "value"] : List Str).Nodup := by decide +kernel
  obtain ⟨d, v, cs, o, rfl, hd, nds, cg, qn, qi⟩ := h
  refine ⟨_, (pss_cons (ps_if (PW.pt (pw_or (pt_not (pt_val (pe_ca (ca_is_tuple T) hr (pa_cons (pv 1) (pa_cons pe_int pa_nil))))) (pw_or (pt_not (pt_val (pe_is .str T.b_isinstance (pe_ix ix_tup (pv 1) pe_int (fun _ _ => rfl)) T.b_str boot_str))) (pw_or1 (pt_not (pt_val (pe_ca (ca_is_integer T) hr (pa_cons (pe_ix ix_tup (pv 1) pe_int (fun _ _ => rfl)) pa_nil)))))))) (pss_one (ps_ret (pe_un un_neg pe_int))) pss_nil)
      (pss_one (ps_ret (pe_dget2 (hu_of hr) (pv 0) (pv 1) (pe_un un_neg pe_int) ⟨rfl, rfl, rfl, rfl⟩)))), ?_⟩
  refine ⟨_, rfl, v, o, 2, rfl, cg.tg, _, rfl, ?_⟩
  have no : cOf o = none → Q (.int (-1)) H := fun e => qn (by unfold clB; rw [e])
  cases o with
  | none => exact iteT (iteT ⟨_, rfl, no rfl⟩)
  | some dd => ?_
  by_cases tp : ∃ ds, dd = .tuple ds
  case neg => cases dd <;> first | exact absurd ⟨_, rfl⟩ tp | exact iteT (iteT ⟨_, rfl, no rfl⟩)
  obtain ⟨ds, rfl⟩ := tp
  show if (!decide (ds.length = 2)) = true then _ else _
  by_cases l2 : ds.length = 2
  case neg =>
    rw [decide_eq_false l2]
    refine iteT (iteT ⟨_, rfl, no ?_⟩)
    unfold cOf
    split
    · rename_i e
      cases e
      exact absurd rfl l2
    · rfl
  rw [decide_eq_true l2]
  refine iteF ?_
  obtain ⟨d1, d2, rfl⟩ : ∃ d1 d2, ds = [d1, d2] := by
    match ds, l2 with
    | [x, y], _ => exact ⟨x, y, rfl⟩
  cases cg.tg with | dat hdat => ?_
  obtain ⟨b, x, y, rfl, hb, hx, hy⟩ := dp2 hdat
  refine ⟨_, rfl, _, _, _, _, rfl, rfl, hb, at0, _, _, rfl, dp_kd hx, _, rfl, ?_⟩
  cases hx with
  | str s =>
    refine iteF ⟨_, rfl, _, _, _, _, rfl, rfl, hb, at1, _, _, rfl, dp_kd hy, _, rfl, ?_⟩
    cases hy with
    | int i =>
      obtain ⟨t, et, ht⟩ := cg.tr (s, i) rfl
      cases et
      refine iteF ⟨_, rfl, d, rfl, .inr ⟨_, .inl hd⟩, _, rfl, _, rfl, _, DGet.t hd (k := ckey (s, i)) ht, ?_⟩
      cases e : clB cs (some (.tuple [.str s, .int i])) with
      | false =>
        rw [numK_new (clB_no e rfl)]
        exact qn e
      | true =>
        obtain ⟨c, j, e1, e2⟩ := clB_some e
        cases (Option.some.inj e1)
        rw [numK_val nds e2]
        exact qi j _ rfl e2
    | _ => exact iteT ⟨_, rfl, no rfl⟩
  | _ => exact iteT ⟨_, rfl, no rfl⟩
def spWrong (K : PySem.W.Frag) : Sp := fun vs H Q _ => ∃ (d r : Addr) (cs : List (Str × Int)) (xs : List V) (os : List (Option PyData)), vs = [.ref d, .ref r] ∧ H d = some (.dT (numK cs)) ∧ cs.Nodup ∧ SqL K H r xs ∧ RowG K H xs os ∧ ∀ H', Same H H' → Q (natV (wrongAt cs 0 os)) H'
theorem ca_wrong_item (T : Txt w K mg) : Ca P w K mg base 4 "wrong_item" (spWrong K) := by
  refine ca_of (N := ["numbers", "row", "index", "item"]) (ps := ["numbers", "row"]) T.f_wrong_item T.g_wrong_item ⟨rfl, rfl, rfl, by decide +kernel, rfl, by decide +kernel, by decide +kernel⟩ (fun _ _ _ _ _ _ us hl => match us, hl with | [_, _], _ => rfl)
    (fun vs H Q E h => by obtain ⟨d, r, cs, xs, os, rfl, hd, nds, hr', rg, q⟩ := h; rfl) (fun cdv A outer s H vs Q E hr h => ?_)
  have nd : (["numbers", "row", "index", "item"] : List Str).Nodup := by decide +kernel
  obtain ⟨d, r, cs, xs, os, rfl, hd, nds, hr', rg, q⟩ := h
  refine ⟨_, (pss_cons (ps_for PassesOwn.never rfl (pi_enum (by rfl) T.b_enumerate (pa_cons (pv 1) pa_nil)) (pg_two K 2 3 rfl rfl nd rfl rfl (.inl rfl) (.inl rfl) (.inr rfl) (.inr rfl)) (pss_one (ps_if (pt_cmpR op_lt (pe_ca (ca_call_number T) hr (pa_cons (pv 0) (pa_cons (pv 3) pa_nil))) pe_int (nomark _)) (pss_one (ps_ret (pv 2))) pss_nil)))
      (pss_one (ps_ret pe_non))), ?_⟩
  refine ⟨_, rfl, r, xs, rfl, hr', for_it (n := xs.length) walk_enum (fun i σ' H' => ∃ (x2 x3 : Option V), σ' = [some (.ref d), some (.ref r), x2, x3] ∧ Same H H' ∧ wrongAt cs 0 os = wrongAt cs i (os.drop i)) ⟨none, none, rfl, Same.refl _, rfl⟩ (fun i σ' H' _ ⟨_, _, _, s, _⟩ => s.seq hr') ?_ ?_⟩
  · rintro i x σ' H1 H2 hi ⟨x2, x3, rfl, s, ei⟩ ⟨T, a, b, rfl, hT, rfl, ea, eb⟩
    cases (Option.some.inj ea)
    obtain ⟨o, eo, cg⟩ := rg.2 i b eb
    have w1 : Same H1 (upd H1 T (.tup [.int (i : Nat), b])) := same_new hT
    have s2 := s.trans w1
    rw [List.drop_eq_getElem_cons (List.getElem?_eq_some_iff.mp eo).1, (List.getElem?_eq_some_iff.mp eo).2] at ei
    refine ⟨T, _, rfl, .of upd_same, rfl, _, _, rfl, _, _, rfl, rfl, ?_⟩
    refine ⟨_, rfl, _, rfl, d, b, cs, o, rfl, s2 _ _ hd, nds, cg.same s2, fun e => ?_, fun j c e1 e2 => ?_⟩
    · refine ⟨_, _, rfl, rfl, _, rfl, ?_⟩
      rw [decide_eq_true (show (-1 : Int) < 0 by decide)]
      refine iteT ⟨_, rfl, ?_⟩
      have z : wrongAt cs 0 os = some i := by rw [ei]; unfold wrongAt; rw [e]; rfl
      have := q _ s2
      rw [z] at this
      exact this
    · refine ⟨_, _, rfl, rfl, _, rfl, ?_⟩
      rw [decide_eq_false (show ¬ ((j : Nat) : Int) < 0 from by omega)]
      refine iteF ⟨_, _, rfl, s2, ?_⟩
      rw [ei]
      have : clB cs o = true := by
        unfold clB
        rw [e1]
        exact decide_eq_true (List.mem_of_getElem? e2)
      show (if clB cs o = true then _ else _) = _
      rw [if_pos this]
  · rintro σ' H1 ⟨x2, x3, rfl, s, ei⟩
    rw [List.drop_of_length_le (by rw [rg.1]; exact Nat.le_refl _)] at ei
    have := q H1 s
    rw [ei] at this
    exact this
def spChkRX (K : PySem.W.Frag) : Sp := fun vs H Q E => ∃ (d : Addr) (y : V) (cs : List (Str × Int)) (ro : Option (List (Option PyData))), vs = [.ref d, y] ∧ H d = some (.dT (numK cs)) ∧ cs.Nodup ∧ Rg K H y ro ∧
  (∀ i, rwW cs ro = some i → ∀ x H', Same H H' → H' x = some (HO.xd [("index", V.int i)]) → E (.ref (He.ga K "NoRow")) (some x) H') ∧ (rwW cs ro = none → ∀ H', Same H H' → Q .non H')
theorem cx_check_row (T : Txt w K mg) : CaX P w K mg base 6 "check_row" (spChkRX K) := by
  refine ca_ofX (N := ["numbers", "row", "index"]) (ps := ["numbers", "row"]) T.f_check_row T.g_check_row ⟨rfl, rfl, rfl, by decide +kernel, rfl, by decide +kernel, by decide +kernel⟩ (fun _ _ _ _ _ _ us hl => match us, hl with | [_, _], _ => rfl)
    (fun vs H Q E h => by obtain ⟨d, y, cs, ro, rfl, hd, nds, rg, q1, q2⟩ := h; rfl) (fun cdv A outer s H vs Q E hr h => ?_)
  have nd : (["numbers", "row", "index"] : List Str).Nodup := by decide +kernel
  obtain ⟨d, y, cs, ro, rfl, hd, nds, rg, q1, q2⟩ := h
  refine ⟨_, (pss_cons (ps_if (pt_not (pt_val (pe_is .list T.b_isinstance (pv 1) T.b_list boot_list))) (pss_one (ps_raiseX K rfl (xi_NoRow T) rfl (takes_of rfl rfl rfl rfl) hr (pe_un un_neg pe_int))) pss_nil)
      (pss_cons (ps_set (i := 2) nd rfl (.inl rfl) (pe_ca (ca_wrong_item T) hr (pa_cons (pv 0) (pa_cons (pv 1) pa_nil))))
      (pss_one (ps_if (pt_cmp (pc_notN (pv 2))) (pss_one (ps_raiseX K rfl (xi_NoRow T) rfl (takes_of rfl rfl rfl rfl) hr (pv 2))) pss_nil)))), ?_⟩
  cases rg with
  | no h n =>
    obtain ⟨k, kd, ek⟩ := th_ls h
    refine ⟨_, rfl, _, _, rfl, kd, _, rfl, ?_⟩
    rw [ek, n]
    exact iteT ⟨_, rfl, fun x nx => q1 _ rfl x _ (same_new nx) upd_same⟩
  | tup h =>
    refine ⟨_, rfl, _, _, rfl, .tuple h, _, rfl, ?_⟩
    exact iteT ⟨_, rfl, fun x nx => q1 _ rfl x _ (same_new nx) upd_same⟩
  | @row a xs os h g =>
    refine ⟨_, rfl, _, _, rfl, .list h, _, rfl, iteF ?_⟩
    refine ⟨_, rfl, _, rfl, d, a, cs, xs, os, rfl, hd, nds, h, g, fun H1 s1 => ?_⟩
    cases e : wrongAt cs 0 os with
    | none => exact ⟨_, rfl, _, rfl, iteF (q2 (by show (wrongAt cs 0 os).map _ = none; rw [e]; rfl) H1 s1)⟩
    | some i => exact ⟨_, rfl, _, rfl, iteT ⟨_, rfl, fun x nx => q1 _ (by show (wrongAt cs 0 os).map _ = _; rw [e]; rfl) x _ (s1.trans (same_new nx)) upd_same⟩⟩
end
end R

end M

set_option Elab.async false
set_option linter.all false
set_option maxRecDepth 100000
set_option maxHeartbeats 2000000
namespace M
open PySem PySem.Spec PyProof.Rows L2

/-! ### the pairs of a dict with nested keys -/
def NFr (P : Program) (w : World) (H : Hp) (d : Addr) (o : Obj) (kvs : List (NestedKey × V)) : Prop := (d == sysModules) = false ∧ kvs.length ≤ sizeLine ∧ ∃ zs, NRel H kvs zs ∧ H d = some (.frz o (.ext (NEnt P w d zs)))
theorem NFr.same {P : Program} {w : World} {H H' : Hp} (s : Same H H') {d : Addr} {o : Obj} {kvs : List (NestedKey × V)} (g : NFr P w H d o kvs) : NFr P w H' d o kvs := by
  obtain ⟨g1, g2, zs, r, e⟩ := g
  exact ⟨g1, g2, zs, r.keeps fun b ys j => s _ _ j, s _ _ e⟩
theorem ndat_lock {P : Program} {w : World} {H : Hp} {d : Addr} {kvs : List (NestedKey × V)} (g : NDat P w H d kvs) : ∃ u, H d = some u ∧ Mut (some u) ∧ ∀ od, NFr P w (upd H d (.frz od u)) d od kvs ∧ upd (upd H d (.frz od u)) d u = H := by
  obtain ⟨g1, g2, zs, r, e⟩ := g
  refine ⟨_, e, trivial, fun od => ⟨⟨g1, g2, zs, r.keeps fun b ys j => ?_, upd_same⟩, ?_⟩⟩
  · rw [upd_ne (ne_of j e fun z => nomatch z)]
    exact j
  · funext b
    by_cases c : b = d
    · rw [c, upd_same, e]
    · rw [upd_ne c, upd_ne c]
def Itn (P : Program) (w : World) (d : Addr) (o : Obj) (kvs : List (NestedKey × V)) : It :=
  ⟨fun i H => NFr P w H d o kvs ∧ i < kvs.length, fun i H x H' => ∃ T k v y, kvs[i]? = some (k, v) ∧ NKey H y k ∧ x = .ref T ∧ H T = none ∧ H' = upd H T (.tup [y, v]), fun i H => NFr P w H d o kvs ∧ kvs.length ≤ i⟩
section
variable {X : Cx} {pins : List (Addr × Obj)} {σ : L2.St} {H : Hp} {s : Shared} {d : Addr} {o : Obj}
theorem nfr_at {kvs : List (NestedKey × V)} (h : NFr X.prog X.w H d o kvs) (I : Inv X pins σ H s) : s.heap.get? d = some o ∧ (d == sysModules) = false ∧ ∃ (es : Array DictEntry) (ep : Nat), o.ExactDict ∧ o.data = .dict es ep ∧ es.size = kvs.length ∧
    ∀ (i : Nat) (k : NestedKey) (v : V), kvs[i]? = some (k, v) → ∃ (en : DictEntry) (q : Addr), es[i]? = some en ∧ en.key = .ref q ∧ NKey H (.ref q) k ∧ RelV v en.val := by
  obtain ⟨g1, g2, zs, r, e⟩ := h
  obtain ⟨e1, ⟨⟨o', es, ep, h1, h2, h3, h4, h5⟩, _⟩⟩ := (show ObjOk X.prog X.w H s.heap d (.frz o (.ext (NEnt X.prog X.w d zs))) from I.hok d _ e)
  rw [e1] at h1
  cases h1
  refine ⟨e1, g1, es, ep, h2, h3, ?_, fun i k v ek => ?_⟩
  · have l1 : es.size = zs.length := size_of_entries h4
    have l2 : kvs.length = zs.length := Paired.length r
    omega
  · obtain ⟨b, hb, e1, e2, e3⟩ := paired_get r ek
    have q := entry_at h4 i
    rw [hb] at q
    refine ⟨_, b.2.1, q, rfl, ?_, e3⟩
    exact e2
end
section
variable {P : Program} {w : World} {K : PySem.W.Frag} {d : Addr} {o : Obj} {es : Array DictEntry} {ep : Nat}
theorem turn_itemsN {kvs : List (NestedKey × V)} {elts : List Expr} {kk : Nat} {tpos : Pos} (it : Addr) (hod : o.data = .dict es ep) :
    Turn P w K (.Tuple elts kk tpos) (Itn P w d o kvs) [it] it (fun i h => ∃ ok ov, IsItemIter h it d i kvs.length ep ok ov) where
  mem := by simp
  obj := fun i h st b hb => by
    have e : b = it := by simpa using hb
    subst e
    obtain ⟨ok, ov, e⟩ := st
    exact ⟨_, e, fun v z => nomatch z⟩
  keep := fun i h h' st k => let ⟨ok, ov, e⟩ := st; ⟨ok, ov, k it (by simp) _ e⟩
  item := by
    intro X hP hw hK hc i pins s σ H E I hf st hg
    subst hP hw hK
    obtain ⟨hd, hi⟩ := hg
    obtain ⟨eo, hs, es', ep', hx, hdt, hsz, ent⟩ := nfr_at hd I
    obtain ⟨rfl, rfl⟩ := dict_ep hod hdt
    obtain ⟨⟨k, v⟩, hkv⟩ : ∃ p, kvs[i]? = some p := ⟨kvs[i], List.getElem?_eq_getElem hi⟩
    obtain ⟨en, q, hen, hkey, hq, rv⟩ := ent i k v hkv
    obtain ⟨ok, ov, he⟩ := st
    rw [← hsz] at he
    have hi' : i < es'.size := by omega
    have een : es'[i] = en := by
      rw [Array.getElem?_eq_getElem hi'] at hen
      exact Option.some.inj hen
    have hlt : it < s.heap.objs.size := Heap.lt_size he
    refine wpAny_pyNext_items_item_raw he ⟨o, eo, hx, hdt⟩ hi' fun h' ho hT hz hk => ?_
    rw [een] at ho hT
    refine ⟨_, rfl, wpAny_letOwnedTupleGo_items (s := { s with heap := h' }) ho fun h'' he' sb => ?_⟩
    have hT2 : h''.get? s.heap.objs.size = some { cls := .type "tuple", data := .seq #[en.key, en.val] } := (sb.2 _ (Nat.ne_of_gt hlt)).trans hT
    have new : ObjOk X.prog X.w (upd H s.heap.objs.size (.tup [.ref q, v])) h'' s.heap.objs.size (.tup [.ref q, v]) :=
      ⟨by show 2 ≤ sizeLine; decide, [en.key, en.val], .cons (show RelV (.ref q) en.key from hkey) (.cons rv .nil), ⟨_, hT2, rfl, _, rfl⟩⟩
    have I1 : Inv X pins σ (upd H s.heap.objs.size (.tup [.ref q, v])) { s with heap := h'' } :=
      I.turnedNew (t' := s.toks) (ch := [it]) (fun b ob hb e => (sb.2 b (by simpa using hb)).trans (hk b ob (by simpa using hb) e)) hf (Nat.le_refl _) new
    refine ⟨.ref s.heap.objs.size, _, I1, rfl, ⟨_, k, v, .ref q, hkv, hq, rfl, I.hok.fresh (Nat.le_refl _), rfl⟩, ⟨en.key, en.val, ?_⟩, fun b hb => ?_⟩
    · rw [← hsz]; exact he'
    · have e : b = it := by simpa using hb
      rw [e, upd_ne (Nat.ne_of_lt hlt)]
      exact (hf it (by simp)).1
  done := by
    intro X hP hw hK hc i pins s σ H E I hf st hg
    subst hP hw hK
    obtain ⟨hd, hi⟩ := hg
    obtain ⟨f0, f1, f2, f3, f4, f5⟩ := hf it (by simp)
    obtain ⟨eo, hs, es', ep', hx, hdt, hsz, ent⟩ := nfr_at hd I
    obtain ⟨rfl, rfl⟩ := dict_ep hod hdt
    obtain ⟨ok, ov, he⟩ := st
    rw [← hsz] at he
    exact wpAny_pyNext_items_end_raw (I.ok.hd hc) he ⟨o, eo, hx, hdt⟩ (by omega) fun h' eb => ⟨rfl, I.turned (t' := s.toks) (fun b ob hb e => eb b ob hb e) f0 f1 f3 f4 f5⟩
  self := fun A i s Q E st h => let ⟨_, _, e⟩ := st; PySem.W.kcp_self e h
end
def iItemsN (P : Program) (w : World) (td : TE) : TI := fun σ H R => td σ H fun x H1 => ∃ d o kvs, x = .ref d ∧ NFr P w H1 d o kvs ∧ R (Itn P w d o kvs) H1
section
variable {X : Cx} {tg e : Expr} {td : TE} {apos cpos : Pos}
theorem pi_itemsN {elts : List Expr} {kk : Nat} {tpos : Pos} (he : PE X e td) (hbase : attributeBase e "items" X.env (eval e X.env) = eval e X.env := by rfl) (hline : (apos.endLine == cpos.line) = true := by rfl) :
    PI X (.Tuple elts kk tpos) (.Call (.Attribute e "items" apos) [] [] cpos) (iItemsN X.prog X.w td) := by
  refine ⟨fun pins s σ H R I h => ?_⟩
  refine wpAny_Call_method (T := "dict") (id := "dict.items") hbase rfl hline F.plainAttrs_dict F.slot_dict_items F.type_dict_items (thn (he.run pins s σ H _ I h) fun u s1 ⟨x, H1, I1, rx, d, o, kvs, ex, hd, q⟩ => ?_)
  subst ex
  obtain rfl : u = Value.ref d := rx
  obtain ⟨eo, hs, es, ep, hx, hdt, hsz, ent⟩ := nfr_at hd I1
  have hm : s1.heap.DictRaw d es ep := ⟨o, eo, hx, hdt⟩
  refine ⟨hm.typeIs, fun b q => ?_, ?_⟩
  · cases q
    exact ⟨o, eo, hx.2.1⟩
  have I2 : Inv X pins σ H1 { s1 with heap := s1.heap.push { cls := .type "dict_items", data := .fields #[.ref d] } } := I1.kept (t' := s1.toks) fun b ob q => Heap.get?_push_of_some _ q
  have fin : wpAny (model X.prog X.w) X.A (pyIter (.ref s1.heap.objs.size)) (PIE X pins σ (.Tuple elts kk tpos) R) X.xe { s1 with heap := s1.heap.push { cls := .type "dict_items", data := .fields #[.ref d] } } := by
    refine wpAny_pyIter_items_raw (d := d) ⟨_, Heap.get?_push_size _ rfl, rfl, rfl⟩ (hm.at fun o e => Heap.get?_push_of_some _ e) (pi_one (tk := s1.toks) I2 _ (turn_itemsN _ hdt) ⟨.none, .none, ?_⟩ q)
    rw [hsz]
    exact Heap.get?_push_size _ rfl
  show wpAny _ _ (callWith cpos (.builtin "dict.items") [.ref d] [] []) _ X.xe s1
  exact method_meetsIn F.slot_dict_items F.entry_dict_items rfl (PySem.evalArgs_none ⟨rfl, hm.typeIs, F.args_dict_items_1 _, _, meets_dict_items_raw d hs, ⟨es, ep, hm⟩, fin⟩)
end
theorem walk_itemsN {P : Program} {w : World} {d : Addr} {o : Obj} {kvs : List (NestedKey × V)} : Walk (Itn P w d o kvs) kvs.length (fun H => NFr P w H d o kvs) (fun i H x H' => ∃ T k v y, kvs[i]? = some (k, v) ∧ NKey H y k ∧ x = .ref T ∧ H T = none ∧ H' = upd H T (.tup [y, v])) :=
  ⟨fun _ _ hi q => ⟨q, hi⟩, fun _ q => ⟨q, Nat.le_refl _⟩, fun _ _ _ _ _ _ y => y⟩
/-! ### len of it; it is a dict -/
def rLenN (P : Program) (w : World) : List V → Hp → VK → Prop := fun xs H Q => ∃ (p : Addr) (kvs : List (NestedKey × V)), xs = [.ref p] ∧ NDat P w H p kvs ∧ Q (.int ((kvs.length : Nat) : Int)) H
theorem ndat_raw {X : Cx} {pins : List (Addr × Obj)} {σ : L2.St} {H : Hp} {s : Shared} {d : Addr} {kvs : List (NestedKey × V)} (I : Inv X pins σ H s) (g : NDat X.prog X.w H d kvs) : ∃ zs, (d == sysModules) = false ∧ s.heap.DictOfH (nestedKind X.prog X.w) d zs ∧ kvs.length = zs.length ∧ kvs.length ≤ sizeLine := by
  obtain ⟨g1, g2, zs, r, e⟩ := g
  exact ⟨zs, g1, nd_of I.hok r e, Paired.length r, g2⟩
theorem call_lenN {X : Cx} : CallR X (.builtin "len") (rLenN X.prog X.w) := by
  intro pins s σ H xs us Q I r h
  obtain ⟨p, kvs, rfl, hp, q⟩ := h
  obtain ⟨u, rfl, rx⟩ := vals1 r
  obtain rfl : u = .ref p := rx
  obtain ⟨zs, hd, dd, hl, z⟩ := ndat_raw I hp
  refine call_len_dictH hd dd (by rw [← hl]; rw [sizeLine_eq] at z; omega) ?_
  rw [← hl]
  exact ⟨.int ((kvs.length : Nat) : Int), H, I.tok _, ⟨_, rfl⟩, q⟩
def rIsN (P : Program) (w : World) : List V → Hp → VK → Prop := fun xs H Q => ∃ (p : Addr) (kvs : List (NestedKey × V)), xs = [.ref p, .ty "dict"] ∧ NDat P w H p kvs ∧ Q (.bl true) H
theorem call_isN {X : Cx} : CallR X (.builtin "isinstance") (rIsN X.prog X.w) := by
  intro pins s σ H xs us Q I r h
  obtain ⟨p, kvs, rfl, hp, q⟩ := h
  obtain ⟨u, u', rfl, rx, r2⟩ := vals2 r
  obtain rfl : u = .ref p := rx
  obtain rfl : u' = Value.type "dict" := r2
  obtain ⟨zs, hd, ⟨o, es, ep, h1, h2, _⟩, hl, z⟩ := ndat_raw I hp
  exact PySem.W.kia_one PySem.W.kitx_dict I.kIn ⟨o, h1, h2.1⟩ (kd_kit .dict .dict (by decide) (by decide)) (fun z => nomatch z) fun tk => ⟨.bl true, H, I.tok tk, rfl, q⟩

end M

set_option Elab.async false
set_option linter.all false
set_option maxRecDepth 100000
set_option maxHeartbeats 2000000
namespace M
open PySem PySem.Spec PyProof.Rows L2

/-! ### the table of a reader -/
def tkey (s : Nat) (c : Str × Int) : NestedKey := .tup [.num (s : Int), .tup [.text c.1, .num c.2]]
theorem tkey_inj {s s' : Nat} {c c' : Str × Int} (h : tkey s c = tkey s' c') : s = s' ∧ c = c' := by
  unfold tkey at h
  simp only [NestedKey.tup.injEq, List.cons.injEq, NestedKey.num.injEq, NestedKey.text.injEq, and_true] at h
  exact ⟨Int.ofNat.inj h.1, Prod.ext h.2.1 h.2.2⟩
theorem tkey_is {H : Hp} {t q : Addr} {s : Nat} {c : Str × Int} (ht : H t = some (.tup [.int (s : Int), .ref q])) (hq : H q = some (.tup [.str c.1, .int c.2])) : NKey H (.ref t) (tkey s c) := by
  refine ⟨⟨_, rfl⟩, .tup ht (.cons (.int _) (.cons (.tup hq (.cons (.str _) (.cons (.int _) .nil))) .nil)), ?_⟩
  unfold tkey
  simp only [NestedKey.depth, NestedKey.depthAll]
  omega
theorem tkey_of {H : Hp} {v : V} {s : Nat} {c : Str × Int} (h : NKey H v (tkey s c)) : ∃ t q, v = .ref t ∧ H t = some (.tup [.int (s : Int), .ref q]) ∧ H q = some (.tup [.str c.1, .int c.2]) := by
  obtain ⟨_, h, _⟩ := h
  unfold tkey at h
  cases h with
  | tup e r =>
    cases r with
    | cons a r =>
      cases a
      cases r with
      | cons a r =>
        cases r
        cases a with
        | tup e2 r2 =>
          cases r2 with
          | cons a r2 =>
            cases a
            cases r2 with
            | cons a r2 =>
              cases a
              cases r2
              exact ⟨_, _, rfl, e, e2⟩
theorem valN_none {kvs : List (NestedKey × V)} {k : NestedKey} (h : ∀ p ∈ kvs, p.1 ≠ k) : valV kvs k = none := by
  unfold valV
  have e : kvs.find? (fun kv => decide (kv.1 = k)) = none := List.find?_eq_none.mpr fun p hp => by simpa using h p hp
  rw [e]
  rfl
theorem valN_snoc {kvs : List (NestedKey × V)} {k j : NestedKey} {v : V} (n : valV kvs k = none) : valV (kvs ++ [(k, v)]) j = if k = j then some v else valV kvs j := by
  unfold valV at n ⊢
  rw [List.find?_append]
  by_cases c : k = j
  · subst c
    rw [if_pos rfl]
    have : kvs.find? (fun kv => decide (kv.1 = k)) = none := by
      cases e : kvs.find? (fun kv => decide (kv.1 = k)) with
      | none => rfl
      | some p => rw [e] at n; cases n
    rw [this]
    simp
  · rw [if_neg c]
    simp [c]
/-- the table as it stands when the stands below s and of s the first i calls are done -/
structure TabK (cs : List (Str × Int)) (m : Nat) (s i : Nat) (kvs : List (NestedKey × V)) : Prop where
  len : kvs.length = s * cs.length + i
  ok : ∀ p ∈ kvs, ∃ (s' j : Nat) (c : Str × Int) (x : Int), p = (tkey s' c, .int x) ∧ cs[j]? = some c ∧ (s' < s ∨ s' = s ∧ j < i) ∧ 0 ≤ x ∧ x < m
  val : ∀ (s' j : Nat) (c : Str × Int), cs[j]? = some c → (s' < s ∨ s' = s ∧ j < i) → ∃ x : Int, valV kvs (tkey s' c) = some (.int x) ∧ 0 ≤ x ∧ x < m
theorem TabK.zero {cs : List (Str × Int)} {m : Nat} : TabK cs m 0 0 [] := ⟨by simp, (fun p h => nomatch h), fun s' j c _ h => by omega⟩
theorem TabK.put {cs : List (Str × Int)} {m s i : Nat} {kvs : List (NestedKey × V)} {c : Str × Int} {x : Int} (h : TabK cs m s i kvs) (nd : cs.Nodup) (hc : cs[i]? = some c) (h0 : 0 ≤ x) (h1 : x < m) : TabK cs m s (i + 1) (putK kvs (tkey s c) (.int x)) := by
  have new : valV kvs (tkey s c) = none := valN_none fun p hp e => by
    obtain ⟨s', j, c', y, rfl, hj, lt, _⟩ := h.ok p hp
    obtain ⟨rfl, rfl⟩ := tkey_inj e
    have := nd_ixG nd hj hc
    omega
  rw [putK_new _ new]
  refine ⟨by rw [List.length_append, List.length_singleton, h.len]; omega, fun p hp => ?_, fun s' j c' hj lt => ?_⟩
  · rcases List.mem_append.mp hp with hp | hp
    · obtain ⟨s', j, c', y, e, hj, lt, hy⟩ := h.ok p hp
      exact ⟨s', j, c', y, e, hj, by omega, hy⟩
    · rw [List.mem_singleton.mp hp]
      exact ⟨s, i, c, x, rfl, hc, by omega, h0, h1⟩
  · rw [valN_snoc new]
    by_cases e : tkey s c = tkey s' c'
    · rw [if_pos e]
      exact ⟨x, rfl, h0, h1⟩
    · rw [if_neg e]
      refine h.val s' j c' hj ?_
      rcases lt with lt | ⟨rfl, lt⟩
      · exact .inl lt
      · refine .inr ⟨rfl, ?_⟩
        have : j ≠ i := fun z => by subst z; rw [hc] at hj; cases hj; exact e rfl
        omega
theorem TabK.next {cs : List (Str × Int)} {m s : Nat} {kvs : List (NestedKey × V)} (h : TabK cs m s cs.length kvs) : TabK cs m (s + 1) 0 kvs := by
  refine ⟨by rw [h.len, Nat.succ_mul]; omega, fun p hp => ?_, fun s' j c hj lt => ?_⟩
  · obtain ⟨s', j, c', y, e, hj, lt, hy⟩ := h.ok p hp
    exact ⟨s', j, c', y, e, hj, by omega, hy⟩
  · have := (List.getElem?_eq_some_iff.mp hj).1
    exact h.val s' j c hj (by omega)
theorem tups_hx {a l pl : Addr} {H H' : Hp} (b : HandAt H a l pl) (b' : HandAt H' a l pl) (h : Bx a l H H') {ys : List V} {cs : List (Str × Int)} (k : TupsAt H ys cs) : TupsAt H' ys cs := tups_but b.chM (h.cut b'.at).2 (tups_but b.chA (h.cut b'.at).1 k)
theorem nd_hx {P : Program} {w : World} {a l pl d : Addr} {H H' : Hp} {kvs : List (NestedKey × V)} (b : HandAt H a l pl) (b' : HandAt H' a l pl) (h : Bx a l H H') (n1 : d ≠ a) (n2 : d ≠ l) (k : NDat P w H d kvs) : NDat P w H' d kvs := NDat.but b.chM (h.cut b'.at).2 n2 (NDat.but b.chA (h.cut b'.at).1 n1 k)
namespace R
section
variable {P : Program} {w : World} {K : PySem.W.Frag} {mg : Str → Option Value} {base : Heap}
def spTable (P : Program) (w : World) (K : PySem.W.Frag) : Sp := fun vs H Q _ => ∃ (a l pl lc : Addr) (ys : List V) (cs : List (Str × Int)) (m : Nat), vs = [.ref a, .ref lc, .int (m : Int)] ∧ HandAt H a l pl ∧ H lc = some (.lst ys) ∧ TupsAt H ys cs ∧ (lc ≠ a ∧ lc ≠ l) ∧ cs.Nodup ∧ cs.length ≤ 72 ∧ (1 ≤ m ∧ m ≤ 8) ∧
  ∀ (d : Addr) (kvs : List (NestedKey × V)) (H' : Hp), Bx a l H H' → HandAt H' a l pl → H d = none → NDat P w H' d kvs → TabK cs m m 0 kvs → Q (.ref d) H'
theorem ca_l_table (T : Txt w K mg) : Ca P w K mg base 2 "_law_table" ((spTable P w K)) := by
  refine ca_of (N := ["_law_hand_here", "_law_calls_here", "_law_many", "_law_table_here", "_law_plain", "_law_stand", "_law_call"]) (ps := ["_law_hand_here", "_law_calls_here", "_law_many"]) T.f_l_table T.g_law_table ⟨rfl, rfl, rfl, by decide +kernel, rfl, by decide +kernel, by decide +kernel⟩ (fun _ _ _ _ _ _ us hl => match us, hl with | [_, _, _], _ => rfl)
    (fun vs H Q E h => by obtain ⟨a, l, pl, lc, ys, cs, m, rfl, hb, hl, hys, ⟨nla, nll⟩, nds, c72, hm, q⟩ := h; rfl) (fun cdv A outer s H vs Q E hr h => ?_)
  have nd : (["_law_hand_here", "_law_calls_here", "_law_many", "_law_table_here", "_law_plain", "_law_stand", "_law_call"] : List Str).Nodup := by decide +kernel
  obtain ⟨a, l, pl, lc, ys, cs, m, rfl, hb, hl, hys, ⟨nla, nll⟩, nds, c72, hm, q⟩ := h
  refine ⟨_, (pss_cons (ps_set (i := 3) nd rfl (.inl rfl) (pe_nnew))
      (pss_cons (ps_set (i := 4) nd rfl (.inl rfl) (pe_ca (ca_l_draw T) hr (pa_cons (pv 0) (pa_cons pe_int pa_nil))))
      (pss_cons (ps_for PassesOwn.never rfl (pi_range1 rfl T.b_range (pa_cons (pv 2) pa_nil)) (pg_name (i := 5) nd rfl (.inl rfl)) (pss_one (ps_for PassesOwn.never rfl (pi_list (pv 1)) (pg_name (i := 6) nd rfl (.inl rfl)) (pss_one (ps_if (PW.pt (pw_and (pt_cmpR op_eq (pv 4) pe_int (nomark _)) (pw_and1 (pt_cmpR op_gt (pe_ca (ca_l_draw T) hr (pa_cons (pv 0) (pa_cons pe_int pa_nil))) pe_int (nomark _))))) (pss_one (ps_nput hr.units (pv 3) (pe_tup (pa_cons (pv 5) (pa_cons (pv 6) pa_nil))) (pv 5))) (pss_one (ps_nput hr.units (pv 3) (pe_tup (pa_cons (pv 5) (pa_cons (pv 6) pa_nil))) (pe_ca (ca_l_draw T) hr (pa_cons (pv 0) (pa_cons (pv 2) pa_nil))))))))))
      (pss_one (ps_ret (pv 3)))))), ?_⟩
  refine fun d H1 nd0 s1 _ g1 => ?_
  have hb1 := hb.same s1
  have nda := (hand_ne hb nd0).1
  have ndl := (hand_ne hb nd0).2.1
  refine ⟨_, rfl, a, l, pl, 3, rfl, hb1, by omega, fun pn H2 b2 p2 hpn => ?_⟩
  have g2 := nd_hx hb1 p2 b2 nda ndl g1
  have ly := tups_len hys
  refine ⟨_, rfl, (m : Int), rfl, by omega, by omega, for_it (n := ((m : Nat) : Int).toNat) walk_range (fun i σ' H' => ∃ (z5 z6 : Option V) (kvs : List (NestedKey × V)), σ' = [some (.ref a), some (.ref lc), some (.int (m : Int)), some (.ref d), some (.int pn), z5, z6] ∧ Bx a l H H' ∧ HandAt H' a l pl ∧ NDat P w H' d kvs ∧ TabK cs m i 0 kvs) ⟨none, none, [], rfl, (Same.bx s1).trans b2, p2, g2, .zero⟩ (fun _ _ _ _ _ => trivial) ?_ ?_⟩
  · rintro si z σ' H0 H' hi ⟨z5, z6, kvs, rfl, bx, hp, g, tk⟩ ⟨rfl, rfl⟩
    refine ⟨_, rfl, lc, rfl, ⟨_, .of (bx _ _ nla nll hl)⟩, for_list (xs := ys) (fun i σ' H' => ∃ (z6 : Option V) (kvs : List (NestedKey × V)), σ' = [some (.ref a), some (.ref lc), some (.int (m : Int)), some (.ref d), some (.int pn), some (.int (0 + (si : Int))), z6] ∧ Bx a l H H' ∧ HandAt H' a l pl ∧ NDat P w H' d kvs ∧ TabK cs m si i kvs) ⟨z6, kvs, rfl, bx, hp, g, tk⟩ (fun i σ' H' _ ⟨_, _, _, bx, _⟩ => .of (bx _ _ nla nll hl)) ?_ ?_⟩
    · rintro i y σ' J hy ⟨z6, kvs, rfl, bx, hp, g, tk⟩
      obtain ⟨c, q, hc, rfl, hq⟩ := tups_at (tups_hx hb hp bx hys) hy
      have fin : ∀ (x : Int) (J1 : Hp) (t : Addr), Bx a l J J1 → HandAt J1 a l pl → 0 ≤ x → x < m → J1 t = none → ∃ (a' : Addr) (kvs' : List (NestedKey × V)) (k : NestedKey), V.ref d = .ref a' ∧ NDat P w (upd J1 t (.tup [.int (0 + (si : Int)), .ref q])) a' kvs' ∧ NKey (upd J1 t (.tup [.int (0 + (si : Int)), .ref q])) (.ref t) k ∧ kvs'.length < sizeLine ∧
          ∀ H4, (∀ b, b ≠ a' → H4 b = (upd J1 t (.tup [.int (0 + (si : Int)), .ref q])) b) → NDat P w H4 a' (putK kvs' k (.int x)) → ∃ (z6 : Option V) (kvs : List (NestedKey × V)), [some (V.ref a), some (V.ref lc), some (V.int (m : Int)), some (V.ref d), some (V.int pn), some (V.int (0 + (si : Int))), some (V.ref q)] = [some (V.ref a), some (V.ref lc), some (V.int (m : Int)), some (V.ref d), some (V.int pn), some (V.int (0 + (si : Int))), z6] ∧ Bx a l H H4 ∧ HandAt H4 a l pl ∧ NDat P w H4 d kvs ∧ TabK cs m si (i + 1) kvs := fun x J1 t b1 p1 x0 x1 nt => by
        have s2 := same_new (o := .tup [.int (0 + (si : Int)), .ref q]) nt
        have et : upd J1 t (.tup [.int (0 + (si : Int)), .ref q]) t = some (.tup [.int (si : Int), .ref q]) := by rw [upd_same, Int.zero_add]
        have g2 := (nd_hx hp p1 b1 nda ndl g).same s2
        have hq2 : upd J1 t (.tup [.int (0 + (si : Int)), .ref q]) q = some (.tup [.str c.1, .int c.2]) := s2 _ _ (b1 _ _ (fun z => by have := hp.chA.1 [.str c.1, .int c.2]; rw [z] at hq; exact this hq) (fun z => by obtain ⟨gs, ps, i, n, h⟩ := hp; rw [z, h.el] at hq; cases hq) hq)
        refine ⟨d, kvs, tkey si c, rfl, g2, tkey_is et hq2, ?_, fun H4 e4 g4 => ?_⟩
        · have := tk.len
          have h1 := (List.getElem?_eq_some_iff.mp hc).1
          have h2 : si * cs.length ≤ 8 * 72 := Nat.mul_le_mul (by omega) c72
          rw [sizeLine_eq]
          omega
        · have b4 : ∀ b o, b ≠ d → upd J1 t (.tup [.int (0 + (si : Int)), .ref q]) b = some o → H4 b = some o := fun b o n e => (e4 b n).trans e
          exact ⟨_, _, rfl, fun b o n1 n2 e => b4 _ _ (ne_of_none e nd0) (s2 _ _ (b1 _ _ n1 n2 (bx _ _ n1 n2 e))), ((p1.same s2).but (D := d) (fun b o n e => b4 b o n e) ⟨nda, ndl, (hand_ne hb nd0).2.2⟩), g4, tk.put nds hc x0 x1⟩
      refine ⟨_, rfl, rfl, _, rfl, ?_⟩
      by_cases c0 : pn = 0
      · rw [decide_eq_true (show V.int pn = V.int 0 from congrArg V.int c0)]
        refine iteT ⟨_, rfl, a, l, pl, 3, rfl, hp, by omega, fun x J1 b1 p1 hx => ⟨_, _, rfl, rfl, _, rfl, ?_⟩⟩
        by_cases c1 : 0 < x
        · rw [decide_eq_true c1]
          exact iteT ⟨_, rfl, _, rfl, _, rfl, _, rfl, (by show 2 ≤ sizeLine; decide), fun t nt => fin _ J1 t b1 p1 (by omega) (by omega) nt⟩
        · rw [decide_eq_false c1]
          exact iteF ⟨_, rfl, _, rfl, a, l, pl, (m : Int), rfl, p1, by omega, fun y J2 b2 p2 hy => ⟨_, rfl, _, rfl, _, rfl, (by show 2 ≤ sizeLine; decide), fun t nt => fin _ J2 t (b1.trans b2) p2 hy.1 hy.2 nt⟩⟩
      · rw [decide_eq_false (show ¬ V.int pn = V.int 0 from fun z => c0 (V.int.inj z))]
        exact iteF ⟨_, rfl, _, rfl, a, l, pl, (m : Int), rfl, hp, by omega, fun y J2 b2 p2 hy => ⟨_, rfl, _, rfl, _, rfl, (by show 2 ≤ sizeLine; decide), fun t nt => fin _ J2 t b2 p2 hy.1 hy.2 nt⟩⟩
    · rintro σ' J ⟨z6, kvs, rfl, bx, hp, g, tk⟩
      rw [ly] at tk
      exact ⟨_, _, kvs, rfl, bx, hp, g, tk.next⟩
  · rintro σ' H' ⟨z5, z6, kvs, rfl, bx, hp, g, tk⟩
    rw [show ((m : Nat) : Int).toNat = m from rfl] at tk
    exact ⟨_, rfl, q d kvs H' bx hp nd0 g tk⟩
end
end R

end M

set_option Elab.async false
set_option linter.all false
set_option maxRecDepth 100000
set_option maxHeartbeats 2000000
namespace M
open PySem PySem.Spec PyProof.Rows L2

theorem inR_ok {lo hi i : Int} (h : lo ≤ i ∧ i ≤ hi) : inR lo hi (.int i) = true := by
  show (decide _ && decide _) = true
  rw [decide_eq_true h.1, decide_eq_true h.2]
  rfl
namespace R
section
variable {P : Program} {w : World} {K : PySem.W.Frag} {mg : Str → Option Value} {base : Heap}
def spTabKey (K : PySem.W.Frag) : Sp := fun vs H Q _ => ∃ (v : V) (m s j : Nat) (nd : Addr) (cs : List (Str × Int)) (c : Str × Int), vs = [v, .int (m : Int), .ref nd] ∧ NKey H v (tkey s c) ∧ s < m ∧ cs[j]? = some c ∧ H nd = some (.dT (numK cs)) ∧ cs.Nodup ∧ Q (.bl true) H
theorem ca_is_table_key (T : Txt w K mg) : Ca P w K mg base 4 "is_table_key" (spTabKey K) := by
  refine ca_of (N := ["key", "many", "numbers"]) (ps := ["key", "many", "numbers"]) T.f_is_table_key T.g_is_table_key ⟨rfl, rfl, rfl, by decide +kernel, rfl, by decide +kernel, by decide +kernel⟩ (fun _ _ _ _ _ _ us hl => match us, hl with | [_, _, _], _ => rfl)
    (fun vs H Q E h => by obtain ⟨v, m, s, j, nb, cs, c, rfl, hk, hs, hc, hn, nds, q⟩ := h; rfl) (fun cdv A outer s H vs Q E hr h => ?_)
  have nd : (["key", "many", "numbers"] : List Str).Nodup := by decide +kernel
  obtain ⟨v, m, s, j, nb, cs, c, rfl, hk, hs, hc, hn, nds, q⟩ := h
  refine ⟨_, (pss_one (ps_ret (pe_and (pe_ca (ca_is_tuple T) hr (pa_cons (pv 0) (pa_cons pe_int pa_nil))) (pe_and (pe_ca (ca_is_within T) hr (pa_cons (pe_ix ix_tup (pv 0) pe_int (fun _ _ => rfl)) (pa_cons pe_int (pa_cons (pe_op op_sub (pv 1) pe_int) pa_nil)))) (pe_one (pe_cmpR op_ge (pe_ca (ca_call_number T) hr (pa_cons (pv 2) (pa_cons (pe_ix ix_tup (pv 0) pe_int (fun _ _ => rfl)) pa_nil))) pe_int (nomark _))))))), ?_⟩
  obtain ⟨t, u, rfl, ht, hu⟩ := tkey_of hk
  have hd : Dp K H (.ref t) (.tuple [.int (s : Int), callD c]) := .tup (.of ht) (.cons (.int _) (.cons (.tup (.of hu) (.cons (.str _) (.cons (.int _) .nil))) .nil))
  refine ⟨_, rfl, _, _, 2, rfl, .dat hd, _, rfl, ?_⟩
  show (if true = true then _ else _)
  refine iteT ⟨_, rfl, _, _, _, _, rfl, rfl, .of ht, at0, _, rfl, _, _, rfl, rfl, _, _, _, _, rfl, .int _, _, rfl, ?_⟩
  rw [inR_ok (show (0 : Int) ≤ (s : Int) ∧ (s : Int) ≤ (m : Int) - 1 by omega)]
  have cb : clB cs (some (callD c)) = true := decide_eq_true (List.mem_of_getElem? hc)
  refine iteT ⟨_, rfl, _, rfl, _, _, _, _, rfl, rfl, .of ht, at1, nb, _, cs, some (callD c), rfl, hn, nds, ⟨.dat (.tup (.of hu) (.cons (.str _) (.cons (.int _) .nil))), fun c' e => ?_⟩, fun e => ?_, fun i c' e1 e2 => ?_⟩
  · rw [cOf_callD] at e
    cases e
    exact ⟨u, rfl, hu⟩
  · rw [cb] at e
    cases e
  · refine ⟨_, _, rfl, rfl, ?_⟩
    show Q (.bl (decide ((0 : Int) ≤ ((i : Nat) : Int)))) H
    rw [decide_eq_true (show (0 : Int) ≤ ((i : Nat) : Int) by omega)]
    exact q
def spIsTable (P : Program) (w : World) (K : PySem.W.Frag) : Sp := fun vs H Q _ => ∃ (d nd : Addr) (m : Nat) (kvs : List (NestedKey × V)) (cs : List (Str × Int)), vs = [.ref d, .int (m : Int), .ref nd] ∧ NDat P w H d kvs ∧ TabK cs m m 0 kvs ∧ H nd = some (.dT (numK cs)) ∧ cs.Nodup ∧ m ≤ 8 ∧ cs.length ≤ 72 ∧ ∀ H', Same H H' → Q (.bl true) H'
theorem ca_is_table (T : Txt w K mg) : Ca P w K mg base 6 "is_table" ((spIsTable P w K)) := by
  refine ca_of (N := ["table", "many", "numbers", "key", "stand"]) (ps := ["table", "many", "numbers"]) T.f_is_table T.g_is_table ⟨rfl, rfl, rfl, by decide +kernel, rfl, by decide +kernel, by decide +kernel⟩ (fun _ _ _ _ _ _ us hl => match us, hl with | [_, _, _], _ => rfl)
    (fun vs H Q E h => by obtain ⟨d, nb, m, kvs, cs, rfl, hd, tk, hn, nds, m8, c72, q⟩ := h; rfl) (fun cdv A outer s H vs Q E hr h => ?_)
  have nd : (["table", "many", "numbers", "key", "stand"] : List Str).Nodup := by decide +kernel
  obtain ⟨d, nb, m, kvs, cs, rfl, hd, tk, hn, nds, m8, c72, q⟩ := h
  refine ⟨_, (pss_cons (ps_if (PW.pt (pw_or (pt_not (pt_val (pe_callB call_isN (by rfl) T.b_isinstance boot_isinstance (pa_cons (pv 0) (pa_cons (pe_ty T.b_dict boot_dict) pa_nil))))) (pw_or1 (pt_cmpR op_ne (pe_callB call_lenN (by rfl) T.b_len PySem.boot_len (pa_cons (pv 0) pa_nil)) (pe_op op_mul (pv 1) (pe_callB call_len_dT (by rfl) T.b_len PySem.boot_len (pa_cons (pv 2) pa_nil))) (nomark _))))) (pss_one (ps_ret pe_bl)) pss_nil)
      (pss_cons (ps_lock (ps_for PassesOwn.never rfl (pi_itemsN (pv 0)) (pg_two K 3 4 rfl rfl nd rfl rfl (.inl rfl) (.inl rfl) (.inr rfl) (.inr rfl)) (pss_one (ps_if (PW.pt (pw_or (pt_not (pt_val (pe_ca (ca_is_table_key T) hr (pa_cons (pv 3) (pa_cons (pv 1) (pa_cons (pv 2) pa_nil)))))) (pw_or1 (pt_not (pt_val (pe_ca (ca_is_within T) hr (pa_cons (pv 4) (pa_cons pe_int (pa_cons (pe_op op_sub (pv 1) pe_int) pa_nil))))))))) (pss_one (ps_ret pe_bl)) pss_nil))))
      (pss_one (ps_ret pe_bl)))), ?_⟩
  refine ⟨_, rfl, _, _, rfl, hd, _, rfl, iteF ?_⟩
  refine ⟨_, rfl, d, kvs, rfl, hd, _, rfl, _, rfl, nb, _, rfl, hn, ?_⟩
  refine ⟨_, _, rfl, rfl, ?_, ?_⟩
  · exact .inl ⟨by omega, by omega⟩
  have el : ((kvs.length : Nat) : Int) = (m : Int) * ((numK cs).length : Nat) := by
    rw [tk.len, numK_len, Nat.add_zero]
    exact Int.natCast_mul m cs.length
  refine ⟨rfl, _, rfl, ?_⟩
  rw [decide_eq_true (show V.int ((kvs.length : Nat) : Int) = V.int ((m : Int) * ((numK cs).length : Nat)) from congrArg V.int el)]
  refine iteF ?_
  obtain ⟨u, hu, mu, lk⟩ := ndat_lock hd
  refine ⟨d, u, hu, mu, fun od => ?_⟩
  obtain ⟨fr, back⟩ := lk od
  have ndb : nb ≠ d := fun z => by
    obtain ⟨_, _, zs, _, e⟩ := hd
    rw [z, e] at hn
    cases hn
  have hn0 : upd H d (.frz od u) nb = some (.dT (numK cs)) := by rw [upd_ne ndb]; exact hn
  refine ⟨_, rfl, d, od, kvs, rfl, fr, for_it (n := kvs.length) walk_itemsN (fun i σ' H' => ∃ (z3 z4 : Option V), σ' = [some (.ref d), some (.int (m : Int)), some (.ref nb), z3, z4] ∧ Same (upd H d (.frz od u)) H') ⟨none, none, rfl, Same.refl _⟩ (fun i σ' H' _ ⟨_, _, _, s⟩ => fr.same s) ?_ ?_⟩
  · rintro i x σ' H1 H2 hi ⟨z3, z4, rfl, s1⟩ ⟨t, k, v, y, hk, nk, rfl, nt, rfl⟩
    have s2 := same_new (o := .tup [y, v]) nt
    obtain ⟨s', j, c, x, e, hj, lt, x0, x1⟩ := tk.ok _ (List.mem_of_getElem? hk)
    cases e
    refine ⟨t, _, rfl, .of upd_same, rfl, _, _, rfl, _, _, rfl, rfl, ?_⟩
    refine ⟨_, rfl, _, rfl, _, rfl, y, m, s', j, nb, cs, c, rfl, nk.same s2, by omega, hj, s2 _ _ (s1 _ _ hn0), nds, ?_⟩
    refine ⟨_, rfl, iteF ?_⟩
    refine ⟨_, rfl, _, rfl, _, _, rfl, rfl, _, _, _, _, rfl, .int _, ?_⟩
    rw [inR_ok (show (0 : Int) ≤ x ∧ x ≤ (m : Int) - 1 by omega)]
    exact ⟨_, rfl, iteF ⟨_, _, rfl, s1.trans s2⟩⟩
  · rintro σ' H1 ⟨z3, z4, rfl, s1⟩
    refine ⟨s1 _ _ upd_same, q _ fun b o e => ?_⟩
    by_cases c : b = d
    · rw [c, upd_same]
      rw [c, hu] at e
      exact e
    · rw [upd_ne c]
      exact s1 _ _ (by rw [upd_ne c]; exact e)
end
end R

end M

set_option Elab.async false
set_option linter.all false
set_option maxRecDepth 100000
set_option maxHeartbeats 2000000
namespace M
open PySem PySem.Spec PyProof.Rows L2

/-! ### the reader as it stands -/
def tabI (kvs : List (NestedKey × V)) (s : Nat) (c : Str × Int) : Int := match valV kvs (tkey s c) with
  | some (.int x) => x
  | _ => 0
theorem tabI_at {cs : List (Str × Int)} {m s j : Nat} {kvs : List (NestedKey × V)} {c : Str × Int} (h : TabK cs m m 0 kvs) (hc : cs[j]? = some c) (hs : s < m) : valV kvs (tkey s c) = some (.int (tabI kvs s c)) ∧ 0 ≤ tabI kvs s c ∧ tabI kvs s c < m := by
  obtain ⟨x, e, h0, h1⟩ := h.val s j c hc (.inl hs)
  unfold tabI
  rw [e]
  exact ⟨rfl, h0, h1⟩
def markK (ms : List Nat) : List (Key × V) := ms.map fun (n : Nat) => (Sum.inl (n : Int), V.bl true)
theorem markK_snoc (ms : List Nat) (n : Nat) : markK (ms ++ [n]) = markK ms ++ [(Sum.inl (n : Int), V.bl true)] := by
  unfold markK
  rw [List.map_append]
  rfl
theorem markK_val (n : Nat) : ∀ ms : List Nat, (valV (markK ms) (Sum.inl (n : Int))).isSome = decide (n ∈ ms)
  | [] => rfl
  | a :: r => by
    have ih := markK_val n r
    unfold valV markK at ih ⊢
    by_cases c : a = n
    · subst c
      rw [List.map_cons, List.find?_cons_of_pos (by simp)]
      simp
    · rw [List.map_cons, List.find?_cons_of_neg (by simpa using fun z => c (Int.ofNat.inj z)), ih]
      refine decide_eq_decide.mpr ⟨fun h => List.mem_cons_of_mem _ h, fun h => ?_⟩
      rcases List.mem_cons.mp h with h | h
      · exact absurd h.symm c
      · exact h
theorem markK_none {ms : List Nat} {n : Nat} (h : n ∉ ms) : valV (markK ms) (Sum.inl (n : Int)) = none := by
  have := markK_val n ms
  rw [decide_eq_false h] at this
  cases e : valV (markK ms) (Sum.inl (n : Int)) with
  | none => rfl
  | some v => rw [e] at this; cases this
/-- what the attributes of a reader hold -/
def rflds (n : Addr) (m f : Int) (L M : Addr) : List (Str × V) := putF "_marks" (.ref M) (putF "_leads" (.ref L) (putF "_first" (.int f) (putF "_many" (.int m) (putF "_numbers" (.ref n) []))))
theorem rn1 : ¬ (("_numbers" : Str) = "_many") := by decide +kernel
theorem rn2 : ¬ (("_numbers" : Str) = "_first") := by decide +kernel
theorem rn3 : ¬ (("_numbers" : Str) = "_leads") := by decide +kernel
theorem rn4 : ¬ (("_numbers" : Str) = "_marks") := by decide +kernel
theorem rn5 : ¬ (("_first" : Str) = "_leads") := by decide +kernel
theorem rn6 : ¬ (("_first" : Str) = "_marks") := by decide +kernel
theorem rn7 : ¬ (("_leads" : Str) = "_marks") := by decide +kernel
section
variable (n : Addr) (m f : Int) (L M : Addr)
theorem rf_numbers : (rflds n m f L M).lookup ("_numbers" : Str) = some (.ref n) := by
  unfold rflds
  rw [lookup_putF, if_neg rn4, lookup_putF, if_neg rn3, lookup_putF, if_neg rn2, lookup_putF, if_neg rn1, lookup_putF, if_pos rfl]
theorem rf_first : (rflds n m f L M).lookup ("_first" : Str) = some (.int f) := by
  unfold rflds
  rw [lookup_putF, if_neg rn6, lookup_putF, if_neg rn5, lookup_putF, if_pos rfl]
theorem rf_leads : (rflds n m f L M).lookup ("_leads" : Str) = some (.ref L) := by
  unfold rflds
  rw [lookup_putF, if_neg rn7, lookup_putF, if_pos rfl]
theorem rf_marks : (rflds n m f L M).lookup ("_marks" : Str) = some (.ref M) := by
  unfold rflds
  rw [lookup_putF, if_pos rfl]
theorem rf_no {x : Str} (h1 : ¬ x = "_numbers") (h2 : ¬ x = "_many") (h3 : ¬ x = "_first") (h4 : ¬ x = "_leads") (h5 : ¬ x = "_marks") : (rflds n m f L M).lookup x = none := by
  unfold rflds
  rw [lookup_putF, if_neg h5, lookup_putF, if_neg h4, lookup_putF, if_neg h3, lookup_putF, if_neg h2, lookup_putF, if_neg h1]
  rfl
end
def leadL (kvs : List (NestedKey × V)) (m : Nat) (c : Str × Int) : List V := (List.range m).map fun s => V.int (tabI kvs s c)
theorem leadL_at {kvs : List (NestedKey × V)} {m s : Nat} {c : Str × Int} (h : s < m) : (leadL kvs m c)[s]? = some (.int (tabI kvs s c)) := by
  unfold leadL
  rw [List.getElem?_map, List.getElem?_range h]
  rfl
/-- the list of where a call leads -/
def LeadAt (F : Addr → Prop) (H : Hp) (kvs : List (NestedKey × V)) (m : Nat) (y : V) (c : Str × Int) : Prop := ∃ b, y = .ref b ∧ F b ∧ H b = some (.lst (leadL kvs m c))
/-- a reader stands at r; its lists stand where F says -/
structure RdrAt (K : PySem.W.Frag) (F : Addr → Prop) (H : Hp) (r : Addr) (cs : List (Str × Int)) (m f : Nat) (kvs : List (NestedKey × V)) (ms : List Nat) : Prop where
  ob : ∃ (dx n L M : Addr) (ys : List V), H r = some (.ins (He.ga K "Reader") dx (rflds n (m : Int) (f : Int) L M)) ∧ H n = some (.dT (numK cs)) ∧ F L ∧ H L = some (.lst ys) ∧ ys.length = cs.length ∧ (∀ (i : Nat) (y : V) (c : Str × Int), ys[i]? = some y → cs[i]? = some c → LeadAt F H kvs m y c) ∧ H M = some (.dK (markK ms))
section
variable {K : PySem.W.Frag} {F G : Addr → Prop} {H H' : Hp} {r : Addr} {cs : List (Str × Int)} {m f : Nat} {kvs : List (NestedKey × V)} {ms : List Nat}
theorem RdrAt.mono (h : RdrAt K F H r cs m f kvs ms) (k : ∀ x, F x → G x) : RdrAt K G H r cs m f kvs ms := by
  obtain ⟨dx, n, L, M, ys, h1, h2, h3, h4, h5, h6, h7⟩ := h.ob
  refine ⟨dx, n, L, M, ys, h1, h2, k _ h3, h4, h5, fun i y c e1 e2 => ?_, h7⟩
  obtain ⟨b, e, fb, hb⟩ := h6 i y c e1 e2
  exact ⟨b, e, k _ fb, hb⟩
theorem RdrAt.same (h : RdrAt K F H r cs m f kvs ms) (s : Same H H') : RdrAt K F H' r cs m f kvs ms := by
  obtain ⟨dx, n, L, M, ys, h1, h2, h3, h4, h5, h6, h7⟩ := h.ob
  refine ⟨dx, n, L, M, ys, s _ _ h1, s _ _ h2, h3, s _ _ h4, h5, fun i y c e1 e2 => ?_, s _ _ h7⟩
  obtain ⟨b, e, fb, hb⟩ := h6 i y c e1 e2
  exact ⟨b, e, fb, s _ _ hb⟩
/-- lists that are not its own change -/
theorem RdrAt.keeps (h : RdrAt K F H r cs m f kvs ms) (s : ∀ b o, (∀ xs, o = .lst xs → F b) → H b = some o → H' b = some o) : RdrAt K F H' r cs m f kvs ms := by
  obtain ⟨dx, n, L, M, ys, h1, h2, h3, h4, h5, h6, h7⟩ := h.ob
  refine ⟨dx, n, L, M, ys, s _ _ (fun _ z => nomatch z) h1, s _ _ (fun _ z => nomatch z) h2, h3, s _ _ (fun _ _ => h3) h4, h5, fun i y c e1 e2 => ?_, s _ _ (fun _ z => nomatch z) h7⟩
  obtain ⟨b, e, fb, hb⟩ := h6 i y c e1 e2
  exact ⟨b, e, fb, s _ _ (fun _ _ => fb) hb⟩
end
theorem pe_ngetP {X : Cx} {o i : Expr} {td ty : TE} {pos : Pos} (P : Program) (w : World) (hP : X.prog = P) (hw : X.w = w) (hu : X.A.units + 64 < cLine) (ho : PE X o td) (hi : PE X i ty) (hs : NoSl i) : PE X (.Subscript o i pos) (tNGet P w td ty) := hP ▸ hw ▸ pe_nget hu ho hi hs
namespace R
section
variable {P : Program} {w : World} {K : PySem.W.Frag} {mg : Str → Option Value} {base : Heap}
def spMarks (K : PySem.W.Frag) : Sp := fun vs H Q _ => ∃ (b : Addr) (m : Nat) (ms : List Nat), vs = [.ref b, .int (m : Int)] ∧ H b = some (.lst (ms.map fun n => V.int (n : Nat))) ∧ ms.Pairwise (· < ·) ∧ (∀ n ∈ ms, n < m) ∧ Q (.bl true) H
theorem ca_are_marks (T : Txt w K mg) : Ca P w K mg base 4 "are_marks" (spMarks K) := by
  refine ca_of (N := ["marks", "many", "last", "stand"]) (ps := ["marks", "many"]) T.f_are_marks T.g_are_marks ⟨rfl, rfl, rfl, by decide +kernel, rfl, by decide +kernel, by decide +kernel⟩ (fun _ _ _ _ _ _ us hl => match us, hl with | [_, _], _ => rfl)
    (fun vs H Q E h => by obtain ⟨b, m, ms, rfl, hb, asc, lt, q⟩ := h; rfl) (fun cdv A outer s H vs Q E hr h => ?_)
  have nd : (["marks", "many", "last", "stand"] : List Str).Nodup := by decide +kernel
  obtain ⟨b, m, ms, rfl, hb, asc, lt, q⟩ := h
  refine ⟨_, (pss_cons (ps_if (pt_not (pt_val (pe_is .list T.b_isinstance (pv 0) T.b_list boot_list))) (pss_one (ps_ret pe_bl)) pss_nil)
      (pss_cons (ps_set (i := 2) nd rfl (.inl rfl) (pe_un un_neg pe_int))
      (pss_cons (ps_for PassesOwn.never rfl (pi_list (pv 0)) (pg_name (i := 3) nd rfl (.inl rfl)) (pss_cons (ps_if (pt_not (pt_val (pe_ca (ca_is_within T) hr (pa_cons (pv 3) (pa_cons (pe_op op_add (pv 2) pe_int) (pa_cons (pe_op op_sub (pv 1) pe_int) pa_nil)))))) (pss_one (ps_ret pe_bl)) pss_nil)
      (pss_one (ps_set (i := 2) nd rfl (.inl rfl) (pv 3)))))
      (pss_one (ps_ret pe_bl))))), ?_⟩
  refine ⟨_, rfl, _, _, rfl, .list (.of hb), _, rfl, iteF ?_⟩
  refine ⟨_, rfl, _, rfl, b, rfl, ⟨_, .of hb⟩, for_list (xs := ms.map fun (n : Nat) => V.int (n : Int)) (fun i σ' H' => ∃ (l : Int) (z : Option V), σ' = [some (.ref b), some (.int (m : Int)), some (.int l), z] ∧ H' = H ∧ -1 ≤ l ∧ ∀ (j n : Nat), i ≤ j → ms[j]? = some n → l < (n : Int)) ⟨-1, none, rfl, rfl, Int.le_refl _, fun j n _ _ => by omega⟩ (fun i σ' H' _ ⟨_, _, _, e, _⟩ => .of (e ▸ hb)) ?_ ?_⟩
  · rintro i y σ' H' hy ⟨l, z, rfl, rfl, l0, hl⟩
    obtain ⟨n, en, rfl⟩ := get_mapA hy
    have h1 := hl i n (Nat.le_refl _) en
    have h2 := lt n (List.mem_of_getElem? en)
    refine ⟨_, rfl, _, rfl, _, _, rfl, rfl, _, rfl, _, _, rfl, rfl, _, _, _, _, rfl, .int _, ?_⟩
    rw [inR_ok (show l + 1 ≤ (n : Int) ∧ (n : Int) ≤ (m : Int) - 1 by omega)]
    refine ⟨_, rfl, iteF ⟨_, rfl, _, _, rfl, rfl, by omega, fun j n' hj e => ?_⟩⟩
    obtain ⟨li, ei⟩ := List.getElem?_eq_some_iff.mp en
    obtain ⟨lj, ej⟩ := List.getElem?_eq_some_iff.mp e
    have := List.pairwise_iff_getElem.mp asc i j li lj (by omega)
    omega
  · rintro σ' H' ⟨l, z, rfl, rfl, _⟩
    exact q
end
end R

end M

set_option Elab.async false
set_option linter.all false
set_option maxRecDepth 100000
set_option maxHeartbeats 2000000
namespace M
open PySem PySem.Spec PyProof.Rows L2

def scO : Scope := { kind := .function, names := [(".0", .local), ("call", .cell), ("range", .globalImplicit), ("many", .cell), ("table", .cell)], isGenerator := false, isCoroutine := false, more := [] }
namespace R
section
variable {P : Program} {w : World} {K : PySem.W.Frag} {mg : Str → Option Value} {base : Heap}
def spReader (P : Program) (w : World) (K : PySem.W.Frag) : Sp := fun vs H Q _ => ∃ (p dx v d mb : Addr) (vt : Vlt) (m f : Nat) (kvs : List (NestedKey × V)) (ms : List Nat), vs = [.ref p, .ref v, .int (m : Int), .int (f : Int), .ref d, .ref mb] ∧ H p = some (.ins (He.ga K "Reader") dx []) ∧ VaultAt K H v vt ∧ VOk vt ∧ (1 ≤ m ∧ m ≤ 8) ∧ f < m ∧ NDat P w H d kvs ∧ TabK vt.calls m m 0 kvs ∧ H mb = some (.lst (ms.map fun (n : Nat) => V.int (n : Int))) ∧ ms.Pairwise (· < ·) ∧ (∀ n ∈ ms, n < m) ∧ ms.length ≤ 8 ∧ ∀ H', But p H H' → RdrAt K (fun x => H x = none) H' p vt.calls m f kvs ms → Q .non H'
theorem ma_Reader (T : Txt w K mg) : Ma P w K mg base 20 "Reader" (He.ga K "Reader") ((spReader P w K)) := by
  refine ma_of (N := ["self", "vault", "many", "first", "table", "marks", "numbers", "call", "stand"]) (ps := ["self", "vault", "many", "first", "table", "marks"]) T.f_Reader_init T.g_Reader T.k_Reader ⟨rfl, rfl, rfl, by decide +kernel, rfl, by decide +kernel, by decide +kernel⟩ (fun _ _ _ _ _ _ us hl => match us, hl with | [_, _, _, _, _, _], _ => rfl)
    (fun vs H Q E h => by obtain ⟨p, dx, v, d, mb, vt, m, f, kvs, ms, rfl, hp, hv, ok, hm, hf, hd, tk, hmb, asc, lt, l8, q⟩ := h; rfl) (fun cdv A outer s H vs Q E hr h => ?_)
  have nd : (["self", "vault", "many", "first", "table", "marks", "numbers", "call", "stand"] : List Str).Nodup := by decide +kernel
  obtain ⟨p, dx, v, d, mb, vt, m, f, kvs, ms, rfl, hp, hv, ok, hm, hf, hd, tk, hmb, asc, lt, l8, q⟩ := h
  refine ⟨_, (pss_cons (ps_set (i := 6) nd rfl (.inl rfl) (pe_ca (ca_call_numbers T) hr (pa_cons (pv 1) pa_nil)))
      (pss_cons (ps_if (pt_not (pt_val (pe_ca (R.ca_is_within T) hr (pa_cons (pv 2) (pa_cons pe_int (pa_cons (pe_gi T.i_MOST_STANDS) pa_nil)))))) (pss_one ps_never) pss_nil)
      (pss_cons (ps_if (pt_not (pt_val (pe_ca (R.ca_is_within T) hr (pa_cons (pv 3) (pa_cons pe_int (pa_cons (pe_op op_sub (pv 2) pe_int) pa_nil)))))) (pss_one ps_never) pss_nil)
      (pss_cons (ps_if (pt_not (pt_val (pe_ca (R.ca_is_table T) hr (pa_cons (pv 4) (pa_cons (pv 2) (pa_cons (pv 6) pa_nil)))))) (pss_one ps_never) pss_nil)
      (pss_cons (ps_if (pt_not (pt_val (pe_ca (R.ca_are_marks T) hr (pa_cons (pv 5) (pa_cons (pv 2) pa_nil))))) (pss_one ps_never) pss_nil)
      (pss_cons (ps_fld (pv 0) (pv 6) rfl)
      (pss_cons (ps_fld (pv 0) (pv 2) rfl)
      (pss_cons (ps_fld (pv 0) (pv 3) rfl)
      (pss_cons (ps_fld (pv 0) (pe_lock (pe_lc (own := [("call", 7)]) (tt := tYes) rfl nd (pi_keys (pv 6)) (blkOk_by (N := ["self", "vault", "many", "first", "table", "marks", "numbers", "call", "stand"]) (sc := defScope s_Reader_init) (by decide +kernel)) (fun _ _ _ _ _ => pg_name (i := 7) nd rfl (.inr rfl)) (fun _ _ _ _ _ => pts_nil) (fun _ _ _ _ _ => pe_lc (own := [("stand", 8)]) (tt := tYes) rfl nd (pi_range1 rfl T.b_range (pa_cons (pv 2) pa_nil)) (blkOk_by (N := ["self", "vault", "many", "first", "table", "marks", "numbers", "call", "stand"]) (sc := scO) (by decide +kernel)) (fun _ _ _ _ _ => pg_name (i := 8) nd rfl (.inl rfl)) (fun _ _ _ _ _ => pts_nil) (fun _ _ _ _ _ => pe_ngetP P w rfl rfl hr.units (pv 4) (pe_tup (pa_cons (pv 8) (pa_cons (pv 7) pa_nil))) (fun _ _ => rfl))))) rfl)
      (pss_one (ps_fld (pv 0) (pe_dc (own := [("stand", 8)]) (tt := tYes) rfl nd (pi_list (pv 5)) (blkOk_by (N := ["self", "vault", "many", "first", "table", "marks", "numbers", "call", "stand"]) (sc := defScope s_Reader_init) (by decide +kernel)) (fun _ _ _ _ _ => pg_name (i := 8) nd rfl (.inl rfl)) (fun _ _ _ _ _ => pts_nil) (fun _ _ _ _ _ => pv 8) (fun _ _ _ _ _ => pe_bl)) rfl))))))))))), ?_⟩
  refine ⟨_, rfl, v, vt, rfl, hv, ok, fun nb H1 s1 hnb => ?_⟩
  have hd1 := hd.same s1
  refine ⟨_, rfl, _, _, _, _, rfl, .int _, ?_⟩
  rw [inR_ok (show (1 : Int) ≤ (m : Int) ∧ (m : Int) ≤ 100000 by omega)]
  refine ⟨_, rfl, iteF ?_⟩
  refine ⟨_, rfl, _, rfl, _, _, rfl, rfl, _, _, _, _, rfl, .int _, ?_⟩
  rw [inR_ok (show (0 : Int) ≤ (f : Int) ∧ (f : Int) ≤ (m : Int) - 1 by omega)]
  refine ⟨_, rfl, iteF ?_⟩
  refine ⟨_, rfl, _, rfl, _, rfl, d, nb, m, kvs, vt.calls, rfl, hd1, tk, hnb, calls_nd ok.nd, hm.2, calls_len ok, fun H2 s2 => ⟨_, rfl, iteF ?_⟩⟩
  have s02 := s1.trans s2
  have hmb2 := s02 _ _ hmb
  refine ⟨_, rfl, _, rfl, mb, m, ms, rfl, hmb2, asc, lt, ⟨_, rfl, iteF ?_⟩⟩
  have hp2 := s02 _ _ hp
  have hnb2 := s2 _ _ hnb
  have npn : nb ≠ p := fun z => by rw [z, hp2] at hnb2; cases hnb2
  have npd : d ≠ p := fun z => by
    obtain ⟨_, _, zs, _, e⟩ := hd
    rw [z, hp] at e
    cases e
  have npm : mb ≠ p := fun z => by rw [z, hp2] at hmb2; cases hmb2
  refine ⟨_, rfl, _, rfl, p, _, dx, _, rfl, hp2, T.c_Reader, T.n_Reader_numbers, (by show 0 < 1000; decide), ?_⟩
  have b3 : But p H2 (upd H2 p (.ins (He.ga K "Reader") dx (putF "_numbers" (.ref nb) []))) := But.upd
  have hp3 : upd H2 p (.ins (He.ga K "Reader") dx (putF "_numbers" (.ref nb) [])) p = some (.ins (He.ga K "Reader") dx (putF "_numbers" (.ref nb) [])) := upd_same
  generalize upd H2 p (.ins (He.ga K "Reader") dx (putF "_numbers" (.ref nb) [])) = H3 at b3 hp3 ⊢
  refine ⟨_, rfl, _, rfl, p, _, dx, _, rfl, hp3, T.c_Reader, T.n_Reader_many, (by show 1 < 1000; decide), ?_⟩
  have b4 : But p H3 (upd H3 p (.ins (He.ga K "Reader") dx (putF "_many" (.int (m : Int)) (putF "_numbers" (.ref nb) [])))) := But.upd
  have hp4 : upd H3 p (.ins (He.ga K "Reader") dx (putF "_many" (.int (m : Int)) (putF "_numbers" (.ref nb) []))) p = some (.ins (He.ga K "Reader") dx (putF "_many" (.int (m : Int)) (putF "_numbers" (.ref nb) []))) := upd_same
  generalize upd H3 p (.ins (He.ga K "Reader") dx (putF "_many" (.int (m : Int)) (putF "_numbers" (.ref nb) []))) = H4 at b4 hp4 ⊢
  refine ⟨_, rfl, _, rfl, p, _, dx, _, rfl, hp4, T.c_Reader, T.n_Reader_first, (by show 2 < 1000; decide), ?_⟩
  have b5 : But p H4 (upd H4 p (.ins (He.ga K "Reader") dx (putF "_first" (.int (f : Int)) (putF "_many" (.int (m : Int)) (putF "_numbers" (.ref nb) []))))) := But.upd
  have hp5 : upd H4 p (.ins (He.ga K "Reader") dx (putF "_first" (.int (f : Int)) (putF "_many" (.int (m : Int)) (putF "_numbers" (.ref nb) [])))) p = some (.ins (He.ga K "Reader") dx (putF "_first" (.int (f : Int)) (putF "_many" (.int (m : Int)) (putF "_numbers" (.ref nb) [])))) := upd_same
  generalize upd H4 p (.ins (He.ga K "Reader") dx (putF "_first" (.int (f : Int)) (putF "_many" (.int (m : Int)) (putF "_numbers" (.ref nb) [])))) = H5 at b5 hp5 ⊢
  have b25 : But p H2 H5 := (b3.trans b4).trans b5
  have b05 : But p H H5 := (same_but s02).trans b25
  have hd5 : NDat P w H5 d kvs := NDat.but (.ins hp) b05 npd hd
  have hnb5 := b25 _ _ npn hnb2
  have hmb5 := b25 _ _ npm hmb2
  generalize ecs : vt.calls = cs at *
  have nds : cs.Nodup := ecs ▸ calls_nd ok.nd
  have l72 : cs.length ≤ 72 := ecs ▸ calls_len ok
  -- where the calls lead
  refine ⟨nb, .dT (numK cs), hnb5, trivial, fun od => ⟨_, rfl, nb, od, rfl, .inr ⟨numK cs, upd_same, fun D nD => ?_⟩⟩⟩
  have frL : upd H5 nb (.frz od (.dT (numK cs))) nb = some (.frz od (.dT (numK cs))) := upd_same
  have kL : ∀ b, b ≠ nb → upd H5 nb (.frz od (.dT (numK cs))) b = H5 b := fun b n => upd_ne n
  generalize upd H5 nb (.frz od (.dT (numK cs))) = HL at nD frL kL ⊢
  have ndn : d ≠ nb := fun z => by
    obtain ⟨_, _, zs, _, e⟩ := hd5
    rw [z, hnb5] at e
    cases e
  have hdL : NDat P w HL d kvs := by
    obtain ⟨g1, g2, zs, r, e⟩ := hd5
    exact ⟨g1, g2, zs, r.keeps fun b ys j => (kL b (fun z => by rw [z, hnb5] at j; cases j)).trans j, (kL d ndn).trans e⟩
  refine it_any (n := (numK cs).length) walk_keysT (fun i J => ∃ ys : List V, Same HL J ∧ J D = some (.lst ys) ∧ ys.length = i ∧ ∀ (j : Nat) (y : V) (c : Str × Int), ys[j]? = some y → cs[j]? = some c → LeadAt (fun b => HL b = none ∧ b ≠ D) J kvs m y c) ⟨[], same_new nD, upd_same, rfl, fun j y c e => by simp at e⟩ (fun i J _ ⟨_, s, _⟩ => s _ _ frL) ?_ ?_
  · rintro i x J0 J hi ⟨ys, sJ, hD, ly, hy⟩ ⟨rfl, k, v0, qa, ek, rfl, hq⟩
    obtain ⟨c, ec, ekv⟩ := numK_of ek
    cases ekv
    refine ⟨rfl, _, rfl, (m : Int), rfl, by omega, by omega, fun D2 nD2 => ?_⟩
    refine it_any (n := ((m : Nat) : Int).toNat) walk_range (fun j J2 => Same J J2 ∧ J2 D2 = some (.lst ((List.range j).map fun s => V.int (tabI kvs s c)))) ⟨same_new nD2, upd_same⟩ (fun _ _ _ _ => trivial) ?_ ?_
    · rintro j z K0 K2 hj ⟨sK, hD2⟩ ⟨rfl, rfl⟩
      refine ⟨rfl, _, rfl, _, rfl, _, rfl, (by show 2 ≤ sizeLine; decide), fun t nt => ?_⟩
      have sn := same_new (o := .tup [.int (0 + (j : Int)), .ref qa]) nt
      have et : upd K2 t (.tup [.int (0 + (j : Int)), .ref qa]) t = some (.tup [.int (j : Int), .ref qa]) := by rw [upd_same, Int.zero_add]
      have hD3 := sn _ _ hD2
      have hq3 := sn _ _ (sK _ _ hq)
      have sL3 := (sJ.trans sK).trans sn
      have sJ3 := sK.trans sn
      generalize upd K2 t (.tup [.int (0 + (j : Int)), .ref qa]) = K3 at sn et hD3 hq3 sL3 sJ3 ⊢
      have hjm : j < m := by omega
      refine ⟨d, kvs, tkey j c, .int (tabI kvs j c), rfl, hdL.same sL3, tkey_is et hq3, (tabI_at tk ec hjm).1, _, hD3, by rw [List.length_map, List.length_range, sizeLine_eq]; omega, fun b o e => ?_, ?_⟩
      · rw [upd_ne (ne_of_none e nD2)]
        exact sJ3 _ _ e
      · rw [upd_same, List.range_succ, List.map_append]
        rfl
    · rintro J2 ⟨sK, hD2⟩
      have hi2 : i < cs.length := (List.getElem?_eq_some_iff.mp ec).1
      refine ⟨ys, sK _ _ hD, by rw [ly, sizeLine_eq]; omega, ys ++ [.ref D2], fun b o e => ?_, upd_same, by rw [List.length_append, ly]; rfl, fun j y c' e1 e2 => ?_⟩
      · rw [upd_ne (ne_of_none e nD)]
        exact sK _ _ (sJ _ _ e)
      · rcases Nat.lt_or_ge j i with lt | ge
        · rw [List.getElem?_append_left (by omega)] at e1
          obtain ⟨b, e3, ⟨f1, f2⟩, hb⟩ := hy j y c' e1 e2
          exact ⟨b, e3, ⟨f1, f2⟩, by rw [upd_ne f2]; exact sK _ _ hb⟩
        · have lj := (List.getElem?_eq_some_iff.mp e1).1
          rw [List.length_append, List.length_singleton] at lj
          obtain rfl : j = i := by omega
          rw [List.getElem?_append_right (by omega), show j - ys.length = 0 by omega] at e1
          cases (Option.some.inj e1)
          rw [ec] at e2
          cases e2
          have n2 : D2 ≠ D := fun z => by rw [z, hD] at nD2; cases nD2
          refine ⟨D2, rfl, ⟨none_of sJ nD2, n2⟩, ?_⟩
          rw [upd_ne n2]
          exact hD2
  rintro J ⟨ys, sJ, hD, ly, hy⟩
  refine ⟨sJ _ _ frL, ?_⟩
  rw [numK_len] at ly
  have nDn : D ≠ nb := fun z => by rw [z, frL] at nD; cases nD
  have s56 : Same H5 (upd J nb (.dT (numK cs))) := fun b o e => by
    by_cases z : b = nb
    · rw [z, upd_same]
      rw [z, hnb5] at e
      exact e
    · rw [upd_ne z]
      exact sJ _ _ ((kL b z).trans e)
  have hD6 : upd J nb (.dT (numK cs)) D = some (.lst ys) := by rw [upd_ne nDn]; exact hD
  have hy6 : ∀ (j : Nat) (y : V) (c : Str × Int), ys[j]? = some y → cs[j]? = some c → LeadAt (fun b => H5 b = none) (upd J nb (.dT (numK cs))) kvs m y c := fun j y c e1 e2 => by
    obtain ⟨b, e, ⟨f1, f2⟩, hb⟩ := hy j y c e1 e2
    have nbn : b ≠ nb := fun z => by rw [z, frL] at f1; cases f1
    exact ⟨b, e, (kL b nbn).symm.trans f1, by rw [upd_ne nbn]; exact hb⟩
  have nD5 : H5 D = none := (kL D nDn).symm.trans nD
  generalize upd J nb (.dT (numK cs)) = H6 at s56 hD6 hy6 ⊢
  have hp6 := s56 _ _ hp5
  refine ⟨_, rfl, p, _, dx, _, rfl, hp6, T.c_Reader, T.n_Reader_leads, (by show 3 < 1000; decide), ?_⟩
  have b7 : But p H6 (upd H6 p (.ins (He.ga K "Reader") dx (putF "_leads" (.ref D) (putF "_first" (.int (f : Int)) (putF "_many" (.int (m : Int)) (putF "_numbers" (.ref nb) [])))))) := But.upd
  have hp7 : upd H6 p (.ins (He.ga K "Reader") dx (putF "_leads" (.ref D) (putF "_first" (.int (f : Int)) (putF "_many" (.int (m : Int)) (putF "_numbers" (.ref nb) []))))) p = some (.ins (He.ga K "Reader") dx (putF "_leads" (.ref D) (putF "_first" (.int (f : Int)) (putF "_many" (.int (m : Int)) (putF "_numbers" (.ref nb) []))))) := upd_same
  generalize upd H6 p (.ins (He.ga K "Reader") dx (putF "_leads" (.ref D) (putF "_first" (.int (f : Int)) (putF "_many" (.int (m : Int)) (putF "_numbers" (.ref nb) []))))) = H7 at b7 hp7 ⊢
  have hmb7 := b7 _ _ npm (s56 _ _ hmb5)
  -- the marks
  refine ⟨_, rfl, mb, rfl, ⟨_, .of hmb7⟩, fun M nM => ?_⟩
  refine it_any (n := (ms.map fun (n : Nat) => V.int (n : Int)).length) walk_list (fun i J => Same H7 J ∧ J M = some (.dK (markK (ms.take i)))) ⟨same_new nM, upd_same⟩ (fun i J _ ⟨s, _⟩ => .of (s _ _ hmb7)) ?_ ?_
  · rintro i x J0 J hi ⟨sJ, hM⟩ ⟨rfl, ex⟩
    obtain ⟨n, en, rfl⟩ := get_mapA ex
    have hi2 : i < ms.length := (List.getElem?_eq_some_iff.mp en).1
    refine ⟨rfl, _, rfl, markK (ms.take i), Sum.inl (n : Int), rfl, hM, by unfold markK; rw [List.length_map, List.length_take, sizeLine_eq]; omega, fun b o e => ?_, ?_⟩
    · rw [upd_ne (ne_of_none e nM)]
      exact sJ _ _ e
    · have nn : n ∉ ms.take i := fun hm' => by
        obtain ⟨j, hj, ej⟩ := List.mem_iff_getElem.mp hm'
        rw [List.length_take] at hj
        rw [List.getElem_take] at ej
        obtain ⟨li, ei⟩ := List.getElem?_eq_some_iff.mp en
        have := List.pairwise_iff_getElem.mp asc j i (by omega) li (by omega)
        omega
      rw [upd_same, putK_new _ (markK_none nn), take_more en, markK_snoc]
  rintro J ⟨sJ, hM⟩
  rw [List.length_map, List.take_length] at hM
  have hp8 := sJ _ _ hp7
  refine ⟨_, rfl, p, _, dx, _, rfl, hp8, T.c_Reader, T.n_Reader_marks, (by show 4 < 1000; decide), ?_⟩
  have b9 : But p J (upd J p (.ins (He.ga K "Reader") dx (putF "_marks" (.ref M) (putF "_leads" (.ref D) (putF "_first" (.int (f : Int)) (putF "_many" (.int (m : Int)) (putF "_numbers" (.ref nb) []))))))) := But.upd
  have hp9 : upd J p (.ins (He.ga K "Reader") dx (putF "_marks" (.ref M) (putF "_leads" (.ref D) (putF "_first" (.int (f : Int)) (putF "_many" (.int (m : Int)) (putF "_numbers" (.ref nb) [])))))) p = some (.ins (He.ga K "Reader") dx (putF "_marks" (.ref M) (putF "_leads" (.ref D) (putF "_first" (.int (f : Int)) (putF "_many" (.int (m : Int)) (putF "_numbers" (.ref nb) [])))))) := upd_same
  generalize upd J p (.ins (He.ga K "Reader") dx (putF "_marks" (.ref M) (putF "_leads" (.ref D) (putF "_first" (.int (f : Int)) (putF "_many" (.int (m : Int)) (putF "_numbers" (.ref nb) [])))))) = H9 at b9 hp9 ⊢
  have b69 : But p H6 H9 := (b7.trans (same_but sJ)).trans b9
  have no5 : ∀ b, H5 b = none → b ≠ p ∧ H b = none := fun b e => by
    have n : b ≠ p := fun z => by rw [z, hp5] at e; cases e
    refine ⟨n, ?_⟩
    cases eb : H b with
    | none => rfl
    | some o => rw [b05 _ _ n eb] at e; cases e
  obtain ⟨nDp, nD0⟩ := no5 D nD5
  have nMp : M ≠ p := fun z => by rw [z, hp7] at nM; cases nM
  refine q H9 (b05.trans ((same_but s56).trans b69)) ⟨dx, nb, D, M, ys, hp9, b69 _ _ npn (s56 _ _ hnb5), nD0, b69 _ _ nDp hD6, ly, fun j y c e1 e2 => ?_, b9 _ _ nMp hM⟩
  obtain ⟨b, e, f1, hb⟩ := hy6 j y c e1 e2
  obtain ⟨n1, n2⟩ := no5 b f1
  exact ⟨b, e, n2, b69 _ _ n1 hb⟩
end
end R

end M

set_option Elab.async false
set_option linter.all false
set_option maxRecDepth 100000
set_option maxHeartbeats 2000000
namespace M
open PySem PySem.Spec PyProof.Rows L2

/-! ### reading a row -/
/-- where the calls lead from the stand s -/
def wlk (kvs : List (NestedKey × V)) : Nat → List (Str × Int) → Nat
  | s, [] => s
  | s, c :: r => wlk kvs (tabI kvs s c).toNat r
def rowO (rs : List (Str × Int)) : List (Option PyData) := rs.map fun c => some (callD c)
theorem rowO_cons (c : Str × Int) (rs : List (Str × Int)) : rowO (c :: rs) = some (callD c) :: rowO rs := rfl
theorem rowO_at {rs : List (Str × Int)} {i : Nat} {o : Option PyData} (h : (rowO rs)[i]? = some o) : ∃ c, rs[i]? = some c ∧ o = some (callD c) := by
  unfold rowO at h
  rw [List.getElem?_map] at h
  cases e : rs[i]? with
  | none => rw [e] at h; cases h
  | some c => rw [e] at h; exact ⟨c, rfl, (Option.some.inj h).symm⟩
theorem clB_callD {cs : List (Str × Int)} {c : Str × Int} : clB cs (some (callD c)) = decide (c ∈ cs) := rfl
theorem row_ofO {cs : List (Str × Int)} : ∀ {os : List (Option PyData)} {i : Nat}, wrongAt cs i os = none → ∃ rs : List (Str × Int), os = rowO rs ∧ ∀ c ∈ rs, c ∈ cs
  | [], _, _ => ⟨[], rfl, fun _ h => nomatch h⟩
  | o :: os, i, h => by
    unfold wrongAt at h
    by_cases e : clB cs o = true
    · rw [if_pos e] at h
      obtain ⟨rs, rfl, hr⟩ := row_ofO h
      obtain ⟨c, j, e1, e2⟩ := clB_some e
      refine ⟨c :: rs, by rw [rowO_cons, ← cOf_eq e1], fun d hd => ?_⟩
      rcases List.mem_cons.mp hd with rfl | hd
      · exact List.mem_of_getElem? e2
      · exact hr _ hd
    · rw [if_neg e] at h
      cases h
theorem wrong_rowO {cs : List (Str × Int)} : ∀ {rs : List (Str × Int)} {i : Nat}, (∀ c ∈ rs, c ∈ cs) → wrongAt cs i (rowO rs) = none
  | [], _, _ => rfl
  | c :: rs, i, h => by
    rw [rowO_cons]
    unfold wrongAt
    rw [if_pos (by rw [clB_callD]; exact decide_eq_true (h c List.mem_cons_self))]
    exact wrong_rowO fun d hd => h d (List.mem_cons_of_mem _ hd)
theorem RowG.at {K : PySem.W.Frag} {H : Hp} {xs : List V} {rs : List (Str × Int)} (h : RowG K H xs (rowO rs)) {i : Nat} {y : V} (hy : xs[i]? = some y) : ∃ t c, y = .ref t ∧ rs[i]? = some c ∧ H t = some (.tup [.str c.1, .int c.2]) := by
  obtain ⟨o, eo, cg⟩ := h.2 i y hy
  obtain ⟨c, ec, rfl⟩ := rowO_at eo
  obtain ⟨t, e1, e2⟩ := cg.tr c (cOf_callD c)
  exact ⟨t, c, e1, ec, e2⟩
theorem tabI_nat {cs : List (Str × Int)} {m s j : Nat} {kvs : List (NestedKey × V)} {c : Str × Int} (h : TabK cs m m 0 kvs) (hc : cs[j]? = some c) (hs : s < m) : ((tabI kvs s c).toNat : Int) = tabI kvs s c ∧ (tabI kvs s c).toNat < m := by
  obtain ⟨_, h0, h1⟩ := tabI_at h hc hs
  omega
namespace R
section
variable {P : Program} {w : World} {K : PySem.W.Frag} {mg : Str → Option Value} {base : Heap}
def spReadsX (K : PySem.W.Frag) : Sp := fun vs H Q E => ∃ (r : Addr) (y : V) (F : Addr → Prop) (cs : List (Str × Int)) (m f : Nat) (kvs : List (NestedKey × V)) (ms : List Nat) (ro : Option (List (Option PyData))), vs = [.ref r, y] ∧ RdrAt K F H r cs m f kvs ms ∧ cs.Nodup ∧ f < m ∧ TabK cs m m 0 kvs ∧ Rg K H y ro ∧
  (∀ i, rwW cs ro = some i → ∀ x H', Same H H' → H' x = some (HO.xd [("index", V.int i)]) → E (.ref (He.ga K "NoRow")) (some x) H') ∧
  (∀ rs : List (Str × Int), ro = some (rowO rs) → (∀ c ∈ rs, c ∈ cs) → ∀ H', Same H H' → Q (.bl (decide (wlk kvs f rs ∈ ms))) H')
theorem mex_Reader_reads (T : Txt w K mg) : MeX P w K mg base 8 (He.ga K "Reader") "reads" (spReadsX K) := by
  refine me_ofX (N := ["self", "row", "stand", "call"]) (ps := ["self", "row"]) T.f_Reader_reads T.c_Reader T.m_Reader_reads ⟨rfl, rfl, rfl, by decide +kernel, rfl, by decide +kernel, by decide +kernel⟩ (fun _ _ _ _ _ _ us hl => match us, hl with | [_, _], _ => rfl)
    (fun vs H Q E h => by obtain ⟨r, y, F, cs, m, f, kvs, ms, ro, rfl, rd, nds, hf, tk, rg, q1, q2⟩ := h; rfl) (fun cdv A outer s H vs Q E hr h => ?_)
  have nd : (["self", "row", "stand", "call"] : List Str).Nodup := by decide +kernel
  obtain ⟨r, y, F, cs, m, f, kvs, ms, ro, rfl, rd, nds, hf, tk, rg, q1, q2⟩ := h
  refine ⟨_, (pss_cons (ps_expr (pe_caX (R.cx_check_row T) hr (takes_of rfl rfl rfl rfl) (pa_cons (pe_fld (pv 0) rfl) (pa_cons (pv 1) pa_nil))))
      (pss_cons (ps_set (i := 2) nd rfl (.inl rfl) (pe_fld (pv 0) rfl))
      (pss_cons (ps_for (passes_of rfl) rfl (pi_list (pv 1)) (pg_name (i := 3) nd rfl (.inl rfl)) (pss_one (ps_set (i := 2) nd rfl (.inl rfl) (pe_ix ix_list (pe_ix ix_list (pe_fld (pv 0) rfl) (pe_dget (hu_of hr) (pe_fld (pv 0) rfl) (pv 3) (fun _ _ => rfl)) (fun _ _ => rfl)) (pv 2) (fun _ _ => rfl)))))
      (pss_one (ps_ret (pe_cmp (pc_din (hu_of hr) (pv 2) (pe_fld (pv 0) rfl)))))))), ?_⟩
  have ob := rd.ob
  obtain ⟨dx, n, L, M, ys, h1, h2, h3, h4, h5, h6, h7⟩ := ob
  refine ⟨_, rfl, r, _, dx, _, _, rfl, h1, T.c_Reader, T.n_Reader_numbers, rf_numbers .., _, rfl, n, y, cs, ro, rfl, h2, nds, rg, q1, fun ew H1 s1 => ?_⟩
  obtain ⟨a, xs, rs, rfl, hx, hg, hrs, rfl⟩ : ∃ (a : Addr) (xs : List V) (rs : List (Str × Int)), y = .ref a ∧ SqL K H a xs ∧ RowG K H xs (rowO rs) ∧ (∀ c ∈ rs, c ∈ cs) ∧ ro = some (rowO rs) := by
    cases rg with
    | no h n => cases ew
    | tup h => cases ew
    | @row a xs os h g =>
      have ew : (wrongAt cs 0 os).map (fun i => ((i : Nat) : Int)) = none := ew
      obtain ⟨rs, rfl, hr'⟩ := row_ofO (Option.map_eq_none_iff.mp ew)
      exact ⟨a, xs, rs, rfl, h, g, hr', rfl⟩
  have lx : xs.length = rs.length := by rw [hg.1]; unfold rowO; rw [List.length_map]
  refine ⟨_, rfl, r, _, dx, _, _, rfl, s1 _ _ h1, T.c_Reader, T.n_Reader_first, rf_first .., ?_⟩
  refine ⟨_, rfl, a, rfl, ⟨_, s1.seq hx⟩, for_list (xs := xs) (fun i σ' H' => ∃ (st : Nat) (z : Option V), σ' = [some (.ref r), some (.ref a), some (.int (st : Int)), z] ∧ H' = H1 ∧ st < m ∧ wlk kvs f rs = wlk kvs st (rs.drop i)) ⟨f, none, rfl, rfl, hf, rfl⟩ (fun i σ' H' _ ⟨_, _, _, e, _⟩ => e ▸ s1.seq hx) ?_ ?_⟩
  · rintro i x σ' H' hi ⟨st, z, rfl, rfl, lt, ei⟩
    obtain ⟨t, c, rfl, ec, ht⟩ := hg.at hi
    obtain ⟨j, hj, ej⟩ := List.mem_iff_getElem.mp (hrs c (List.mem_of_getElem? ec))
    have hj' : cs[j]? = some c := by rw [List.getElem?_eq_getElem hj, ej]
    have dg : DGet H' n (.ref t) (some (.int (j : Nat))) := by
      rw [← numK_val nds hj']
      exact DGet.t (s1 _ _ h2) (k := ckey c) (s1 _ _ ht)
    have hy := List.getElem?_eq_getElem (show j < ys.length by omega)
    obtain ⟨b, eb, _, hb⟩ := h6 j _ c hy hj'
    rw [eb] at hy
    obtain ⟨t1, t2⟩ := tabI_nat tk hj' lt
    refine ⟨_, rfl, r, _, dx, _, _, rfl, s1 _ _ h1, T.c_Reader, T.n_Reader_leads, rf_leads .., _, rfl, r, _, dx, _, _, rfl, s1 _ _ h1, T.c_Reader, T.n_Reader_numbers, rf_numbers .., _, rfl, n, _, rfl, dg, _, _, _, _, rfl, rfl, .of (s1 _ _ h4), atI_nat hy, _, rfl, _, _, _, _, rfl, rfl, .of (s1 _ _ hb), atI_nat (leadL_at lt), ?_⟩
    refine ⟨(tabI kvs st c).toNat, _, by rw [t1]; rfl, rfl, t2, ?_⟩
    rw [ei, List.drop_eq_getElem_cons (List.getElem?_eq_some_iff.mp ec).1, (List.getElem?_eq_some_iff.mp ec).2]
    rfl
  · rintro σ' H' ⟨st, z, rfl, rfl, lt, ei⟩
    rw [List.drop_of_length_le (by omega)] at ei
    refine ⟨_, rfl, _, rfl, r, _, dx, _, _, rfl, s1 _ _ h1, T.c_Reader, T.n_Reader_marks, rf_marks .., M, _, rfl, .inl ⟨_, Sum.inl (st : Int), .inl (s1 _ _ h7), rfl, rfl⟩, ?_⟩
    rw [markK_val, ← show wlk kvs f rs = st from ei]
    exact q2 rs rfl hrs _ s1
end
end R

end M

set_option Elab.async false
set_option linter.all false
set_option maxRecDepth 100000
set_option maxHeartbeats 2000000
namespace M
open PySem PySem.Spec PyProof.Rows L2

namespace R
section
variable {P : Program} {w : World} {K : PySem.W.Frag} {mg : Str → Option Value} {base : Heap}
def spLReads (K : PySem.W.Frag) : Sp := fun vs H Q _ => ∃ (r : Addr) (y : V) (F : Addr → Prop) (cs : List (Str × Int)) (m f : Nat) (kvs : List (NestedKey × V)) (ms : List Nat) (ro : Option (List (Option PyData))), vs = [.ref r, y] ∧ RdrAt K F H r cs m f kvs ms ∧ cs.Nodup ∧ f < m ∧ TabK cs m m 0 kvs ∧ Rg K H y ro ∧
  (∀ i, rwW cs ro = some i → ∀ (t : Addr) (H' : Hp), Same H H' → H' t = some (.tup [.str "refused", .int i]) → Q (.ref t) H') ∧
  (∀ rs : List (Str × Int), ro = some (rowO rs) → (∀ c ∈ rs, c ∈ cs) → ∀ (t : Addr) (H' : Hp), Same H H' → H' t = some (.tup [.str "told", .bl (decide (wlk kvs f rs ∈ ms))]) → Q (.ref t) H')
theorem ca_l_reads (T : Txt w K mg) : Ca P w K mg base 10 "_law_reads" (spLReads K) := by
  refine ca_of (N := ["_law_reader", "_law_row_here", "_law_told", "e"]) (ps := ["_law_reader", "_law_row_here"]) T.f_l_reads T.g_law_reads ⟨rfl, rfl, rfl, by decide +kernel, rfl, by decide +kernel, by decide +kernel⟩ (fun _ _ _ _ _ _ us hl => match us, hl with | [_, _], _ => rfl)
    (fun vs H Q E h => by obtain ⟨r, y, F, cs, m, f, kvs, ms, ro, rfl, rd, nds, hf, tk, rg, q1, q2⟩ := h; rfl) (fun cdv A outer s H vs Q E hr h => ?_)
  have nd : (["_law_reader", "_law_row_here", "_law_told", "e"] : List Str).Nodup := by decide +kernel
  obtain ⟨r, y, F, cs, m, f, kvs, ms, ro, rfl, rd, nds, hf, tk, rg, q1, q2⟩ := h
  refine ⟨_, (pss_cons (ps_tryH (hands_as (i := 3) ⟨rfl, by decide, .inl T.g_NoRow⟩ rfl nd rfl rfl (fun _ _ _ _ _ hz hf => by exact (pss_one (ps_ret (pe_tup (pa_cons pe_str (pa_cons (pe_xf (C := He.ga K "NoRow") (oexB_ok T.e_NoRow).xf (oexB_ok T.e_NoRow).no hz hf (pv 3)) pa_nil)))))) (hands_nil (Wout := fun _ _ _ _ => False) rfl rfl takes0)) rfl rfl (fun W pn xe tk _ => by exact (pss_one (ps_set (i := 2) nd rfl (.inl rfl) (pe_meX (mex_Reader_reads T) hr tk (pv 0) (pa_cons (pv 1) pa_nil))))) pss_nil)
      (pss_one (ps_ret (pe_tup (pa_cons pe_str (pa_cons (pv 2) pa_nil)))))), ?_⟩
  have lk : ∀ v : V, ([(("index" : Str), v)] : List (Str × V)).lookup ("index" : Str) = some v := fun v => (lookup_put "index" "index" v []).trans (if_pos rfl)
  have ob := rd.ob
  obtain ⟨dx, n, L, M, ys, h1, _⟩ := ob
  refine ⟨_, rfl, r, dx, _, rfl, h1, rf_no _ _ _ _ _ (by decide +kernel) (by decide +kernel) (by decide +kernel) (by decide +kernel) (by decide +kernel), _, rfl, r, y, F, cs, m, f, kvs, ms, ro, rfl, rd, nds, hf, tk, rg, fun i ei x H' s hx => ?_, fun rs e hrs H' s => ?_⟩
  · refine ⟨true, T.xm_NoRow, fun _ a na => ?_, fun z => nomatch z⟩
    exact ⟨_, rfl, rfl, rfl, x, _, _, rfl, hx, lk _, (by show 2 ≤ sizeLine; decide), fun t nt => q1 i ei t _ (s.trans (same_new nt)) upd_same⟩
  · exact ⟨_, rfl, (by show 2 ≤ sizeLine; decide), fun t nt => q2 rs e hrs t _ (s.trans (same_new nt)) upd_same⟩
end
end R

end M

set_option Elab.async false
set_option linter.all false
set_option maxRecDepth 100000
set_option maxHeartbeats 2000000
namespace M
open PySem PySem.Spec PyProof.Rows L2

/-! ### what stays while the hand is drawn from -/
def wo (a l : Addr) (H : Hp) : Hp := fun b => if b = a ∨ b = l then none else H b
section
variable {a l : Addr} {H H' : Hp}
theorem wo_at {b : Addr} (h1 : b ≠ a) (h2 : b ≠ l) : wo a l H b = H b := if_neg (fun z => z.elim h1 h2)
theorem wo_sub : Same (wo a l H) H := fun b o e => by
  unfold wo at e
  split at e
  · cases e
  · exact e
theorem wo_of {b : Addr} {o : HO} (e : wo a l H b = some o) : b ≠ a ∧ b ≠ l ∧ H b = some o := by
  unfold wo at e
  split at e
  · cases e
  · rename_i n
    exact ⟨fun z => n (.inl z), fun z => n (.inr z), e⟩
theorem wo_same (s : Same H H') : Same (wo a l H) (wo a l H') := fun b o e => by
  obtain ⟨n1, n2, e⟩ := wo_of e
  rw [wo_at n1 n2]
  exact s _ _ e
theorem wo_bx (s : Bx a l H H') : Same (wo a l H) (wo a l H') := fun b o e => by
  obtain ⟨n1, n2, e⟩ := wo_of e
  rw [wo_at n1 n2]
  exact s _ _ n1 n2 e
end
section
variable {K : PySem.W.Frag} {H H' : Hp}
theorem Cg.dat {v : V} {d : PyData} (h : Dp K H v d) (n : cOf (some d) = none) : Cg K H v (some d) := ⟨.dat h, .no n⟩
theorem Cg.call {t : Addr} {c : Str × Int} (h : H t = some (.tup [.str c.1, .int c.2])) : Cg K H (.ref t) (some (callD c)) := ⟨.dat (.tup (.of h) (.cons (.str _) (.cons (.int _) .nil))), fun c' e => by
  rw [cOf_callD] at e
  cases e
  exact ⟨t, rfl, h⟩⟩
/-- its text is one -/
def Sh (o : Option PyData) : Prop := ∀ c, cOf o = some c → PyData.strOk c.1 = true
theorem Sh.no {o : Option PyData} (h : cOf o = none) : Sh o := fun c e => by rw [h] at e; cases e
theorem Sh.call {c : Str × Int} (h : PyData.strOk c.1 = true) : Sh (some (callD c)) := fun c' e => by
  rw [cOf_callD] at e
  cases e
  exact h
theorem sh_nil : ∀ o ∈ ([] : List (Option PyData)), Sh o := fun _ h => nomatch h
theorem sh_cons {o : Option PyData} {os : List (Option PyData)} (h : Sh o) (r : ∀ o ∈ os, Sh o) : ∀ x ∈ o :: os, Sh x := fun x hx => by
  rcases List.mem_cons.mp hx with rfl | hx
  · exact h
  · exact r x hx
theorem strOk_app {a b : Str} (ha : PyData.strOk a = true) (hb : PyData.strOk b = true) : PyData.strOk (a ++ b) = true := by
  unfold PyData.strOk at *
  show (a.cps ++ b.cps).all _ = true
  rw [Array.all_append, ha, hb]
  rfl
theorem RowG.nil : RowG K H [] [] := ⟨rfl, fun i y e => by simp at e⟩
theorem RowG.cons {v : V} {o : Option PyData} {xs : List V} {os : List (Option PyData)} (h : Cg K H v o) (r : RowG K H xs os) : RowG K H (v :: xs) (o :: os) := ⟨by rw [List.length_cons, List.length_cons, r.1], fun i y e => by
  cases i with
  | zero => exact ⟨o, rfl, (Option.some.inj e) ▸ h⟩
  | succ i => exact r.2 i y e⟩
theorem RowG.app {xs ys : List V} {os us : List (Option PyData)} (h : RowG K H xs os) (r : RowG K H ys us) : RowG K H (xs ++ ys) (os ++ us) := ⟨by rw [List.length_append, List.length_append, h.1, r.1], fun i y e => by
  rcases Nat.lt_or_ge i xs.length with lt | ge
  · rw [List.getElem?_append_left lt] at e
    rw [List.getElem?_append_left (by rw [← h.1]; exact lt)]
    exact h.2 i y e
  · rw [List.getElem?_append_right ge] at e
    rw [List.getElem?_append_right (by rw [← h.1]; exact ge), ← h.1]
    exact r.2 _ y e⟩
end
namespace R
section
variable {P : Program} {w : World} {K : PySem.W.Frag} {mg : Str → Option Value} {base : Heap}
def spBadItem (K : PySem.W.Frag) : Sp := fun vs H Q _ => ∃ (a l pl lc : Addr) (ys : List V) (cs : List (Str × Int)), vs = [.ref a, .ref lc] ∧ HandAt H a l pl ∧ H lc = some (.lst ys) ∧ TupsAt H ys cs ∧ (lc ≠ a ∧ lc ≠ l) ∧ (1 ≤ cs.length ∧ cs.length ≤ 72) ∧ (∀ c ∈ cs, c.1.length ≤ 1000 ∧ PyData.strOk c.1 = true) ∧
  ∀ (v : V) (o : Option PyData) (H' : Hp), Bx a l H H' → HandAt H' a l pl → Cg K (wo a l H') v o → Sh o → Q v H'
theorem ca_l_bad_item (T : Txt w K mg) : Ca P w K mg base 2 "_law_bad_item" (spBadItem K) := by
  refine ca_of (N := ["_law_hand_here", "_law_calls_here", "_law_call", "_law_bad"]) (ps := ["_law_hand_here", "_law_calls_here"]) T.f_l_bad_item T.g_law_bad_item ⟨rfl, rfl, rfl, by decide +kernel, rfl, by decide +kernel, by decide +kernel⟩ (fun _ _ _ _ _ _ us hl => match us, hl with | [_, _], _ => rfl)
    (fun vs H Q E h => by obtain ⟨a, l, pl, lc, ys, cs, rfl, hb, hl, hys, ⟨nla, nll⟩, ⟨c1, c72⟩, hnm, q⟩ := h; rfl) (fun cdv A outer s H vs Q E hr h => ?_)
  have nd : (["_law_hand_here", "_law_calls_here", "_law_call", "_law_bad"] : List Str).Nodup := by decide +kernel
  obtain ⟨a, l, pl, lc, ys, cs, rfl, hb, hl, hys, ⟨nla, nll⟩, ⟨c1, c72⟩, hnm, q⟩ := h
  refine ⟨_, (pss_cons (ps_set (i := 2) nd rfl (.inl rfl) (pe_ix ix_list (pv 1) (pe_ca (ca_l_draw T) hr (pa_cons (pv 0) (pa_cons (pe_callB call_len_seq (by rfl) T.b_len PySem.boot_len (pa_cons (pv 1) pa_nil)) pa_nil))) (fun _ _ => rfl)))
      (pss_cons (ps_set (i := 3) nd rfl (.inl rfl) (pe_lst (pa_cons pe_non (pa_cons (pe_ix ix_tup (pv 2) pe_int (fun _ _ => rfl)) (pa_cons (pe_callTy call_list_of (by rfl) T.b_list boot_list (pa_cons (pv 2) pa_nil)) (pa_cons (pe_tup (pa_cons (pe_ix ix_tup (pv 2) pe_int (fun _ _ => rfl)) pa_nil)) (pa_cons (pe_tup (pa_cons (pe_ix ix_tup (pv 2) pe_int (fun _ _ => rfl)) (pa_cons pe_int pa_nil))) (pa_cons (pe_tup (pa_cons (pe_ix ix_tup (pv 2) pe_int (fun _ _ => rfl)) (pa_cons (pe_un un_neg pe_int) pa_nil))) (pa_cons (pe_tup (pa_cons (pe_ix ix_tup (pv 2) pe_int (fun _ _ => rfl)) (pa_cons pe_bl pa_nil))) (pa_cons (pe_tup (pa_cons (pe_ix ix_tup (pv 2) pe_int (fun _ _ => rfl)) (pa_cons pe_bl pa_nil))) pa_nil))))))))))
      (pss_cons (ps_set (i := 3) nd rfl (.inl rfl) (pe_op op_cat (pv 3) (pe_lst (pa_cons (pe_tup (pa_cons pe_str (pa_cons pe_int pa_nil))) (pa_cons (pe_tup (pa_cons (pe_ix ix_tup (pv 2) pe_int (fun _ _ => rfl)) (pa_cons (pe_ix ix_tup (pv 2) pe_int (fun _ _ => rfl)) (pa_cons pe_int pa_nil)))) (pa_cons (pe_tup (pa_cons (pe_op op_add_str (pe_ix ix_tup (pv 2) pe_int (fun _ _ => rfl)) pe_str) (pa_cons (pe_ix ix_tup (pv 2) pe_int (fun _ _ => rfl)) pa_nil))) (pa_cons pe_int (pa_cons pe_bl (pa_cons pe_dnewK (pa_cons (pe_tup (pa_cons (pe_ix ix_tup (pv 2) pe_int (fun _ _ => rfl)) (pa_cons (pe_ix ix_tup (pv 2) pe_int (fun _ _ => rfl)) pa_nil))) pa_nil))))))))))
      (pss_one (ps_ret (pe_ix ix_list (pv 3) (pe_ca (ca_l_draw T) hr (pa_cons (pv 0) (pa_cons (pe_callB call_len_seq (by rfl) T.b_len PySem.boot_len (pa_cons (pv 3) pa_nil)) pa_nil))) (fun _ _ => rfl))))))), ?_⟩
  have ly := tups_len hys
  refine ⟨_, rfl, _, rfl, _, rfl, _, _, rfl, .inl (.of hl), a, l, pl, ((ys.length : Nat) : Int), rfl, hb, by omega, fun i H1 b1 p1 hi => ?_⟩
  obtain ⟨c, tq, ec, eq1, htq⟩ := tups_at hys (List.getElem?_eq_getElem (show i.toNat < ys.length by omega))
  have hi0 : ((i.toNat : Nat) : Int) = i := Int.toNat_of_nonneg hi.1
  have hl1 := b1 _ _ nla nll hl
  have ht1 : H1 tq = some (.tup [.str c.1, .int c.2]) := b1 _ _ (fun z => hb.chA.1 _ (z ▸ htq)) (fun z => by obtain ⟨gs, ps, i, n, h⟩ := hb; rw [z, h.el] at htq; cases htq) htq
  have aty : atI ys i = some (.ref tq) := by
    rw [← hi0, ← eq1]
    exact atI_nat (List.getElem?_eq_getElem (show i.toNat < ys.length by omega))
  obtain ⟨len1, sok⟩ := hnm c (List.mem_of_getElem? ec)
  refine ⟨_, _, _, _, rfl, rfl, .of hl1, aty, ?_⟩
  refine ⟨_, rfl, _, _, _, _, rfl, rfl, .of ht1, at0, _, rfl, tq, _, rfl, .inr (.of ht1), fun t2 n2 => ?_⟩
  have s2 := same_new (o := .lst [.str c.1, .int c.2]) n2
  have e2 : upd H1 t2 (.lst [.str c.1, .int c.2]) t2 = some (.lst [.str c.1, .int c.2]) := upd_same
  generalize upd H1 t2 (.lst [.str c.1, .int c.2]) = H2 at s2 e2 ⊢
  have ht2 := s2 _ _ ht1
  have p2 := p1.same s2
  refine ⟨_, rfl, _, _, _, _, rfl, rfl, .of ht2, at0, (by show 1 ≤ sizeLine; decide), fun t3 n3 => ?_⟩
  have s3 := same_new (o := .tup [.str c.1]) n3
  have e3 : upd H2 t3 (.tup [.str c.1]) t3 = some (.tup [.str c.1]) := upd_same
  generalize upd H2 t3 (.tup [.str c.1]) = H3 at s3 e3 ⊢
  have ht3 := s3 _ _ ht2
  have p3 := p2.same s3
  refine ⟨_, rfl, _, _, _, _, rfl, rfl, .of ht3, at0, (by show 2 ≤ sizeLine; decide), fun t4 n4 => ?_⟩
  have s4 := same_new (o := .tup [.str c.1, .int 9]) n4
  have e4 : upd H3 t4 (.tup [.str c.1, .int 9]) t4 = some (.tup [.str c.1, .int 9]) := upd_same
  generalize upd H3 t4 (.tup [.str c.1, .int 9]) = H4 at s4 e4 ⊢
  have ht4 := s4 _ _ ht3
  have p4 := p3.same s4
  refine ⟨_, rfl, _, _, _, _, rfl, rfl, .of ht4, at0, _, rfl, (by show 2 ≤ sizeLine; decide), fun t5 n5 => ?_⟩
  have s5 := same_new (o := .tup [.str c.1, .int (-1)]) n5
  have e5 : upd H4 t5 (.tup [.str c.1, .int (-1)]) t5 = some (.tup [.str c.1, .int (-1)]) := upd_same
  generalize upd H4 t5 (.tup [.str c.1, .int (-1)]) = H5 at s5 e5 ⊢
  have ht5 := s5 _ _ ht4
  have p5 := p4.same s5
  refine ⟨_, rfl, _, _, _, _, rfl, rfl, .of ht5, at0, (by show 2 ≤ sizeLine; decide), fun t6 n6 => ?_⟩
  have s6 := same_new (o := .tup [.str c.1, .bl true]) n6
  have e6 : upd H5 t6 (.tup [.str c.1, .bl true]) t6 = some (.tup [.str c.1, .bl true]) := upd_same
  generalize upd H5 t6 (.tup [.str c.1, .bl true]) = H6 at s6 e6 ⊢
  have ht6 := s6 _ _ ht5
  have p6 := p5.same s6
  refine ⟨_, rfl, _, _, _, _, rfl, rfl, .of ht6, at0, (by show 2 ≤ sizeLine; decide), fun t7 n7 => ?_⟩
  have s7 := same_new (o := .tup [.str c.1, .bl false]) n7
  have e7 : upd H6 t7 (.tup [.str c.1, .bl false]) t7 = some (.tup [.str c.1, .bl false]) := upd_same
  generalize upd H6 t7 (.tup [.str c.1, .bl false]) = H7 at s7 e7 ⊢
  have ht7 := s7 _ _ ht6
  have p7 := p6.same s7
  refine ⟨(by show 8 ≤ sizeLine; decide), fun t8 n8 => ?_⟩
  have s8 := same_new (o := .lst [.non, .str c.1, .ref t2, .ref t3, .ref t4, .ref t5, .ref t6, .ref t7]) n8
  have e8 : upd H7 t8 (.lst [.non, .str c.1, .ref t2, .ref t3, .ref t4, .ref t5, .ref t6, .ref t7]) t8 = some (.lst [.non, .str c.1, .ref t2, .ref t3, .ref t4, .ref t5, .ref t6, .ref t7]) := upd_same
  generalize upd H7 t8 (.lst [.non, .str c.1, .ref t2, .ref t3, .ref t4, .ref t5, .ref t6, .ref t7]) = H8 at s8 e8 ⊢
  have ht8 := s8 _ _ ht7
  have p8 := p7.same s8
  refine ⟨_, rfl, ?_⟩
  refine ⟨(by show 2 ≤ sizeLine; decide), fun t9 n9 => ?_⟩
  have s9 := same_new (o := .tup [.str "", .int 0]) n9
  have e9 : upd H8 t9 (.tup [.str "", .int 0]) t9 = some (.tup [.str "", .int 0]) := upd_same
  generalize upd H8 t9 (.tup [.str "", .int 0]) = H9 at s9 e9 ⊢
  have ht9 := s9 _ _ ht8
  have p9 := p8.same s9
  refine ⟨_, rfl, _, _, _, _, rfl, rfl, .of ht9, at0, _, rfl, _, _, _, _, rfl, rfl, .of ht9, at1, (by show 3 ≤ sizeLine; decide), fun t10 n10 => ?_⟩
  have s10 := same_new (o := .tup [.str c.1, .int c.2, .int 0]) n10
  have e10 : upd H9 t10 (.tup [.str c.1, .int c.2, .int 0]) t10 = some (.tup [.str c.1, .int c.2, .int 0]) := upd_same
  generalize upd H9 t10 (.tup [.str c.1, .int c.2, .int 0]) = H10 at s10 e10 ⊢
  have ht10 := s10 _ _ ht9
  have p10 := p9.same s10
  refine ⟨_, rfl, _, _, _, _, rfl, rfl, .of ht10, at0, _, _, rfl, rfl, (by show c.1.length + 1 ≤ sizeLine; rw [sizeLine_eq]; omega), _, rfl, _, _, _, _, rfl, rfl, .of ht10, at1, (by show 2 ≤ sizeLine; decide), fun t11 n11 => ?_⟩
  have s11 := same_new (o := .tup [.str (c.1 ++ "z"), .int c.2]) n11
  have e11 : upd H10 t11 (.tup [.str (c.1 ++ "z"), .int c.2]) t11 = some (.tup [.str (c.1 ++ "z"), .int c.2]) := upd_same
  generalize upd H10 t11 (.tup [.str (c.1 ++ "z"), .int c.2]) = H11 at s11 e11 ⊢
  have ht11 := s11 _ _ ht10
  have p11 := p10.same s11
  refine fun t12 n12 => ?_
  have s12 := same_new (o := .dK []) n12
  have e12 : upd H11 t12 (.dK []) t12 = some (.dK []) := upd_same
  generalize upd H11 t12 (.dK []) = H12 at s12 e12 ⊢
  have ht12 := s12 _ _ ht11
  have p12 := p11.same s12
  refine ⟨_, rfl, _, _, _, _, rfl, rfl, .of ht12, at1, _, rfl, _, _, _, _, rfl, rfl, .of ht12, at0, (by show 2 ≤ sizeLine; decide), fun t13 n13 => ?_⟩
  have s13 := same_new (o := .tup [.int c.2, .str c.1]) n13
  have e13 : upd H12 t13 (.tup [.int c.2, .str c.1]) t13 = some (.tup [.int c.2, .str c.1]) := upd_same
  generalize upd H12 t13 (.tup [.int c.2, .str c.1]) = H13 at s13 e13 ⊢
  have ht13 := s13 _ _ ht12
  have p13 := p12.same s13
  refine ⟨(by show 7 ≤ sizeLine; decide), fun t14 n14 => ?_⟩
  have s14 := same_new (o := .lst [.ref t9, .ref t10, .ref t11, .int 0, .bl true, .ref t12, .ref t13]) n14
  have e14 : upd H13 t14 (.lst [.ref t9, .ref t10, .ref t11, .int 0, .bl true, .ref t12, .ref t13]) t14 = some (.lst [.ref t9, .ref t10, .ref t11, .int 0, .bl true, .ref t12, .ref t13]) := upd_same
  generalize upd H13 t14 (.lst [.ref t9, .ref t10, .ref t11, .int 0, .bl true, .ref t12, .ref t13]) = H14 at s14 e14 ⊢
  have ht14 := s14 _ _ ht13
  have p14 := p13.same s14
  refine ⟨t8, t14, _, _, rfl, rfl, (((((s9.trans s10).trans s11).trans s12).trans s13).trans s14) _ _ e8, e14, (by show 8 + 7 ≤ sizeLine; decide), fun t15 n15 => ?_⟩
  have s15 := same_new (o := .lst [.non, .str c.1, .ref t2, .ref t3, .ref t4, .ref t5, .ref t6, .ref t7, .ref t9, .ref t10, .ref t11, .int 0, .bl true, .ref t12, .ref t13]) n15
  have e15 : upd H14 t15 (.lst [.non, .str c.1, .ref t2, .ref t3, .ref t4, .ref t5, .ref t6, .ref t7, .ref t9, .ref t10, .ref t11, .int 0, .bl true, .ref t12, .ref t13]) t15 = some (.lst [.non, .str c.1, .ref t2, .ref t3, .ref t4, .ref t5, .ref t6, .ref t7, .ref t9, .ref t10, .ref t11, .int 0, .bl true, .ref t12, .ref t13]) := upd_same
  change gName 3 _ _ (upd H14 t15 (.lst [.non, .str c.1, .ref t2, .ref t3, .ref t4, .ref t5, .ref t6, .ref t7, .ref t9, .ref t10, .ref t11, .int 0, .bl true, .ref t12, .ref t13])) _
  generalize upd H14 t15 (.lst [.non, .str c.1, .ref t2, .ref t3, .ref t4, .ref t5, .ref t6, .ref t7, .ref t9, .ref t10, .ref t11, .int 0, .bl true, .ref t12, .ref t13]) = H15 at s15 e15 ⊢
  have p15 := p14.same s15
  have g2 : (wo a l H15) t2 = some (.lst [.str c.1, .int c.2]) := (by rw [wo_at (hand_ne p1 n2).1 (hand_ne p1 n2).2.1]; exact ((((((((((((s3.trans s4).trans s5).trans s6).trans s7).trans s8).trans s9).trans s10).trans s11).trans s12).trans s13).trans s14).trans s15) _ _ e2)
  have g3 : (wo a l H15) t3 = some (.tup [.str c.1]) := (by rw [wo_at (hand_ne p2 n3).1 (hand_ne p2 n3).2.1]; exact (((((((((((s4.trans s5).trans s6).trans s7).trans s8).trans s9).trans s10).trans s11).trans s12).trans s13).trans s14).trans s15) _ _ e3)
  have g4 : (wo a l H15) t4 = some (.tup [.str c.1, .int 9]) := (by rw [wo_at (hand_ne p3 n4).1 (hand_ne p3 n4).2.1]; exact ((((((((((s5.trans s6).trans s7).trans s8).trans s9).trans s10).trans s11).trans s12).trans s13).trans s14).trans s15) _ _ e4)
  have g5 : (wo a l H15) t5 = some (.tup [.str c.1, .int (-1)]) := (by rw [wo_at (hand_ne p4 n5).1 (hand_ne p4 n5).2.1]; exact (((((((((s6.trans s7).trans s8).trans s9).trans s10).trans s11).trans s12).trans s13).trans s14).trans s15) _ _ e5)
  have g6 : (wo a l H15) t6 = some (.tup [.str c.1, .bl true]) := (by rw [wo_at (hand_ne p5 n6).1 (hand_ne p5 n6).2.1]; exact ((((((((s7.trans s8).trans s9).trans s10).trans s11).trans s12).trans s13).trans s14).trans s15) _ _ e6)
  have g7 : (wo a l H15) t7 = some (.tup [.str c.1, .bl false]) := (by rw [wo_at (hand_ne p6 n7).1 (hand_ne p6 n7).2.1]; exact (((((((s8.trans s9).trans s10).trans s11).trans s12).trans s13).trans s14).trans s15) _ _ e7)
  have g9 : (wo a l H15) t9 = some (.tup [.str "", .int 0]) := (by rw [wo_at (hand_ne p8 n9).1 (hand_ne p8 n9).2.1]; exact (((((s10.trans s11).trans s12).trans s13).trans s14).trans s15) _ _ e9)
  have g10 : (wo a l H15) t10 = some (.tup [.str c.1, .int c.2, .int 0]) := (by rw [wo_at (hand_ne p9 n10).1 (hand_ne p9 n10).2.1]; exact ((((s11.trans s12).trans s13).trans s14).trans s15) _ _ e10)
  have g11 : (wo a l H15) t11 = some (.tup [.str (c.1 ++ "z"), .int c.2]) := (by rw [wo_at (hand_ne p10 n11).1 (hand_ne p10 n11).2.1]; exact (((s12.trans s13).trans s14).trans s15) _ _ e11)
  have g12 : (wo a l H15) t12 = some (.dK []) := (by rw [wo_at (hand_ne p11 n12).1 (hand_ne p11 n12).2.1]; exact ((s13.trans s14).trans s15) _ _ e12)
  have g13 : (wo a l H15) t13 = some (.tup [.int c.2, .str c.1]) := (by rw [wo_at (hand_ne p12 n13).1 (hand_ne p12 n13).2.1]; exact (s14.trans s15) _ _ e13)
  have rg : RowG K (wo a l H15) [.non, .str c.1, .ref t2, .ref t3, .ref t4, .ref t5, .ref t6, .ref t7, .ref t9, .ref t10, .ref t11, .int 0, .bl true, .ref t12, .ref t13] [some (.none), some (.str c.1), some (.list [.str c.1, .int c.2]), some (.tuple [.str c.1]), some (callD (c.1, 9)), some (callD (c.1, (-1))), some (.tuple [.str c.1, .bool true]), some (.tuple [.str c.1, .bool false]), some (callD ("", 0)), some (.tuple [.str c.1, .int c.2, .int 0]), some (callD ((c.1 ++ "z"), c.2)), some (.int 0), some (.bool true), none, some (.tuple [.int c.2, .str c.1])] := (RowG.cons (Cg.dat (.non) rfl) (RowG.cons (Cg.dat (.str _) rfl) (RowG.cons (Cg.dat (.lst (.of g2) (.cons (.str _) (.cons (.int _) .nil))) rfl) (RowG.cons (Cg.dat (.tup (.of g3) (.cons (.str _) .nil)) rfl) (RowG.cons (Cg.call (c := (c.1, 9)) g4) (RowG.cons (Cg.call (c := (c.1, (-1))) g5) (RowG.cons (Cg.dat (.tup (.of g6) (.cons (.str _) (.cons (.bl _) .nil))) rfl) (RowG.cons (Cg.dat (.tup (.of g7) (.cons (.str _) (.cons (.bl _) .nil))) rfl) (RowG.cons (Cg.call (c := ("", 0)) g9) (RowG.cons (Cg.dat (.tup (.of g10) (.cons (.str _) (.cons (.int _) (.cons (.int _) .nil)))) rfl) (RowG.cons (Cg.call (c := ((c.1 ++ "z"), c.2)) g11) (RowG.cons (Cg.dat (.int 0) rfl) (RowG.cons (Cg.dat (.bl true) rfl) (RowG.cons ⟨.dic g12, .no rfl⟩ (RowG.cons (Cg.dat (.tup (.of g13) (.cons (.int _) (.cons (.str _) .nil))) rfl) RowG.nil)))))))))))))))
  have shs : ∀ o ∈ [some (.none), some (.str c.1), some (.list [.str c.1, .int c.2]), some (.tuple [.str c.1]), some (callD (c.1, 9)), some (callD (c.1, (-1))), some (.tuple [.str c.1, .bool true]), some (.tuple [.str c.1, .bool false]), some (callD ("", 0)), some (.tuple [.str c.1, .int c.2, .int 0]), some (callD ((c.1 ++ "z"), c.2)), some (.int 0), some (.bool true), none, some (.tuple [.int c.2, .str c.1])], Sh o := (sh_cons (Sh.no rfl) (sh_cons (Sh.no rfl) (sh_cons (Sh.no rfl) (sh_cons (Sh.no rfl) (sh_cons (Sh.call sok) (sh_cons (Sh.call sok) (sh_cons (Sh.no rfl) (sh_cons (Sh.no rfl) (sh_cons (Sh.call (by decide +kernel)) (sh_cons (Sh.no rfl) (sh_cons (Sh.call (strOk_app sok (by decide +kernel))) (sh_cons (Sh.no rfl) (sh_cons (Sh.no rfl) (sh_cons (Sh.no rfl) (sh_cons (Sh.no rfl) sh_nil)))))))))))))))
  refine ⟨_, rfl, _, rfl, _, rfl, _, _, rfl, .inl (.of e15), a, l, pl, 15, rfl, p15, by omega, fun j HF bF pF hj => ?_⟩
  have nE := hand_ne p14 n15
  have hj0 : ((j.toNat : Nat) : Int) = j := Int.toNat_of_nonneg hj.1
  generalize ([.non, .str c.1, .ref t2, .ref t3, .ref t4, .ref t5, .ref t6, .ref t7, .ref t9, .ref t10, .ref t11, .int 0, .bl true, .ref t12, .ref t13] : List V) = zs at e15 rg
  have lz : zs.length = 15 := rg.1
  have hz := List.getElem?_eq_getElem (show j.toNat < zs.length by omega)
  obtain ⟨o, eo, cg⟩ := rg.2 _ _ hz
  have az := atI_nat hz
  rw [hj0] at az
  refine ⟨_, _, _, _, rfl, rfl, .of (bF _ _ nE.1 nE.2.1 e15), az, q _ o HF ((b1.trans (Same.bx ((((((((((((((s2.trans s3).trans s4).trans s5).trans s6).trans s7).trans s8).trans s9).trans s10).trans s11).trans s12).trans s13).trans s14).trans s15)))).trans bF) pF (cg.same (wo_bx bF)) (shs o (List.mem_of_getElem? eo))⟩
end
end R

end M

set_option Elab.async false
set_option linter.all false
set_option maxRecDepth 100000
set_option maxHeartbeats 2000000
namespace M
open PySem PySem.Spec PyProof.Rows L2

theorem eqv_callD (c d : Str × Int) : PyData.eqv (callD c) (callD d) = decide (c = d) := by
  obtain ⟨c1, c2⟩ := c
  obtain ⟨d1, d2⟩ := d
  unfold callD
  simp only [PyData.eqv, PyData.eqvAll, Bool.and_true]
  rw [Bool.eq_iff_iff]
  simp
theorem any_callD (c : Str × Int) : ∀ cs : List (Str × Int), ((cs.map callD).any fun z => PyData.eqv z (callD c)) = decide (c ∈ cs)
  | [] => rfl
  | d :: cs => by
    rw [List.map_cons, List.any_cons, any_callD c cs, eqv_callD]
    by_cases e : d = c
    · subst e
      simp
    · have e2 : ¬ c = d := fun z => e z.symm
      simp [e, e2]
theorem tups_dp {K : PySem.W.Frag} {H : Hp} : ∀ {ys : List V} {cs : List (Str × Int)}, TupsAt H ys cs → DpAll K H ys (cs.map callD)
  | [], [], _ => .nil
  | _ :: _, _ :: _, ⟨⟨_, e, h⟩, r⟩ => .cons (e ▸ .tup (.of h) (.cons (.str _) (.cons (.int _) .nil))) (tups_dp r)
  | [], _ :: _, h => h.elim
  | _ :: _, [], h => h.elim
theorem lay_callD {c : Str × Int} (h : PyData.strOk c.1 = true) : (callD c).canLay0 = true ∧ (callD c).depth = 1 := by
  unfold callD
  refine ⟨?_, ?_⟩
  · rw [PyData.canLay0, PyData.canLayAll0, PyData.canLay0, h, PyData.canLayAll0, PyData.canLay0, PyData.canLayAll0]
    rfl
  · rw [PyData.depth, PyData.depthAll, PyData.depth, PyData.depthAll, PyData.depth, PyData.depthAll]
    rfl
theorem lay_callsD : ∀ {cs : List (Str × Int)}, (∀ c ∈ cs, PyData.strOk c.1 = true) → PyData.canLayAll0 (cs.map callD) = true ∧ PyData.depthAll (cs.map callD) ≤ 1
  | [], _ => ⟨by rw [List.map_nil, PyData.canLayAll0], by rw [List.map_nil, PyData.depthAll]; exact Nat.zero_le _⟩
  | c :: cs, h => by
    obtain ⟨h1, h2⟩ := lay_callsD fun d hd => h d (List.mem_cons_of_mem _ hd)
    obtain ⟨h3, h4⟩ := lay_callD (h c List.mem_cons_self)
    refine ⟨?_, ?_⟩
    · rw [List.map_cons, PyData.canLayAll0, h1, h3]
      rfl
    · rw [List.map_cons, PyData.depthAll]
      exact Nat.max_le.mpr ⟨by omega, h2⟩
theorem shp_call {c : Str × Int} (h : PyData.strOk c.1 = true) : SeqAt.shaped (callD c) = true := by
  obtain ⟨h1, h2⟩ := lay_callD h
  unfold SeqAt.shaped
  rw [h1, h2]
  rfl
theorem shp_calls {cs : List (Str × Int)} (h : ∀ c ∈ cs, PyData.strOk c.1 = true) : SeqAt.shaped (.list (cs.map callD)) = true := by
  obtain ⟨h1, h2⟩ := lay_callsD h
  unfold SeqAt.shaped
  rw [PyData.canLay0, h1, PyData.depth, decide_eq_true (show PyData.depthAll (cs.map callD) + 1 ≤ 64 by omega)]
  rfl
namespace R
section
variable {P : Program} {w : World} {K : PySem.W.Frag} {mg : Str → Option Value} {base : Heap}
def spIsBad (K : PySem.W.Frag) : Sp := fun vs H Q _ => ∃ (lc : Addr) (v : V) (ys : List V) (cs : List (Str × Int)) (o : Option PyData), vs = [.ref lc, v] ∧ H lc = some (.lst ys) ∧ TupsAt H ys cs ∧ (∀ c ∈ cs, PyData.strOk c.1 = true) ∧ Cg K H v o ∧ Sh o ∧ Q (.bl (!clB cs o)) H
theorem ca_l_is_bad (T : Txt w K mg) : Ca P w K mg base 1 "_law_is_bad" (spIsBad K) := by
  refine ca_of (N := ["_law_calls_here", "_law_item"]) (ps := ["_law_calls_here", "_law_item"]) T.f_l_is_bad T.g_law_is_bad ⟨rfl, rfl, rfl, by decide +kernel, rfl, by decide +kernel, by decide +kernel⟩ (fun _ _ _ _ _ _ us hl => match us, hl with | [_, _], _ => rfl)
    (fun vs H Q E h => by obtain ⟨lc, v, ys, cs, o, rfl, hl, hys, sok, cg, sh, q⟩ := h; rfl) (fun cdv A outer s H vs Q E hr h => ?_)
  have nd : (["_law_calls_here", "_law_item"] : List Str).Nodup := by decide +kernel
  obtain ⟨lc, v, ys, cs, o, rfl, hl, hys, sok, cg, sh, q⟩ := h
  refine ⟨_, (pss_cons (ps_if (PW.pt (pw_or (pt_not (pt_val (pe_is .tuple T.b_isinstance (pv 1) T.b_tuple boot_tuple))) (pw_or (pt_cmpR op_ne (pe_callB call_len_seq (by rfl) T.b_len PySem.boot_len (pa_cons (pv 1) pa_nil)) pe_int (nomark _)) (pw_or1 (pt_not (pt_val (pe_is .str T.b_isinstance (pe_ix ix_tup (pv 1) pe_int (fun _ _ => rfl)) T.b_str boot_str))))))) (pss_one (ps_ret pe_bl)) pss_nil)
      (pss_one (ps_ret (pe_or (pe_not (pe_is .int T.b_isinstance (pe_ix ix_tup (pv 1) pe_int (fun _ _ => rfl)) T.b_int boot_int)) (pe_or (pe_is .bool T.b_isinstance (pe_ix ix_tup (pv 1) pe_int (fun _ _ => rfl)) T.b_bool boot_bool) (pe_one (pe_cmpR (op_notInD (by have := hr.un; show _ + 65 < cLine; exact Nat.lt_of_le_of_lt (Nat.add_le_add_left (by omega) _) this)) (pv 1) (pv 0) (by rfl)))))))), ?_⟩
  obtain ⟨k, kd, k1, k2⟩ := th_kd cg.tg
  have no : cOf o = none → Q (.bl true) H := fun e => by
    have q := q
    unfold clB at q
    rw [e] at q
    exact q
  refine ⟨_, rfl, _, _, rfl, kd, _, rfl, ?_⟩
  cases o with
  | none =>
    cases k2 rfl
    exact iteT (iteT (no rfl))
  | some dd => ?_
  by_cases tp : ∃ ds, dd = .tuple ds
  case neg =>
    cases k1 _ rfl
    cases dd <;> first | exact absurd ⟨_, rfl⟩ tp | exact iteT (iteT (no rfl))
  obtain ⟨ds, rfl⟩ := tp
  cases k1 _ rfl
  cases cg.tg with | dat hdat => ?_
  obtain ⟨a, xs, rfl, ha, hxs⟩ := dp_tup hdat
  have el := dps_len hxs
  refine iteF ⟨_, rfl, _, _, rfl, .inr ha, ?_⟩
  refine ⟨rfl, _, rfl, ?_⟩
  rw [el]
  by_cases l2 : ds.length = 2
  case neg =>
    rw [decide_eq_false (show ¬ V.int ((ds.length : Nat) : Int) = V.int 2 from fun z => l2 (by have := V.int.inj z; omega))]
    refine iteT (iteT (no ?_))
    unfold cOf
    split
    · rename_i e
      cases e
      exact absurd rfl l2
    · rfl
  rw [decide_eq_true (show V.int ((ds.length : Nat) : Int) = V.int 2 by rw [l2]; rfl)]
  refine iteF ?_
  obtain ⟨d1, d2, rfl⟩ : ∃ d1 d2, ds = [d1, d2] := by
    match ds, l2 with
    | [x, y], _ => exact ⟨x, y, rfl⟩
  obtain ⟨b, x, y, eb, hb, hx, hy⟩ := dp2 hdat
  cases eb
  refine ⟨_, rfl, _, _, _, _, rfl, rfl, hb, at0, _, _, rfl, dp_kd hx, _, rfl, ?_⟩
  cases hx with
  | str s =>
    refine iteF ?_
    refine ⟨_, rfl, _, _, _, _, rfl, rfl, hb, at1, _, _, rfl, dp_kd hy, ?_⟩
    cases hy with
    | int i =>
      refine ⟨_, rfl, _, rfl, iteF ?_⟩
      refine ⟨_, rfl, _, _, _, _, rfl, rfl, hb, at1, _, _, rfl, .int _, _, rfl, iteF ?_⟩
      refine ⟨_, rfl, _, rfl, callD (s, i), cs.map callD, hdat, .lst (.of hl) (tups_dp hys), shp_call (c := (s, i)) (sh (s, i) rfl), shp_calls sok, ?_⟩
      rw [any_callD]
      exact q
    | bl c =>
      refine ⟨_, rfl, _, rfl, iteF ?_⟩
      exact ⟨_, rfl, _, _, _, _, rfl, rfl, hb, at1, _, _, rfl, .bl _, _, rfl, iteT (no rfl)⟩
    | _ => exact ⟨_, rfl, _, rfl, iteT (no rfl)⟩
  | _ => exact iteT (no rfl)
end
end R

end M

set_option Elab.async false
set_option linter.all false
set_option maxRecDepth 100000
set_option maxHeartbeats 2000000
namespace M
open PySem PySem.Spec PyProof.Rows L2

theorem inV_ints (s : Nat) : ∀ ms : List Nat, inV (.int (s : Int)) (ms.map fun (n : Nat) => V.int (n : Int)) = decide (s ∈ ms)
  | [] => rfl
  | n :: ms => by
    have ih := inV_ints s ms
    unfold inV at ih ⊢
    rw [List.map_cons, List.any_cons, ih]
    by_cases e : n = s
    · subst e
      simp [eqV]
    · have e2 : ¬ s = n := fun z => e z.symm
      have e3 : ¬ ((n : Int) = (s : Int)) := fun z => e (Int.ofNat.inj z)
      simp [eqV, e2, e3]
theorem row_dp {K : PySem.W.Frag} {H : Hp} {xs : List V} {rs : List (Str × Int)} (h : RowG K H xs (rowO rs)) : DpAll K H xs (rs.map callD) := by
  induction rs generalizing xs with
  | nil =>
    have l := h.1
    match xs, l with
    | [], _ => exact .nil
  | cons c rs ih =>
    have l := h.1
    match xs, l with
    | x :: xs, l =>
      obtain ⟨t, c', e1, e2, e3⟩ := h.at (i := 0) rfl
      cases (Option.some.inj e2)
      exact .cons (e1 ▸ .tup (.of e3) (.cons (.str _) (.cons (.int _) .nil))) (ih ⟨Nat.succ.inj l, fun i y e => h.2 (i + 1) y e⟩)
theorem eqv_callsD : ∀ cs : List (Str × Int), PyData.eqvAll (cs.map callD) (cs.map callD) = true
  | [] => by rw [List.map_nil, PyData.eqvAll]
  | c :: cs => by
    rw [List.map_cons, PyData.eqvAll, eqv_callsD cs, eqv_callD, decide_eq_true rfl]
    rfl
theorem rowO_inj : ∀ {as bs : List (Str × Int)}, rowO as = rowO bs → bs = as
  | [], [], _ => rfl
  | [], _ :: _, h => nomatch h
  | _ :: _, [], h => nomatch h
  | a :: as, b :: bs, h => by
    rw [rowO_cons, rowO_cons] at h
    obtain ⟨h1, h2⟩ := List.cons.inj h
    have h3 : a = b := Option.some.inj ((cOf_callD a).symm.trans ((congrArg cOf h1).trans (cOf_callD b)))
    rw [h3, rowO_inj h2]
namespace R
section
variable {P : Program} {w : World} {K : PySem.W.Frag} {mg : Str → Option Value} {base : Heap}
def spYes (P : Program) (w : World) (K : PySem.W.Frag) : Sp := fun vs H Q _ => ∃ (d mb r : Addr) (m f : Nat) (kvs : List (NestedKey × V)) (cs rs : List (Str × Int)) (ms : List Nat) (xs : List V), vs = [.ref d, .int (f : Int), .ref mb, .ref r] ∧ NDat P w H d kvs ∧ TabK cs m m 0 kvs ∧ f < m ∧ H mb = some (.lst (ms.map fun (n : Nat) => V.int (n : Int))) ∧ SqL K H r xs ∧ RowG K H xs (rowO rs) ∧ (∀ c ∈ rs, c ∈ cs) ∧ ∀ H', Same H H' → Q (.bl (decide (wlk kvs f rs ∈ ms))) H'
theorem ca_l_yes (T : Txt w K mg) : Ca P w K mg base 2 "_law_yes" ((spYes P w K)) := by
  refine ca_of (N := ["_law_table_here", "_law_first", "_law_marks", "_law_row_here", "_law_stand", "_law_call"]) (ps := ["_law_table_here", "_law_first", "_law_marks", "_law_row_here"]) T.f_l_yes T.g_law_yes ⟨rfl, rfl, rfl, by decide +kernel, rfl, by decide +kernel, by decide +kernel⟩ (fun _ _ _ _ _ _ us hl => match us, hl with | [_, _, _, _], _ => rfl)
    (fun vs H Q E h => by obtain ⟨d, mb, r, m, f, kvs, cs, rs, ms, xs, rfl, hd, tk, hf, hmb, hr', rg, hrs, q⟩ := h; rfl) (fun cdv A outer s H vs Q E hr h => ?_)
  have nd : (["_law_table_here", "_law_first", "_law_marks", "_law_row_here", "_law_stand", "_law_call"] : List Str).Nodup := by decide +kernel
  obtain ⟨d, mb, r, m, f, kvs, cs, rs, ms, xs, rfl, hd, tk, hf, hmb, hr', rg, hrs, q⟩ := h
  refine ⟨_, (pss_cons (ps_set (i := 4) nd rfl (.inl rfl) (pv 1))
      (pss_cons (ps_for PassesOwn.never rfl (pi_list (pv 3)) (pg_name (i := 5) nd rfl (.inl rfl)) (pss_one (ps_set (i := 4) nd rfl (.inl rfl) (pe_nget hr.units (pv 0) (pe_tup (pa_cons (pv 4) (pa_cons (pv 5) pa_nil)))))))
      (pss_one (ps_ret (pe_cmpR op_in_seq (pv 4) (pv 2) (by rfl)))))), ?_⟩
  have lx : xs.length = rs.length := by rw [rg.1]; unfold rowO; rw [List.length_map]
  refine ⟨_, rfl, _, rfl, r, rfl, ⟨_, hr'⟩, for_list (xs := xs) (fun i σ' H' => ∃ (st : Nat) (z : Option V), σ' = [some (.ref d), some (.int (f : Int)), some (.ref mb), some (.ref r), some (.int (st : Int)), z] ∧ Same H H' ∧ st < m ∧ wlk kvs f rs = wlk kvs st (rs.drop i)) ⟨f, none, rfl, Same.refl _, hf, rfl⟩ (fun i σ' H' _ ⟨_, _, _, s, _⟩ => s.seq hr') ?_ ?_⟩
  · rintro i x σ' H' hi ⟨st, z, rfl, s1, lt, ei⟩
    obtain ⟨t, c, rfl, ec, ht⟩ := rg.at hi
    obtain ⟨j, hj, ej⟩ := List.mem_iff_getElem.mp (hrs c (List.mem_of_getElem? ec))
    have hj' : cs[j]? = some c := by rw [List.getElem?_eq_getElem hj, ej]
    obtain ⟨t1, t2⟩ := tabI_nat tk hj' lt
    refine ⟨_, rfl, _, rfl, _, rfl, (by show 2 ≤ sizeLine; decide), fun u nu => ?_⟩
    have s2 := same_new (o := .tup [.int (st : Int), .ref t]) nu
    refine ⟨d, kvs, tkey st c, _, rfl, hd.same (s1.trans s2), tkey_is upd_same ((s1.trans s2) _ _ ht), (tabI_at tk hj' lt).1, ?_⟩
    refine ⟨(tabI kvs st c).toNat, _, by rw [t1]; rfl, s1.trans s2, t2, ?_⟩
    rw [ei, List.drop_eq_getElem_cons (List.getElem?_eq_some_iff.mp ec).1, (List.getElem?_eq_some_iff.mp ec).2]
    rfl
  · rintro σ' H' ⟨st, z, rfl, s1, lt, ei⟩
    rw [List.drop_of_length_le (by omega)] at ei
    refine ⟨_, rfl, _, rfl, mb, _, rfl, .inl (.of (s1 _ _ hmb)), rfl, List.all_eq_true.mpr fun v hv => ?_, ?_⟩
    · obtain ⟨n, _, rfl⟩ := List.mem_map.mp hv
      rfl
    · show Q (.bl (inV _ _)) _
      rw [inV_ints, ← show wlk kvs f rs = st from ei]
      exact q _ s1
def spRight (K : PySem.W.Frag) : Sp := fun vs H Q _ => ∃ (r ra : Addr) (F : Addr → Prop) (m f : Nat) (kvs : List (NestedKey × V)) (cs rs : List (Str × Int)) (ms : List Nat) (xs : List V), vs = [.ref r, .bl (decide (wlk kvs f rs ∈ ms)), .ref ra] ∧ RdrAt K F H r cs m f kvs ms ∧ cs.Nodup ∧ f < m ∧ TabK cs m m 0 kvs ∧ SqL K H ra xs ∧ RowG K H xs (rowO rs) ∧ (∀ c ∈ rs, c ∈ cs) ∧ (∀ c ∈ cs, PyData.strOk c.1 = true) ∧ ∀ H', Same H H' → Q (.bl true) H'
theorem ca_l_right (T : Txt w K mg) : Ca P w K mg base 12 "_law_right" (spRight K) := by
  refine ca_of (N := ["_law_reader", "_law_due", "_law_row_here", "_law_handed", "_law_k", "_law_told"]) (ps := ["_law_reader", "_law_due", "_law_row_here"]) T.f_l_right T.g_law_right ⟨rfl, rfl, rfl, by decide +kernel, rfl, by decide +kernel, by decide +kernel⟩ (fun _ _ _ _ _ _ us hl => match us, hl with | [_, _, _], _ => rfl)
    (fun vs H Q E h => by obtain ⟨r, ra, F, m, f, kvs, cs, rs, ms, xs, rfl, rd, nds, hf, tk, hra, rg, hrs, sok, q⟩ := h; rfl) (fun cdv A outer s H vs Q E hr h => ?_)
  have nd : (["_law_reader", "_law_due", "_law_row_here", "_law_handed", "_law_k", "_law_told"] : List Str).Nodup := by decide +kernel
  obtain ⟨r, ra, F, m, f, kvs, cs, rs, ms, xs, rfl, rd, nds, hf, tk, hra, rg, hrs, sok, q⟩ := h
  refine ⟨_, (pss_cons (ps_set (i := 3) nd rfl (.inl rfl) (pe_callTy call_list_of (by rfl) T.b_list boot_list (pa_cons (pv 2) pa_nil)))
      (pss_cons (ps_for PassesOwn.never rfl (pi_range1 rfl T.b_range (pa_cons pe_int pa_nil)) (pg_name (i := 4) nd rfl (.inl rfl)) (pss_cons (ps_set (i := 5) nd rfl (.inl rfl) (pe_ca (ca_l_reads T) hr (pa_cons (pv 0) (pa_cons (pv 3) pa_nil))))
      (pss_one (ps_if (PW.pt (pw_or (pt_cmpR op_ne (pe_ix ix_tup (pv 5) pe_int (fun _ _ => rfl)) pe_str (nomark _)) (pw_or (pt_not (pt_val (pe_is .bool T.b_isinstance (pe_ix ix_tup (pv 5) pe_int (fun _ _ => rfl)) T.b_bool boot_bool))) (pw_or (pt_cmpR op_ne (pe_ix ix_tup (pv 5) pe_int (fun _ _ => rfl)) (pv 1) (nomark _)) (pw_or1 (pt_cmpR (op_neD hr.units) (pv 3) (pv 2) (nomark _))))))) (pss_one (ps_ret pe_bl)) pss_nil))))
      (pss_one (ps_ret pe_bl)))), ?_⟩
  refine ⟨_, rfl, ra, xs, rfl, .inl hra, fun l nl => ?_⟩
  have s1 := same_new (o := .lst xs) nl
  have hl : upd H l (.lst xs) l = some (.lst xs) := upd_same
  generalize upd H l (.lst xs) = H1 at s1 hl ⊢
  refine ⟨2, rfl, by decide, by decide, for_it (n := 2) walk_range (fun i σ' H' => ∃ (z4 z5 : Option V), σ' = [some (.ref r), some (.bl (decide (wlk kvs f rs ∈ ms))), some (.ref ra), some (.ref l), z4, z5] ∧ Same H1 H') ⟨none, none, rfl, Same.refl _⟩ (fun _ _ _ _ _ => trivial) ?_ ?_⟩
  · rintro i x σ' H0 H' hi ⟨z4, z5, rfl, s2⟩ ⟨rfl, rfl⟩
    have s3 := s1.trans s2
    refine ⟨_, rfl, _, rfl, r, .ref l, F, cs, m, f, kvs, ms, some (rowO rs), rfl, rd.same s3, nds, hf, tk, .row (.of (s2 _ _ hl)) (rg.same s3), fun i e => ?_, fun rs' e _ t H2 s4 ht => ?_⟩
    · have e : (wrongAt cs 0 (rowO rs)).map (fun i => ((i : Nat) : Int)) = some i := e
      rw [wrong_rowO hrs] at e
      cases e
    obtain rfl : rs' = rs := rowO_inj (Option.some.inj e)
    have s5 := s2.trans s4
    have hdp := row_dp (rg.same (s1.trans s5))
    have shp := shp_calls (fun c hc => sok c (hrs c hc))
    refine ⟨_, rfl, _, _, _, _, rfl, rfl, .of ht, at0, rfl, _, rfl, ?_⟩
    rw [decide_eq_true rfl]
    refine iteF ⟨_, rfl, _, _, _, _, rfl, rfl, .of ht, at1, _, _, rfl, .bl _, _, rfl, iteF ?_⟩
    refine ⟨_, rfl, _, _, _, _, rfl, rfl, .of ht, at1, _, rfl, rfl, _, rfl, ?_⟩
    rw [decide_eq_true rfl]
    refine iteF ⟨_, rfl, _, rfl, .list (rs'.map callD), .list (rs'.map callD), .lst (.of (s5 _ _ hl)) hdp, .lst ((s1.trans s5).seq hra) hdp, shp, shp, _, rfl, ?_⟩
    rw [PyData.eqv, eqv_callsD]
    exact iteF ⟨_, _, rfl, s5⟩
  · rintro σ' H' ⟨z4, z5, rfl, s2⟩
    exact q _ (s1.trans s2)
end
end R

end M

set_option Elab.async false
set_option linter.all false
set_option maxRecDepth 100000
set_option maxHeartbeats 2000000
namespace M
open PySem PySem.Spec PyProof.Rows L2

section
variable {K : PySem.W.Frag} {H H' : Hp}
theorem RowG.take {xs : List V} {os : List (Option PyData)} (n : Nat) (h : RowG K H xs os) : RowG K H (xs.take n) (os.take n) := ⟨by rw [List.length_take, List.length_take, h.1], fun i y e => by
  rw [List.getElem?_take] at e
  split at e
  · rename_i lt
    obtain ⟨o, e1, e2⟩ := h.2 i y e
    exact ⟨o, by rw [List.getElem?_take, if_pos lt]; exact e1, e2⟩
  · cases e⟩
theorem RowG.drop {xs : List V} {os : List (Option PyData)} (n : Nat) (h : RowG K H xs os) : RowG K H (xs.drop n) (os.drop n) := ⟨by rw [List.length_drop, List.length_drop, h.1], fun i y e => by
  rw [List.getElem?_drop] at e
  obtain ⟨o, e1, e2⟩ := h.2 _ y e
  exact ⟨o, by rw [List.getElem?_drop]; exact e1, e2⟩⟩
theorem RowG.cut {xs : List V} {os : List (Option PyData)} (lo hi : Option Int) (h : RowG K H xs os) (s : ∀ o ∈ os, Sh o) : ∃ us, RowG K H (cutV xs lo hi) us ∧ ∀ o ∈ us, Sh o :=
  ⟨_, (h.drop _).take _, fun o ho => s o (List.mem_of_mem_drop (List.mem_of_mem_take ho))⟩
theorem RdrAt.bx {a l pl r : Addr} {cs : List (Str × Int)} {m f : Nat} {kvs : List (NestedKey × V)} {ms : List Nat} (hb : HandAt H a l pl) (h : RdrAt K (fun x => x ≠ a ∧ x ≠ l) H r cs m f kvs ms) (s : Bx a l H H') : RdrAt K (fun x => x ≠ a ∧ x ≠ l) H' r cs m f kvs ms := h.keeps fun b o n e => by
  obtain ⟨gs, ps, i, k, g⟩ := hb
  refine s b o (fun z => ?_) (fun z => ?_) e
  · have ea := g.ea
    rw [z] at e n
    rw [e] at ea
    exact (n _ (Option.some.inj ea)).1 rfl
  · have ea := g.el
    rw [z] at e n
    rw [e] at ea
    exact (n _ (Option.some.inj ea)).2 rfl
end
namespace R
section
variable {P : Program} {w : World} {K : PySem.W.Frag} {mg : Str → Option Value} {base : Heap}
/-- the first two parts of what stays: the hand and the calls -/
structure CallsIn (H : Hp) (a l pl lc : Addr) (ys : List V) (cs : List (Str × Int)) : Prop where
  hand : HandAt H a l pl
  hl : H lc = some (.lst ys)
  tup : TupsAt H ys cs
  na : lc ≠ a
  nl : lc ≠ l
theorem CallsIn.bx {H H' : Hp} {a l pl lc : Addr} {ys : List V} {cs : List (Str × Int)} (h : CallsIn H a l pl lc ys cs) (b : Bx a l H H') (p : HandAt H' a l pl) : CallsIn H' a l pl lc ys cs := ⟨p, b _ _ h.na h.nl h.hl, tups_hx h.hand p b h.tup, h.na, h.nl⟩
theorem CallsIn.same {H H' : Hp} {a l pl lc : Addr} {ys : List V} {cs : List (Str × Int)} (h : CallsIn H a l pl lc ys cs) (s : Same H H') : CallsIn H' a l pl lc ys cs := ⟨h.hand.same s, s _ _ h.hl, tups_same s h.tup, h.na, h.nl⟩
def spWrong2 (K : PySem.W.Frag) : Sp := fun vs H Q _ => ∃ (a l pl r lc ra : Addr) (ys xs : List V) (cs rs : List (Str × Int)) (m f : Nat) (kvs : List (NestedKey × V)) (ms : List Nat), vs = [.ref a, .ref r, .ref lc, .ref ra] ∧ CallsIn H a l pl lc ys cs ∧ (1 ≤ cs.length ∧ cs.length ≤ 72) ∧ (∀ c ∈ cs, c.1.length ≤ 1000 ∧ PyData.strOk c.1 = true) ∧ cs.Nodup ∧
  RdrAt K (fun x => x ≠ a ∧ x ≠ l) H r cs m f kvs ms ∧ f < m ∧ TabK cs m m 0 kvs ∧ H ra = some (.lst xs) ∧ (ra ≠ a ∧ ra ≠ l) ∧ RowG K (wo a l H) xs (rowO rs) ∧ (∀ c ∈ rs, c ∈ cs) ∧ rs.length ≤ 40 ∧ ∀ H', Bx a l H H' → HandAt H' a l pl → Q (.bl true) H'
theorem ca_l_wrong (T : Txt w K mg) : Ca P w K mg base 12 "_law_wrong" (spWrong2 K) := by
  refine ca_of (N := ["_law_hand_here", "_law_reader", "_law_calls_here", "_law_row_here", "_law_bad", "_law_k", "_law_at", "_law_keep", "_law_due", "_law_told"]) (ps := ["_law_hand_here", "_law_reader", "_law_calls_here", "_law_row_here"]) T.f_l_wrong T.g_law_wrong ⟨rfl, rfl, rfl, by decide +kernel, rfl, by decide +kernel, by decide +kernel⟩ (fun _ _ _ _ _ _ us hl => match us, hl with | [_, _, _, _], _ => rfl)
    (fun vs H Q E h => by obtain ⟨a, l, pl, r, lc, ra, ys, xs, cs, rs, m, f, kvs, ms, rfl, ci, hc, hnm, nds, rd, hf, tk, hra, ⟨nra, nrl⟩, rg, hrs, l40, q⟩ := h; rfl) (fun cdv A outer s H vs Q E hr h => ?_)
  have nd : (["_law_hand_here", "_law_reader", "_law_calls_here", "_law_row_here", "_law_bad", "_law_k", "_law_at", "_law_keep", "_law_due", "_law_told"] : List Str).Nodup := by decide +kernel
  obtain ⟨a, l, pl, r, lc, ra, ys, xs, cs, rs, m, f, kvs, ms, rfl, ci, hc, hnm, nds, rd, hf, tk, hra, ⟨nra, nrl⟩, rg, hrs, l40, q⟩ := h
  refine ⟨_, (pss_cons (ps_set (i := 4) nd rfl (.inl rfl) (pe_callTy call_list_of (by rfl) T.b_list boot_list (pa_cons (pv 3) pa_nil)))
      (pss_cons (ps_for PassesOwn.never rfl (pi_range1 rfl T.b_range (pa_cons (pe_op op_add pe_int (pe_ca (ca_l_draw T) hr (pa_cons (pv 0) (pa_cons pe_int pa_nil)))) pa_nil)) (pg_name (i := 5) nd rfl (.inl rfl)) (pss_cons (ps_set (i := 6) nd rfl (.inl rfl) (pe_ca (ca_l_draw T) hr (pa_cons (pv 0) (pa_cons (pe_op op_add (pe_callB call_len_seq (by rfl) T.b_len PySem.boot_len (pa_cons (pv 4) pa_nil)) pe_int) pa_nil))))
      (pss_cons (ps_set (i := 7) nd rfl (.inl rfl) (pe_ca (ca_l_draw T) hr (pa_cons (pv 0) (pa_cons pe_int pa_nil))))
      (pss_one (ps_set (i := 4) nd rfl (.inl rfl) (pe_op op_cat (pe_op op_cat (pe_slice sl_list (pv 4) po_none (po_some (pv 6))) (pe_lst (pa_cons (pe_ca (ca_l_bad_item T) hr (pa_cons (pv 0) (pa_cons (pv 2) pa_nil))) pa_nil))) (pe_slice sl_list (pv 4) (po_some (pe_op op_add (pv 6) (pv 7))) po_none)))))))
      (pss_cons (ps_set (i := 8) nd rfl (.inl rfl) pe_non)
      (pss_cons (ps_for PassesOwn.never rfl (pi_range1 rfl T.b_range (pa_cons (pe_callB call_len_seq (by rfl) T.b_len PySem.boot_len (pa_cons (pv 4) pa_nil)) pa_nil)) (pg_name (i := 5) nd rfl (.inl rfl)) (pss_one (ps_if (PW.pt (pw_and (pt_cmp (pc_isN (pv 8))) (pw_and1 (pt_val (pe_ca (ca_l_is_bad T) hr (pa_cons (pv 2) (pa_cons (pe_ix ix_list (pv 4) (pv 5) (fun _ _ => rfl)) pa_nil))))))) (pss_one (ps_set (i := 8) nd rfl (.inl rfl) (pv 5))) pss_nil)))
      (pss_cons (ps_set (i := 9) nd rfl (.inl rfl) (pe_ca (ca_l_reads T) hr (pa_cons (pv 1) (pa_cons (pe_callTy call_list_of (by rfl) T.b_list boot_list (pa_cons (pv 4) pa_nil)) pa_nil))))
      (pss_cons (ps_if (pt_cmp (pc_isN (pv 8))) (pss_one (ps_ret (pe_cmpR op_eq (pe_ix ix_tup (pv 9) pe_int (fun _ _ => rfl)) pe_str (nomark _)))) pss_nil)
      (pss_cons (ps_if (PW.pt (pw_or (pt_cmpR op_ne (pe_ix ix_tup (pv 9) pe_int (fun _ _ => rfl)) pe_str (nomark _)) (pw_or (pt_val (pe_is .bool T.b_isinstance (pe_ix ix_tup (pv 9) pe_int (fun _ _ => rfl)) T.b_bool boot_bool)) (pw_or (pt_not (pt_val (pe_is .int T.b_isinstance (pe_ix ix_tup (pv 9) pe_int (fun _ _ => rfl)) T.b_int boot_int))) (pw_or1 (pt_cmpR op_ne (pe_ix ix_tup (pv 9) pe_int (fun _ _ => rfl)) (pv 8) (nomark _))))))) (pss_one (ps_ret pe_bl)) pss_nil)
      (pss_cons (ps_set (i := 9) nd rfl (.inl rfl) (pe_ca (ca_l_reads T) hr (pa_cons (pv 1) (pa_cons (pe_ix ix_list (pe_lst (pa_cons pe_non (pa_cons (pe_tupleOf (by rfl) T.b_tuple (pv 3)) (pa_cons pe_dnewK (pa_cons pe_str (pa_cons pe_int (pa_cons pe_bl (pa_cons (pe_tup (pa_cons (pe_ix ix_list (pv 2) pe_int (fun _ _ => rfl)) pa_nil)) pa_nil)))))))) (pe_ca (ca_l_draw T) hr (pa_cons (pv 0) (pa_cons pe_int pa_nil))) (fun _ _ => rfl)) pa_nil))))
      (pss_one (ps_ret (pe_and (pe_cmpR op_eq (pe_ix ix_tup (pv 9) pe_int (fun _ _ => rfl)) pe_str (nomark _)) (pe_and (pe_is .int T.b_isinstance (pe_ix ix_tup (pv 9) pe_int (fun _ _ => rfl)) T.b_int boot_int) (pe_one (pe_cmpR op_eq (pe_ix ix_tup (pv 9) pe_int (fun _ _ => rfl)) (pe_un un_neg pe_int) (nomark _))))))))))))))), ?_⟩
  have lx : xs.length = rs.length := by rw [rg.1]; unfold rowO; rw [List.length_map]
  refine ⟨_, rfl, ra, xs, rfl, .inl (.of hra), fun l0 nl0 => ?_⟩
  have n0 := hand_ne ci.hand nl0
  have s0 := same_new (o := .lst xs) nl0
  have e0 : upd H l0 (.lst xs) l0 = some (.lst xs) := upd_same
  generalize upd H l0 (.lst xs) = H0 at s0 e0 ⊢
  have c0 := ci.same s0
  refine ⟨_, rfl, a, l, pl, 2, rfl, c0.hand, by omega, fun z1 H1 b1 p1 hz1 => ⟨_, _, rfl, rfl, _, rfl, by omega, by omega, ?_⟩⟩
  have b01 := (Same.bx (a := a) (l := l) s0).trans b1
  refine for_it (n := (1 + z1).toNat) walk_range (fun i σ' H' => ∃ (bl : Addr) (zs : List V) (os : List (Option PyData)) (z5 z6 z7 : Option V), σ' = [some (.ref a), some (.ref r), some (.ref lc), some (.ref ra), some (.ref bl), z5, z6, z7, none, none] ∧ Bx a l H H' ∧ HandAt H' a l pl ∧ H' bl = some (.lst zs) ∧ bl ≠ a ∧ bl ≠ l ∧ RowG K (wo a l H') zs os ∧ (∀ o ∈ os, Sh o) ∧ zs.length + 1 ≤ 41 * 2 ^ i) ⟨l0, xs, rowO rs, none, none, none, rfl, b01, p1, b1 _ _ n0.1 n0.2.1 e0, n0.1, n0.2.1, rg.same (wo_bx b01), fun o ho => ?_, by omega⟩ (fun _ _ _ _ _ => trivial) ?_ ?_
  · obtain ⟨c, hc', rfl⟩ := List.mem_map.mp ho
    exact Sh.call (hnm c (hrs c hc')).2
  · rintro i x σ' H2 H' hi ⟨bl, zs, os, z5, z6, z7, rfl, bx, hp, hbl, na, nl, g, shs, len⟩ ⟨rfl, rfl⟩
    have i2 : i < 2 := by omega
    have e2 : 2 ^ i ≤ 2 := by
      rcases (show i = 0 ∨ i = 1 by omega) with rfl | rfl <;> decide
    have len90 : zs.length ≤ 90 := by omega
    refine ⟨_, rfl, _, rfl, _, _, rfl, .inl (.of hbl), _, _, rfl, rfl, a, l, pl, _, rfl, hp, by omega, fun at' Ha ba pa hat => ?_⟩
    refine ⟨_, rfl, a, l, pl, 2, rfl, pa, by omega, fun kp Hk bk pk hkp => ?_⟩
    have bHk := ba.trans bk
    have hblk := bHk _ _ na nl hbl
    refine ⟨_, rfl, _, rfl, _, rfl, bl, zs, rfl, .of hblk, fun q1 nq1 => ?_⟩
    have t1 := same_new (o := .lst (cutV zs none (some at'))) nq1
    have m1 : upd Hk q1 (.lst (cutV zs none (some at'))) q1 = some (.lst (cutV zs none (some at'))) := upd_same
    have nq1' := hand_ne pk nq1
    generalize upd Hk q1 (.lst (cutV zs none (some at'))) = Hl at t1 m1 ⊢
    have bHl := bHk.trans (Same.bx t1)
    have pl1 := pk.same t1
    have cl := ci.bx (bx.trans bHl) pl1
    refine ⟨_, rfl, _, rfl, a, l, pl, lc, ys, cs, rfl, pl1, cl.hl, cl.tup, ⟨cl.na, cl.nl⟩, hc, hnm, fun v o Hb bb pb cg sh => ⟨(by show 1 ≤ sizeLine; decide), fun q2 nq2 => ?_⟩⟩
    have t2 := same_new (o := .lst [v]) nq2
    have m2 : upd Hb q2 (.lst [v]) q2 = some (.lst [v]) := upd_same
    generalize upd Hb q2 (.lst [v]) = Hc at t2 m2 ⊢
    obtain ⟨u1, g1, sh1⟩ := g.cut none (some at') shs
    have l1 := cutV_length zs none (some at')
    refine ⟨q1, q2, _, _, rfl, rfl, t2 _ _ (bb _ _ nq1'.1 nq1'.2.1 m1), m2, (by rw [List.length_singleton, sizeLine_eq]; omega), fun q3 nq3 => ?_⟩
    have t3 := same_new (o := .lst (cutV zs none (some at') ++ [v])) nq3
    have m3 : upd Hc q3 (.lst (cutV zs none (some at') ++ [v])) q3 = some (.lst (cutV zs none (some at') ++ [v])) := upd_same
    generalize upd Hc q3 (.lst (cutV zs none (some at') ++ [v])) = Hd at t3 m3 ⊢
    have bHd : Bx a l H' Hd := (bHl.trans bb).trans (Same.bx (t2.trans t3))
    refine ⟨_, rfl, _, rfl, _, rfl, _, _, rfl, rfl, _, rfl, bl, zs, rfl, .of (bHd _ _ na nl hbl), fun q4 nq4 => ?_⟩
    have t4 := same_new (o := .lst (cutV zs (some (at' + kp)) none)) nq4
    have m4 : upd Hd q4 (.lst (cutV zs (some (at' + kp)) none)) q4 = some (.lst (cutV zs (some (at' + kp)) none)) := upd_same
    generalize upd Hd q4 (.lst (cutV zs (some (at' + kp)) none)) = He at t4 m4 ⊢
    obtain ⟨u2, g2, sh2⟩ := g.cut (some (at' + kp)) none shs
    have l2 := cutV_length zs (some (at' + kp)) none
    refine ⟨q3, q4, _, _, rfl, rfl, t4 _ _ m3, m4, (by rw [List.length_append, List.length_singleton, sizeLine_eq]; omega), fun q5 nq5 => ?_⟩
    have pe := ((pb.same t2).same t3).same t4
    have nq5' := hand_ne pe nq5
    have t5 := same_new (o := .lst ((cutV zs none (some at') ++ [v]) ++ cutV zs (some (at' + kp)) none)) nq5
    have tt := ((t2.trans t3).trans t4).trans t5
    have bHf := (bHl.trans bb).trans (Same.bx (a := a) (l := l) tt)
    refine ⟨q5, _, (u1 ++ [o]) ++ u2, _, _, _, rfl, bx.trans bHf, pe.same t5, upd_same, nq5'.1, nq5'.2.1, ?_, fun o' ho' => ?_, ?_⟩
    · exact ((g1.same (wo_bx bHf)).app (RowG.cons (cg.same (wo_same tt)) RowG.nil)).app (g2.same (wo_bx bHf))
    · rcases List.mem_append.mp ho' with h | h
      · rcases List.mem_append.mp h with h | h
        · exact sh1 _ h
        · rw [List.mem_singleton.mp h]
          exact sh
      · exact sh2 _ h
    · rw [List.length_append, List.length_append, List.length_singleton, Nat.pow_succ]
      omega
  rintro σ' H' ⟨bl, zs, os, z5, z6, z7, rfl, bx, hp, hbl, na, nl, g, shs, len⟩
  have len200 : zs.length ≤ 200 := by
    have : 2 ^ (1 + z1).toNat ≤ 4 := by
      rcases (show (1 + z1).toNat = 1 ∨ (1 + z1).toNat = 2 by omega) with e | e <;> rw [e] <;> decide
    omega
  have sok : ∀ c ∈ cs, PyData.strOk c.1 = true := fun c hc' => (hnm c hc').2
  have ci' := ci.bx bx hp
  have rd' := rd.bx ci.hand bx
  have g' := g.same wo_sub
  refine ⟨_, rfl, _, _, rfl, .inl (.of hbl), _, rfl, by omega, by omega, for_it (n := ((zs.length : Nat) : Int).toNat) walk_range (fun i σ'' H'' => ∃ (y5 : Option V) (dv : V), σ'' = [some (.ref a), some (.ref r), some (.ref lc), some (.ref ra), some (.ref bl), y5, z6, z7, some dv, none] ∧ H'' = H' ∧ (dv = .non ∧ wrongAt cs 0 os = wrongAt cs i (os.drop i) ∨ ∃ j : Nat, dv = .int (j : Int) ∧ wrongAt cs 0 os = some j)) ⟨z5, .non, rfl, rfl, .inl ⟨rfl, rfl⟩⟩ (fun _ _ _ _ _ => trivial) ?_ ?_⟩
  · rintro i x σ' H0 H2 hi ⟨y5, dv, rfl, rfl, dd⟩ ⟨rfl, rfl⟩
    refine ⟨_, rfl, _, rfl, ?_⟩
    rcases dd with ⟨rfl, ei⟩ | ⟨j, rfl, ej⟩
    · rw [decide_eq_true rfl]
      have hy := List.getElem?_eq_getElem (show i < zs.length by omega)
      generalize zs[i]'(by omega) = yv at hy
      obtain ⟨o, eo, cg⟩ := g'.2 i yv hy
      have aty : atI zs ((0 : Int) + (i : Nat)) = some yv := by rw [Int.zero_add]; exact atI_nat hy
      rw [List.drop_eq_getElem_cons (List.getElem?_eq_some_iff.mp eo).1, (List.getElem?_eq_some_iff.mp eo).2] at ei
      have ei : wrongAt cs 0 os = if clB cs o = true then wrongAt cs (i + 1) (os.drop (i + 1)) else some i := ei
      refine iteT ⟨_, rfl, _, rfl, _, rfl, _, _, _, _, rfl, rfl, .of hbl, aty, lc, yv, ys, cs, o, rfl, ci'.hl, ci'.tup, sok, cg, shs o (List.mem_of_getElem? eo), _, rfl, ?_⟩
      cases e : clB cs o with
      | false =>
        rw [e, if_neg (by decide)] at ei
        refine iteT ⟨_, rfl, _, _, rfl, rfl, .inr ⟨i, ?_, ei⟩⟩
        show V.int ((0 : Int) + (i : Nat)) = V.int (i : Nat)
        rw [Int.zero_add]
      | true =>
        rw [e, if_pos rfl] at ei
        exact iteF ⟨_, _, rfl, rfl, .inl ⟨rfl, ei⟩⟩
    · rw [decide_eq_false (fun z => nomatch z)]
      exact iteF (iteF ⟨_, _, rfl, rfl, .inr ⟨j, rfl, ej⟩⟩)
  rintro σ' H2 ⟨y5, dv, rfl, rfl, dd⟩
  rw [List.drop_of_length_le (by rw [← g.1]; omega)] at dd
  have dd : dv = natV (wrongAt cs 0 os) := by
    rcases dd with ⟨rfl, e⟩ | ⟨j, rfl, e⟩
    · rw [e]
      rfl
    · rw [e]
      rfl
  subst dd
  refine ⟨_, rfl, _, rfl, bl, zs, rfl, .inl (.of hbl), fun q1 nq1 => ?_⟩
  have t1 := same_new (o := .lst zs) nq1
  refine ⟨r, .ref q1, _, cs, m, f, kvs, ms, some os, rfl, rd'.same t1, nds, hf, tk, .row (.of upd_same) (g'.same t1), fun i ei t H3 s3 ht => ?_, fun rs' e hrs' t H3 s3 ht => ?_⟩
  · have ei : (wrongAt cs 0 os).map (fun i => ((i : Nat) : Int)) = some i := ei
    obtain ⟨j, ej, rfl⟩ := Option.map_eq_some_iff.mp ei
    rw [ej]
    have t3 := t1.trans s3
    refine ⟨_, rfl, _, rfl, ?_⟩
    rw [decide_eq_false (fun z => nomatch z)]
    refine iteF ⟨_, rfl, _, _, _, _, rfl, rfl, .of ht, at0, rfl, _, rfl, ?_⟩
    rw [decide_eq_true rfl]
    refine iteF ⟨_, rfl, _, _, _, _, rfl, rfl, .of ht, at1, _, _, rfl, .int _, _, rfl, iteF ?_⟩
    refine ⟨_, rfl, _, _, _, _, rfl, rfl, .of ht, at1, _, _, rfl, .int _, _, rfl, iteF ?_⟩
    refine ⟨_, rfl, _, _, _, _, rfl, rfl, .of ht, at1, _, rfl, rfl, _, rfl, ?_⟩
    rw [decide_eq_true (show V.int ((j : Nat) : Int) = natV (some j) from rfl)]
    refine iteF ?_
    have b3 : Bx a l H H3 := bx.trans (Same.bx t3)
    have p3 := hp.same t3
    have ci3 := ci.bx b3 p3
    have hra3 := b3 _ _ nra nrl hra
    -- what is no list
    refine ⟨_, rfl, _, rfl, .inl ⟨ra, xs, rfl, .of hra3, fun t4 n4 => ?_⟩⟩
    have s4 := same_new (o := .tup xs) n4
    have e4 : upd H3 t4 (.tup xs) t4 = some (.tup xs) := upd_same
    have m4 := hand_ne p3 n4
    generalize upd H3 t4 (.tup xs) = H4 at s4 e4 ⊢
    have p4 := p3.same s4
    refine fun t5 n5 => ?_
    have s5 := same_new (o := .dK []) n5
    have e5 : upd H4 t5 (.dK []) t5 = some (.dK []) := upd_same
    have m5 := hand_ne p4 n5
    generalize upd H4 t5 (.dK []) = H5 at s5 e5 ⊢
    have p5 := p4.same s5
    have ly := tups_len ci3.tup
    have h0 := List.getElem?_eq_getElem (show 0 < ys.length by omega)
    generalize ys[0]'(by omega) = y0 at h0
    have a0 := atI_nat h0
    refine ⟨_, rfl, _, _, _, _, rfl, rfl, .of ((s4.trans s5) _ _ ci3.hl), a0, (by show 1 ≤ sizeLine; decide), fun t6 n6 => ?_⟩
    have s6 := same_new (o := .tup [y0]) n6
    have e6 : upd H5 t6 (.tup [y0]) t6 = some (.tup [y0]) := upd_same
    have m6 := hand_ne p5 n6
    generalize upd H5 t6 (.tup [y0]) = H6 at s6 e6 ⊢
    have p6 := p5.same s6
    refine ⟨(by show 7 ≤ sizeLine; decide), fun t7 n7 => ?_⟩
    have s7 := same_new (o := .lst [.non, .ref t4, .ref t5, .str "", .int 0, .bl true, .ref t6]) n7
    have e7 : upd H6 t7 (.lst [.non, .ref t4, .ref t5, .str "", .int 0, .bl true, .ref t6]) t7 = some (.lst [.non, .ref t4, .ref t5, .str "", .int 0, .bl true, .ref t6]) := upd_same
    have m7 := hand_ne p6 n7
    generalize upd H6 t7 (.lst [.non, .ref t4, .ref t5, .str "", .int 0, .bl true, .ref t6]) = H7 at s7 e7 ⊢
    have p7 := p6.same s7
    have g4 : wo a l H7 t4 = some (.tup xs) := by rw [wo_at m4.1 m4.2.1]; exact ((s5.trans s6).trans s7) _ _ e4
    have g5 : wo a l H7 t5 = some (.dK []) := by rw [wo_at m5.1 m5.2.1]; exact (s6.trans s7) _ _ e5
    have g6 : wo a l H7 t6 = some (.tup [y0]) := by rw [wo_at m6.1 m6.2.1]; exact s7 _ _ e6
    have all : ∀ y ∈ ([.non, .ref t4, .ref t5, .str "", .int 0, .bl true, .ref t6] : List V), Rg K (wo a l H7) y none := fun y hy => by
      simp only [List.mem_cons, List.not_mem_nil, or_false] at hy
      rcases hy with rfl | rfl | rfl | rfl | rfl | rfl | rfl
      · exact .no (.dat .non) rfl
      · exact .tup (.of g4)
      · exact .no (.dic g5) rfl
      · exact .no (.dat (.str _)) rfl
      · exact .no (.dat (.int _)) rfl
      · exact .no (.dat (.bl _)) rfl
      · exact .tup (.of g6)
    refine ⟨_, rfl, a, l, pl, 7, rfl, p7, by omega, fun z8 H8 b8 p8 hz8 => ?_⟩
    have e8 := b8 _ _ m7.1 m7.2.1 e7
    have l7 : ([.non, .ref t4, .ref t5, .str "", .int 0, .bl true, .ref t6] : List V).length = 7 := rfl
    generalize ([.non, .ref t4, .ref t5, .str "", .int 0, .bl true, .ref t6] : List V) = vs7 at e8 all l7
    have hy8 := List.getElem?_eq_getElem (show z8.toNat < vs7.length by omega)
    generalize vs7[z8.toNat]'(by omega) = y8 at hy8
    have az := atI_nat hy8
    rw [Int.toNat_of_nonneg hz8.1] at az
    have b38 : Bx a l H3 H8 := (Same.bx (((s4.trans s5).trans s6).trans s7)).trans b8
    refine ⟨_, _, _, _, rfl, rfl, .of e8, az, r, y8, _, cs, m, f, kvs, ms, none, rfl, rd.bx ci.hand (b3.trans b38), nds, hf, tk, ((all _ (List.mem_of_getElem? hy8)).same (wo_bx b8)).same wo_sub, fun i ei t H9 s9 ht => ?_, fun rs' e => nomatch e⟩
    cases ei
    refine ⟨_, rfl, _, _, _, _, rfl, rfl, .of ht, at0, rfl, _, rfl, ?_⟩
    rw [decide_eq_true rfl]
    refine iteT ⟨_, rfl, _, _, _, _, rfl, rfl, .of ht, at1, _, _, rfl, .int _, _, rfl, iteT ?_⟩
    refine ⟨_, rfl, _, _, _, _, rfl, rfl, .of ht, at1, _, rfl, rfl, ?_⟩
    rw [decide_eq_true rfl]
    exact q H9 ((b3.trans b38).trans (Same.bx s9)) (p8.same s9)
  · cases Option.some.inj e
    rw [wrong_rowO hrs']
    refine ⟨_, rfl, _, rfl, ?_⟩
    rw [decide_eq_true (show natV none = V.non from rfl)]
    refine iteT ⟨_, rfl, _, _, _, _, rfl, rfl, .of ht, at0, rfl, ?_⟩
    rw [decide_eq_true rfl]
    exact q H3 (bx.trans (Same.bx (t1.trans s3))) (hp.same (t1.trans s3))
end
end R

end M

set_option Elab.async false
set_option linter.all false
set_option maxRecDepth 100000
set_option maxHeartbeats 2000000
namespace M
open PySem PySem.Spec PyProof.Rows L2

/-! ### what stays while lists change -/
/-- all stays but lists -/
def Nl (H H' : Hp) : Prop := ∀ b o, (∀ xs, o ≠ .lst xs) → H b = some o → H' b = some o
section
variable {K : PySem.W.Frag} {H H' : Hp}
theorem sqT_nl (k : Nl H H') {a : Addr} {xs : List V} (e : SqT K H a xs) : SqT K H' a xs := by
  rcases e with (e | ⟨o, e⟩) | e
  · exact .inl (.inl (k _ _ (fun _ z => nomatch z) e))
  · exact .inl (.inr ⟨o, k _ _ (fun _ z => nomatch z) e⟩)
  · exact .inr e
mutual
theorem dp_nl (k : Nl H H') : ∀ {v : V} {d : PyData}, Dp K H v d → NoL d → Dp K H' v d
  | _, _, .non, _ => .non
  | _, _, .bl b, _ => .bl b
  | _, _, .int i, _ => .int i
  | _, _, .str x, _ => .str x
  | _, _, .lst _ _, n => nomatch n
  | _, _, .tup e r, n => .tup (sqT_nl k e) (dps_nl k r (by cases n with | tup h => exact h))
theorem dps_nl (k : Nl H H') : ∀ {vs : List V} {ds : List PyData}, DpAll K H vs ds → (∀ d ∈ ds, NoL d) → DpAll K H' vs ds
  | _, _, .nil, _ => .nil
  | _, _, .cons e r, n => .cons (dp_nl k e (n _ List.mem_cons_self)) (dps_nl k r fun d hd => n d (List.mem_cons_of_mem _ hd))
end
theorem codes_nl (k : Nl H H') : ∀ {kvs : List (Key × V)} {ds : List (Str × Int × List Row)}, CodesR K H kvs ds → CodesR K H' kvs ds
  | [], [], _ => trivial
  | (_, _) :: _, _ :: _, h => ⟨h.1, dp_nl k h.2.1 (code_noL _), codes_nl k h.2.2⟩
  | [], _ :: _, h => h.elim
  | _ :: _, [], h => h.elim
theorem VaultAt.nl {p : Addr} {v : Vlt} (k : Nl H H') (h : VaultAt K H p v) : VaultAt K H' p v := by
  obtain ⟨dx, a, d, c, b, kvs, h1, h2, h3, h4, h5⟩ := h.ob
  refine ⟨dx, a, d, c, b, kvs, k _ _ (fun _ z => nomatch z) h1, dp_nl k h2 (.tup fun x hx => ?_), dp_nl k h3 (.tup fun x hx => ?_), k _ _ (fun _ z => nomatch z) h4, codes_nl k h5⟩
  · obtain ⟨y, _, rfl⟩ := List.mem_map.mp hx
    exact cell_noL y
  · obtain ⟨y, _, rfl⟩ := List.mem_map.mp hx
    exact deed_noL y
theorem NDat.nl {P : Program} {w : World} {d : Addr} {kvs : List (NestedKey × V)} (k : Nl H H') (h : NDat P w H d kvs) : NDat P w H' d kvs := by
  obtain ⟨g1, g2, zs, r, e⟩ := h
  exact ⟨g1, g2, zs, r.keeps fun b ys j => k _ _ (fun _ z => nomatch z) j, k _ _ (fun _ z => nomatch z) e⟩
end
/-- all stays but the lists a, l and rl -/
def K3 (a l rl : Addr) (H H' : Hp) : Prop := ∀ b o, (∀ xs, o = .lst xs → b ≠ a ∧ b ≠ l ∧ b ≠ rl) → H b = some o → H' b = some o
section
variable {K : PySem.W.Frag} {a l pl rl : Addr} {H H' H2 : Hp}
theorem K3.nl (k : K3 a l rl H H') : Nl H H' := fun b o n e => k b o (fun xs z => absurd z (n xs)) e
theorem K3.same (s : Same H H') : K3 a l rl H H' := fun b o _ e => s b o e
theorem K3.trans (h : K3 a l rl H H') (k : K3 a l rl H' H2) : K3 a l rl H H2 := fun b o n e => k b o n (h b o n e)
theorem K3.bx (hp : HandAt H a l pl) (s : Bx a l H H') : K3 a l rl H H' := fun b o n e => by
  obtain ⟨gs, ps, i, k, g⟩ := hp
  refine s b o (fun z => ?_) (fun z => ?_) e
  · have ea := g.ea
    rw [← z, e] at ea
    exact (n _ (Option.some.inj ea)).1 z
  · have ea := g.el
    rw [← z, e] at ea
    exact (n _ (Option.some.inj ea)).2.1 z
theorem K3.but {xs : List V} (h : H rl = some (.lst xs)) (s : But rl H H') : K3 a l rl H H' := fun b o n e => by
  refine s b o (fun z => ?_) e
  rw [← z, e] at h
  exact (n _ (Option.some.inj h)).2.2 z
end
/-- a reader as the law holds it: with its first stand, its table and its marks -/
structure RdAt (P : Program) (w : World) (K : PySem.W.Frag) (a l rl : Addr) (cs : List (Str × Int)) (H : Hp) (v : V) : Prop where
  ob : ∃ (t r d mb : Addr) (m f : Nat) (kvs : List (NestedKey × V)) (ms : List Nat), v = .ref t ∧ H t = some (.tup [.ref r, .int (f : Int), .ref d, .ref mb]) ∧ RdrAt K (fun x => x ≠ a ∧ x ≠ l ∧ x ≠ rl) H r cs m f kvs ms ∧ f < m ∧ TabK cs m m 0 kvs ∧ NDat P w H d kvs ∧ H mb = some (.lst (ms.map fun (n : Nat) => V.int (n : Int))) ∧ mb ≠ a ∧ mb ≠ l ∧ mb ≠ rl
theorem RdAt.k3 {P : Program} {w : World} {K : PySem.W.Frag} {a l rl : Addr} {cs : List (Str × Int)} {H H' : Hp} {v : V} (k : K3 a l rl H H') (h : RdAt P w K a l rl cs H v) : RdAt P w K a l rl cs H' v := by
  obtain ⟨t, r, d, mb, m, f, kvs, ms, e, h1, h2, h3, h4, h5, h6, h7, h8, h9⟩ := h.ob
  exact ⟨t, r, d, mb, m, f, kvs, ms, e, k _ _ (fun _ z => nomatch z) h1, h2.keeps k, h3, h4, h5.nl k.nl, k _ _ (fun _ _ => ⟨h7, h8, h9⟩) h6, h7, h8, h9⟩
/-! ### the calls of a good vault -/
theorem callsI_ok {v : Vlt} (g : VGood v) : 1 ≤ v.calls.length ∧ v.calls.length ≤ 72 ∧ ∀ c ∈ v.calls, c.1.length ≤ 1000 ∧ PyData.strOk c.1 = true := by
  refine ⟨?_, calls_len g.ok, fun c hc => ?_⟩
  · have d0 := g.d0
    have ds := g.ds
    cases e : v.deeds with
    | nil => rw [e] at d0; exact absurd d0 (by decide)
    | cons d r =>
      have h1 := (ds d (by rw [e]; exact List.mem_cons_self)).2.1.1
      unfold Vlt.calls
      rw [e, List.flatMap_cons, List.length_append, List.length_map, List.length_range]
      omega
  · obtain ⟨d, hd, e⟩ := calls_of hc
    have n := (g.ds d hd).1
    rw [← e]
    refine ⟨by have := n.2.1; omega, ?_⟩
    unfold PyData.strOk
    rw [Array.all_eq_true_iff_forall_mem]
    intro x hx
    have := n.2.2 x (Array.mem_toList_iff.mpr hx)
    exact decide_eq_true (by omega)
theorem tups_k3 {a l rl : Addr} {H H' : Hp} (k : K3 a l rl H H') : ∀ {ys : List V} {cs : List (Str × Int)}, TupsAt H ys cs → TupsAt H' ys cs
  | [], [], _ => trivial
  | _ :: _, _ :: _, ⟨⟨t, e, h⟩, r⟩ => ⟨⟨t, e, k _ _ (fun _ z => nomatch z) h⟩, tups_k3 k r⟩
  | [], _ :: _, h => h.elim
  | _ :: _, [], h => h.elim
theorem rowO_mono {K : PySem.W.Frag} {H H' : Hp} {xs : List V} {rs : List (Str × Int)} (h : RowG K H xs (rowO rs)) (s : ∀ b ws, H b = some (.tup ws) → H' b = some (.tup ws)) : RowG K H' xs (rowO rs) := ⟨h.1, fun i y e => by
  obtain ⟨t, c, e1, e2, e3⟩ := h.at e
  subst e1
  exact ⟨some (callD c), by unfold rowO; rw [List.getElem?_map, e2]; rfl, Cg.call (s _ _ e3)⟩⟩

end M

set_option Elab.async false
set_option linter.all false
set_option maxRecDepth 100000
set_option maxHeartbeats 2000000
namespace M
open PySem PySem.Spec PyProof.Rows L2

theorem call_lenSK {X : Cx} (K : PySem.W.Frag) (hK : X.K = K) : CallR X (.builtin "len") (fun xs H Q => ∃ p ys, xs = [.ref p] ∧ (SqL K H p ys ∨ SqT K H p ys) ∧ Q (.int ys.length) H) := hK ▸ call_len_seq
section
variable {P : Program} {w : World} {K : PySem.W.Frag} {mg : Str → Option Value} {base : Heap}
def spLaw (K : PySem.W.Frag) : Sp := fun vs H Q _ => ∃ (a : Addr) (ns : List Int), vs = [.ref a] ∧ SqL K H a (ns.map V.int) ∧ ns.length ≤ 63 ∧ ∀ H', Q (.bl true) H'
set_option maxHeartbeats 0 in
theorem ok_law {fd : FuncData} (T : Txt w K mg) (F : FunD K "law" "law" (defArgs s_law) (defBody s_law) (defScope s_law) [] [] (He.fAd K ("law", none)) fd) : FnOk P w K mg base CX0 57 (He.fAd K ("law", none)) fd ["_law_script"] (spLaw K) := by
  refine fn_d (N := ["_law_script", "_law_hand_here", "_law_shape_here", "_law_calls_here", "_law_vault", "_law_readers", "_law_k", "_law_many", "_law_first", "_law_table_here", "_law_stand", "_law_marks", "_law_size", "_law_j", "_law_row_here", "_law_one"]) (ps := ["_law_script"]) F ⟨rfl, rfl, rfl, by decide +kernel, rfl, by decide +kernel, by decide +kernel⟩
    (fun vs H Q E h => by obtain ⟨sc, ns, rfl, hs, hl, q⟩ := h; rfl) (fun cdv A outer s H vs Q E hr h => ?_)
  have nd : (["_law_script", "_law_hand_here", "_law_shape_here", "_law_calls_here", "_law_vault", "_law_readers", "_law_k", "_law_many", "_law_first", "_law_table_here", "_law_stand", "_law_marks", "_law_size", "_law_j", "_law_row_here", "_law_one"] : List Str).Nodup := by decide +kernel
  obtain ⟨sc, ns, rfl, hs, hl, q⟩ := h
  refine ⟨_, (pss_cons (ps_set (i := 1) nd rfl (.inr rfl) (pe_ca (ca_l_hand T) hr (pa_cons (pv 0) pa_nil)))
      (pss_cons (ps_set (i := 2) nd rfl (.inl rfl) (pe_ca (ca_l_shape T) hr (pa_cons (pv 1) (pa_cons (pe_ca (ca_l_draw T) hr (pa_cons (pv 1) (pa_cons pe_int pa_nil))) pa_nil))))
      (pss_cons (ps_set (i := 3) nd rfl (.inr rfl) (pe_ca (ca_l_calls T) hr (pa_cons (pv 2) pa_nil)))
      (pss_cons (ps_set (i := 4) nd rfl (.inl rfl) (pe_ma (M.ma_Vault T) hr (pa_cons (pe_callTy call_list_of (by rfl) T.b_list boot_list (pa_cons (pe_ix ix_tup (pv 2) pe_int (fun _ _ => rfl)) pa_nil)) (pa_cons (pe_callTy call_list_of (by rfl) T.b_list boot_list (pa_cons (pe_ix ix_tup (pv 2) pe_int (fun _ _ => rfl)) pa_nil)) pa_nil))))
      (pss_cons (ps_set (i := 5) nd rfl (.inl rfl) (pe_lst pa_nil))
      (pss_cons (ps_for PassesOwn.never rfl (pi_range1 rfl T.b_range (pa_cons pe_int pa_nil)) (pg_name (i := 6) nd rfl (.inl rfl)) (pss_cons (ps_set (i := 7) nd rfl (.inl rfl) (pe_op op_add pe_int (pe_ca (ca_l_draw T) hr (pa_cons (pv 1) (pa_cons pe_int pa_nil)))))
      (pss_cons (ps_set (i := 8) nd rfl (.inl rfl) (pe_ca (ca_l_draw T) hr (pa_cons (pv 1) (pa_cons (pv 7) pa_nil))))
      (pss_cons (ps_set (i := 9) nd rfl (.inl rfl) (pe_ca (R.ca_l_table T) hr (pa_cons (pv 1) (pa_cons (pv 3) (pa_cons (pv 7) pa_nil)))))
      (pss_cons (ps_setLc (i := 11) (own := [("_law_stand", 10)]) rfl nd rfl rfl (by rfl) (pi_range1 rfl T.b_range (pa_cons (pv 7) pa_nil)) (blkOk_by (N := ["_law_script", "_law_hand_here", "_law_shape_here", "_law_calls_here", "_law_vault", "_law_readers", "_law_k", "_law_many", "_law_first", "_law_table_here", "_law_stand", "_law_marks", "_law_size", "_law_j", "_law_row_here", "_law_one"]) (sc := defScope s_law) (by decide +kernel)) (fun _ _ _ _ _ => pg_name (i := 10) nd rfl (.inl rfl)) (fun _ _ _ _ _ => pts_one (pt_cmpR op_eq (pe_ca (ca_l_draw T) hr (pa_cons (pv 1) (pa_cons pe_int pa_nil))) pe_int (nomark _))) (fun _ _ _ _ _ => pv 10))
      (pss_one (ps_expr (pe_bm PySem.F.plainAttrs_list PySem.F.slot_list_append PySem.F.type_list_append mt_append (pv 5) (pa_cons (pe_tup (pa_cons (pe_ma (R.ma_Reader T) hr (pa_cons (pv 4) (pa_cons (pv 7) (pa_cons (pv 8) (pa_cons (pv 9) (pa_cons (pv 11) pa_nil)))))) (pa_cons (pv 8) (pa_cons (pv 9) (pa_cons (pv 11) pa_nil))))) pa_nil)))))))))
      (pss_cons (ps_for PassesOwn.never rfl (pi_range1 rfl T.b_range (pa_cons pe_int pa_nil)) (pg_name (i := 6) nd rfl (.inl rfl)) (pss_cons (ps_set (i := 12) nd rfl (.inl rfl) (pe_ix ix_list (pe_lst (pa_cons pe_int (pa_cons pe_int (pa_cons pe_int (pa_cons pe_int (pa_cons pe_int (pa_cons pe_int (pa_cons pe_int (pa_cons pe_int pa_nil))))))))) (pe_ca (ca_l_draw T) hr (pa_cons (pv 1) (pa_cons pe_int pa_nil))) (fun _ _ => rfl)))
      (pss_cons (ps_setLc (i := 14) (own := [("_law_j", 13)]) (tt := tYes) rfl nd rfl rfl (by rfl) (pi_range1 rfl T.b_range (pa_cons (pv 12) pa_nil)) (blkOk_by (N := ["_law_script", "_law_hand_here", "_law_shape_here", "_law_calls_here", "_law_vault", "_law_readers", "_law_k", "_law_many", "_law_first", "_law_table_here", "_law_stand", "_law_marks", "_law_size", "_law_j", "_law_row_here", "_law_one"]) (sc := defScope s_law) (by decide +kernel)) (fun _ _ _ _ _ => pg_name (i := 13) nd rfl (.inl rfl)) (fun _ _ _ _ _ => pts_nil) (fun _ _ _ _ _ => pe_ix (ix_listK K rfl) (pv 3) (pe_ca (ca_l_draw T) hr (pa_cons (pv 1) (pa_cons (pe_callB (call_lenSK K rfl) (by rfl) T.b_len PySem.boot_len (pa_cons (pv 3) pa_nil)) pa_nil))) (fun _ _ => rfl)))
      (pss_cons (ps_for PassesOwn.never rfl (pi_list (pv 5)) (pg_name (i := 15) nd rfl (.inl rfl)) (pss_one (ps_if (pt_not (pt_val (pe_ca (R.ca_l_right T) hr (pa_cons (pe_ix ix_tup (pv 15) pe_int (fun _ _ => rfl)) (pa_cons (pe_ca (R.ca_l_yes T) hr (pa_cons (pe_ix ix_tup (pv 15) pe_int (fun _ _ => rfl)) (pa_cons (pe_ix ix_tup (pv 15) pe_int (fun _ _ => rfl)) (pa_cons (pe_ix ix_tup (pv 15) pe_int (fun _ _ => rfl)) (pa_cons (pv 14) pa_nil))))) (pa_cons (pv 14) pa_nil)))))) (pss_one (ps_ret pe_bl)) pss_nil)))
      (pss_cons (ps_if (pt_not (pt_val (pe_ca (R.ca_l_wrong T) hr (pa_cons (pv 1) (pa_cons (pe_ix ix_tup (pe_ix ix_list (pv 5) (pe_ca (ca_l_draw T) hr (pa_cons (pv 1) (pa_cons pe_int pa_nil))) (fun _ _ => rfl)) pe_int (fun _ _ => rfl)) (pa_cons (pv 3) (pa_cons (pv 14) pa_nil))))))) (pss_one (ps_ret pe_bl)) pss_nil)
      (pss_one (ps_for PassesOwn.never rfl (pi_list (pv 5)) (pg_name (i := 15) nd rfl (.inl rfl)) (pss_cons (ps_if (pt_not (pt_val (pe_ca (R.ca_l_right T) hr (pa_cons (pe_ix ix_tup (pv 15) pe_int (fun _ _ => rfl)) (pa_cons (pe_ca (R.ca_l_yes T) hr (pa_cons (pe_ix ix_tup (pv 15) pe_int (fun _ _ => rfl)) (pa_cons (pe_ix ix_tup (pv 15) pe_int (fun _ _ => rfl)) (pa_cons (pe_ix ix_tup (pv 15) pe_int (fun _ _ => rfl)) (pa_cons (pv 14) pa_nil))))) (pa_cons (pv 14) pa_nil)))))) (pss_one (ps_ret pe_bl)) pss_nil)
      (pss_one (ps_if (pt_not (pt_val (pe_ca (R.ca_l_right T) hr (pa_cons (pe_ix ix_tup (pv 15) pe_int (fun _ _ => rfl)) (pa_cons (pe_cmpR op_in_seq (pe_ix ix_tup (pv 15) pe_int (fun _ _ => rfl)) (pe_ix ix_tup (pv 15) pe_int (fun _ _ => rfl)) (by rfl)) (pa_cons (pe_lst pa_nil) pa_nil)))))) (pss_one (ps_ret pe_bl)) pss_nil))))))))))
      (pss_one (ps_ret pe_bl))))))))), ?_⟩
  refine ⟨_, rfl, sc, ns, rfl, hs, hl, fun a l pl H1 s1 na0 nl0 npl0 p1 => ?_⟩
  refine ⟨_, rfl, _, rfl, a, l, pl, 3, rfl, p1, by omega, fun st H2 b2 p2 hst => ⟨a, l, pl, st, rfl, p2, by omega, fun t c d cxs dxs v H3 b3 p3 ht hc hd hcx hdx hg hln hch => ?_⟩⟩
  have hds : ∀ x ∈ v.deeds, 1 ≤ x.2.1 ∧ x.2.1 ≤ 9 := fun x hx => (hg.ds x hx).2.1
  refine ⟨_, rfl, t, c, d, dxs, v.deeds, rfl, ht, hd, hdx, by omega, hds, fun lc ys H4 s4 nlc hlc hys => ?_⟩
  obtain ⟨k1, k72, knm⟩ := callsI_ok hg
  have nds : v.calls.Nodup := calls_nd hg.nd
  have hys : TupsAt H4 ys v.calls := hys
  have p4 := p3.same s4
  have nlc' := hand_ne p3 nlc
  have ci4 : R.CallsIn H4 a l pl lc ys v.calls := ⟨p4, hlc, hys, nlc'.1, nlc'.2.1⟩
  -- the vault
  refine ⟨_, rfl, _, _, _, _, rfl, rfl, .of (s4 _ _ ht), at0, c, cxs, rfl, .inr (.of (s4 _ _ hc)), fun l1 nl1 => ?_⟩
  have w1 : Same H4 (upd H4 l1 (.lst cxs)) := same_new nl1
  have x1 : upd H4 l1 (.lst cxs) l1 = some (.lst cxs) := upd_same
  generalize upd H4 l1 (.lst cxs) = G1 at w1 x1 ⊢
  refine ⟨_, rfl, _, _, _, _, rfl, rfl, .of (w1 _ _ (s4 _ _ ht)), at1, d, dxs, rfl, .inr (.of (w1 _ _ (s4 _ _ hd))), fun l2 nl2 => ?_⟩
  have w2 : Same G1 (upd G1 l2 (.lst dxs)) := same_new nl2
  have x2 : upd G1 l2 (.lst dxs) l2 = some (.lst dxs) := upd_same
  generalize upd G1 l2 (.lst dxs) = G2 at w2 x2 ⊢
  intro x dx hx hdx' ne
  have w3 : Same G2 (upd (upd G2 dx (.own x)) x (.ins (He.ga K "Vault") dx [])) := (same_new hdx').trans (same_new (by rw [upd_ne (Ne.symm ne)]; exact hx))
  have w12 := w1.trans w2
  have w13 := w12.trans w3
  refine ⟨x, dx, l1, l2, cxs, dxs, v, rfl, upd_same, .of ((w2.trans w3) _ _ x1), dps_same (s4.trans w13) hcx, .of (w3 _ _ x2), dps_same (s4.trans w13) hdx, hg, fun H5 b5 vt => ⟨rfl, ?_⟩⟩
  have s45 : Same H4 H5 := fun b o e => b5 _ _ (ne_of_none (w12 _ _ e) hx) (w13 _ _ e)
  have ci5 := ci4.same s45
  refine ⟨(by show 0 ≤ sizeLine; exact Nat.zero_le _), fun rl nrl => ?_⟩
  have s57 := same_new (o := .lst []) nrl
  have er7 : upd H5 rl (.lst []) rl = some (.lst []) := upd_same
  generalize upd H5 rl (.lst []) = H7 at s57 er7 ⊢
  have ci7 := ci5.same s57
  have vt7 : VaultAt K H7 x v := vt.same s57
  have nlr : lc ≠ rl := ne_of_none ci5.hl nrl
  have nrh := hand_ne ci5.hand nrl
  have ok := hg.ok
  -- the readers
  refine ⟨2, rfl, by decide, by decide, for_it (n := 2) walk_range (fun i σ' H' => ∃ (rvs : List V) (z6 z7 z8 z9 z10 z11 : Option V), σ' = [some (.ref sc), some (.ref a), some (.ref t), some (.ref lc), some (.ref x), some (.ref rl), z6, z7, z8, z9, z10, z11, none, none, none, none] ∧ K3 a l rl H7 H' ∧ HandAt H' a l pl ∧ H' rl = some (.lst rvs) ∧ rvs.length = i ∧ ∀ y ∈ rvs, RdAt P w K a l rl v.calls H' y) ⟨[], none, none, none, none, none, none, rfl, K3.same (Same.refl _), ci7.hand, er7, rfl, fun y h => nomatch h⟩ (fun _ _ _ _ _ => trivial) ?_ ?_⟩
  · rintro i z σ' H0 H' hi ⟨rvs, z6, z7, z8, z9, z10, z11, rfl, k3, hp, hrl, lr, hrv⟩ ⟨rfl, rfl⟩
    refine ⟨_, rfl, a, l, pl, 8, rfl, hp, by omega, fun q1 Ha ba pa hq1 => ⟨_, _, rfl, rfl, ?_⟩⟩
    obtain ⟨m, em⟩ : ∃ m : Nat, (1 : Int) + q1 = (m : Int) := ⟨(1 + q1).toNat, by omega⟩
    have hm : 1 ≤ m ∧ m ≤ 8 := by omega
    show gName 7 (.int (1 + q1)) _ _ _
    rw [em]
    refine ⟨_, rfl, _, rfl, a, l, pl, _, rfl, pa, by omega, fun q2 Hb bb pb hq2 => ?_⟩
    obtain ⟨f, rfl⟩ : ∃ f : Nat, q2 = (f : Int) := ⟨q2.toNat, by omega⟩
    have hf : f < m := by omega
    have kb : K3 a l rl H' Hb := K3.bx hp (ba.trans bb)
    have kb7 := k3.trans kb
    have hlcb := kb7 _ _ (fun _ _ => ⟨ci7.na, ci7.nl, nlr⟩) ci7.hl
    have hysb : TupsAt Hb ys v.calls := tups_k3 kb7 ci7.tup
    refine ⟨_, rfl, _, rfl, _, rfl, a, l, pl, lc, ys, v.calls, m, rfl, pb, hlcb, hysb, ⟨ci7.na, ci7.nl⟩, nds, k72, hm, fun d kvs Hc bc pc nd0 hd tk => ?_⟩
    have k3c : K3 a l rl Hb Hc := K3.bx pb bc
    have k7c := kb7.trans k3c
    have nda := hand_ne pb nd0
    -- its marks
    refine ⟨_, rfl, (m : Int), rfl, by omega, by omega, fun M nM => ?_⟩
    have nMh := hand_ne pc nM
    refine it_any (n := ((m : Nat) : Int).toNat) walk_range (fun j J => ∃ ms : List Nat, Bx a l Hc J ∧ HandAt J a l pl ∧ J M = some (.lst (ms.map fun (n : Nat) => V.int (n : Int))) ∧ ms.Pairwise (· < ·) ∧ (∀ n ∈ ms, n < j) ∧ ms.length ≤ j) ⟨[], Same.bx (same_new nM), pc.same (same_new nM), upd_same, List.Pairwise.nil, (fun n h => nomatch h), Nat.le_refl _⟩ (fun _ _ _ _ => trivial) ?_ ?_
    · rintro j z J0 J hj ⟨ms, bJ, pJ, hM, asc, lt, len⟩ ⟨rfl, rfl⟩
      refine ⟨rfl, _, rfl, a, l, pl, 2, rfl, pJ, by omega, fun z J2 b2' p2' hz => ⟨rfl, _, rfl, ?_⟩⟩
      have hM2 := b2' _ _ nMh.1 nMh.2.1 hM
      by_cases c1 : z = 1
      · rw [decide_eq_true (show V.int z = V.int 1 from congrArg V.int c1)]
        refine iteT ⟨_, rfl, _, hM2, by rw [List.length_map, sizeLine_eq]; omega, ms ++ [j], fun b o n1 n2 e => ?_, ?_, ?_, ?_, fun n hn => ?_, ?_⟩
        · rw [upd_ne (ne_of_none e nM)]
          exact b2' _ _ n1 n2 (bJ _ _ n1 n2 e)
        · exact p2'.but But.upd nMh
        · rw [upd_same, List.map_append]
          show some (HO.lst (_ ++ [V.int ((0 : Int) + (j : Int))])) = _
          rw [Int.zero_add]
          rfl
        · rw [List.pairwise_append]
          exact ⟨asc, List.pairwise_singleton _ _, fun a' ha' b' hb' => by rw [List.mem_singleton.mp hb']; exact lt a' ha'⟩
        · rcases List.mem_append.mp hn with h | h
          · have := lt n h
            omega
          · rw [List.mem_singleton.mp h]
            omega
        · rw [List.length_append, List.length_singleton]
          omega
      · rw [decide_eq_false (show ¬ V.int z = V.int 1 from fun e => c1 (V.int.inj e))]
        exact iteF ⟨ms, bJ.trans b2', p2', hM2, asc, fun n hn => by have := lt n hn; omega, by omega⟩
    rintro J ⟨ms, bJ, pJ, hM, asc, lt, len⟩
    have lt : ∀ n ∈ ms, n < m := lt
    have kJ : K3 a l rl H' J := (kb.trans k3c).trans (K3.bx pc bJ)
    have k7J := k3.trans kJ
    have vtJ := vt7.nl k7J.nl
    have hrlJ := bJ _ _ nrh.1 nrh.2.1 (bc _ _ nrh.1 nrh.2.1 ((ba.trans bb) _ _ nrh.1 nrh.2.1 hrl))
    have hdJ := hd.nl (K3.bx (rl := rl) pc bJ).nl
    have nMrl : M ≠ rl := fun e => by
      have h := bc _ _ nrh.1 nrh.2.1 ((ba.trans bb) _ _ nrh.1 nrh.2.1 hrl)
      rw [← e, nM] at h
      cases h
    -- the reader
    refine ⟨_, rfl, .inl ⟨rfl, _, .of hrlJ⟩, _, rfl, _, rfl, _, rfl, _, rfl, _, rfl, ?_⟩
    intro rd dx2 hr1 hr2 ne2
    have w4 : Same J (upd (upd J dx2 (.own rd)) rd (.ins (He.ga K "Reader") dx2 [])) := (same_new hr2).trans (same_new (by rw [upd_ne (Ne.symm ne2)]; exact hr1))
    have hM4 := w4 _ _ hM
    refine ⟨rd, dx2, x, d, M, v, m, f, kvs, ms, rfl, upd_same, vtJ.same w4, ok, hm, hf, hdJ.same w4, tk, hM4, asc, lt, by omega, fun HR bR rdr => ⟨rfl, ?_⟩⟩
    have sJR : Same J HR := fun b o e => bR _ _ (ne_of_none e hr1) (w4 _ _ e)
    refine ⟨_, rfl, _, rfl, _, rfl, (by show 4 ≤ sizeLine; decide), fun tq ntq => ?_⟩
    have w5 := same_new (o := .tup [.ref rd, .int (f : Int), .ref d, .ref M]) ntq
    have etq : upd HR tq (.tup [.ref rd, .int (f : Int), .ref d, .ref M]) tq = some (.tup [.ref rd, .int (f : Int), .ref d, .ref M]) := upd_same
    generalize upd HR tq (.tup [.ref rd, .int (f : Int), .ref d, .ref M]) = HT at w5 etq ⊢
    have sJT := sJR.trans w5
    have pT := pJ.same sJT
    have hrlT := sJT _ _ hrlJ
    refine ⟨rl, _, _, rfl, rfl, hrlT, by rw [lr, sizeLine_eq]; omega, ?_⟩
    have bL : But rl HT (upd HT rl (.lst (rvs ++ [.ref tq]))) := But.upd
    have kL : K3 a l rl HT (upd HT rl (.lst (rvs ++ [.ref tq]))) := K3.but hrlT bL
    have k7T := k7J.trans (K3.same sJT)
    refine ⟨rvs ++ [.ref tq], _, _, _, _, _, _, rfl, k7T.trans kL, pT.but bL nrh, upd_same, by rw [List.length_append, lr]; rfl, fun y hy => ?_⟩
    rcases List.mem_append.mp hy with hy | hy
    · exact (((hrv y hy).k3 kJ).k3 (K3.same sJT)).k3 kL
    · rw [List.mem_singleton.mp hy]
      have hrlx : J rl = some (.lst rvs) := hrlJ
      refine RdAt.k3 kL ⟨tq, rd, d, M, m, f, kvs, ms, rfl, etq, (rdr.same w5).mono fun b hb => ?_, hf, tk, hdJ.same sJT, sJT _ _ hM, nMh.1, nMh.2.1, nMrl⟩
      have hbJ : J b = none := none_of w4 hb
      exact ⟨(hand_ne pJ hbJ).1, (hand_ne pJ hbJ).2.1, fun z => by rw [z, hrlx] at hbJ; cases hbJ⟩
  rintro σ' H8 ⟨rvs, z6, z7, z8, z9, z10, z11, rfl, k8, p8, hrl, lr, hrv⟩
  have ci8 : R.CallsIn H8 a l pl lc ys v.calls := ⟨p8, k8 _ _ (fun _ _ => ⟨ci7.na, ci7.nl, nlr⟩) ci7.hl, tups_k3 k8 ci7.tup, ci7.na, ci7.nl⟩
  have sok : ∀ c ∈ v.calls, PyData.strOk c.1 = true := fun c hc' => (knm c hc').2
  have ly := tups_len ci8.tup
  -- the rounds
  refine ⟨6, rfl, by decide, by decide, for_it (n := 6) walk_range (fun i σ' H' => ∃ (y6 y12 y14 y15 : Option V), σ' = [some (.ref sc), some (.ref a), some (.ref t), some (.ref lc), some (.ref x), some (.ref rl), y6, z7, z8, z9, z10, z11, y12, none, y14, y15] ∧ Bx a l H8 H' ∧ HandAt H' a l pl) ⟨z6, none, none, none, rfl, Bx.refl _, p8⟩ (fun _ _ _ _ _ => trivial) ?_ ?_⟩
  · rintro i z σ' H0 H' hi ⟨y6, y12, y14, y15, rfl, bx, hp⟩ ⟨rfl, rfl⟩
    refine ⟨(by show 8 ≤ sizeLine; decide), fun q0 nq0 => ?_⟩
    have nqh := hand_ne hp nq0
    have t1 := same_new (o := .lst (([0, 1, 2, 3, 5, 8, 20, 40] : List Int).map V.int)) nq0
    have m1 : upd H' q0 (.lst (([0, 1, 2, 3, 5, 8, 20, 40] : List Int).map V.int)) q0 = some (.lst (([0, 1, 2, 3, 5, 8, 20, 40] : List Int).map V.int)) := upd_same
    have hp1 := hp.same t1
    refine ⟨_, rfl, a, l, pl, 8, rfl, hp1, by omega, fun q1 Ha ba pa hq1 => ?_⟩
    have m2 := ba _ _ nqh.1 nqh.2.1 m1
    have ez := List.getElem?_eq_getElem (show q1.toNat < ([0, 1, 2, 3, 5, 8, 20, 40] : List Int).length by show q1.toNat < 8; omega)
    have hsz : 0 ≤ ([0, 1, 2, 3, 5, 8, 20, 40] : List Int)[q1.toNat]'(by show q1.toNat < 8; omega) ∧ ([0, 1, 2, 3, 5, 8, 20, 40] : List Int)[q1.toNat]'(by show q1.toNat < 8; omega) ≤ 40 := by
      have : ∀ x ∈ ([0, 1, 2, 3, 5, 8, 20, 40] : List Int), 0 ≤ x ∧ x ≤ 40 := by decide
      exact this _ (List.getElem_mem _)
    generalize ([0, 1, 2, 3, 5, 8, 20, 40] : List Int)[q1.toNat]'(by show q1.toNat < 8; omega) = sz at ez hsz
    have az := atI_nat (xs := ([0, 1, 2, 3, 5, 8, 20, 40] : List Int).map V.int) (j := q1.toNat) (v := .int sz) (by rw [List.getElem?_map, ez]; rfl)
    rw [Int.toNat_of_nonneg hq1.1] at az
    have bxa : Bx a l H8 Ha := bx.trans ((Same.bx t1).trans ba)
    refine ⟨_, _, _, _, rfl, rfl, .of m2, az, ?_⟩
    -- the row
    refine ⟨_, rfl, sz, rfl, by omega, by omega, fun R0 nR => ?_⟩
    have nRh := hand_ne pa nR
    have cia := ci8.bx bxa pa
    refine it_any (n := sz.toNat) walk_range (fun j J => ∃ (xs : List V) (rs : List (Str × Int)), Bx a l Ha J ∧ HandAt J a l pl ∧ J R0 = some (.lst xs) ∧ RowG K (wo a l J) xs (rowO rs) ∧ (∀ c ∈ rs, c ∈ v.calls) ∧ rs.length = j) ⟨[], [], Same.bx (same_new nR), pa.same (same_new nR), upd_same, RowG.nil, (fun c h => nomatch h), rfl⟩ (fun _ _ _ _ => trivial) ?_ ?_
    · rintro j z J0 J hj ⟨xs, rs, bJ, pJ, hR, rg, hrs, len⟩ ⟨rfl, rfl⟩
      have ciJ := cia.bx bJ pJ
      have lxs : xs.length = j := by rw [rg.1]; unfold rowO; rw [List.length_map]; exact len
      refine ⟨rfl, _, rfl, _, rfl, _, rfl, _, _, rfl, .inl (.of ciJ.hl), a, l, pl, _, rfl, pJ, by omega, fun q2 J2 b2' p2' hq2 => ?_⟩
      have ciJ2 := ciJ.bx b2' p2'
      have ey := List.getElem?_eq_getElem (show q2.toNat < ys.length by omega)
      generalize ys[q2.toNat]'(by omega) = yv at ey
      obtain ⟨c0, tc, ec, rfl, htc⟩ := tups_at ciJ2.tup ey
      have ay := atI_nat ey
      rw [Int.toNat_of_nonneg hq2.1] at ay
      have ntc : tc ≠ a ∧ tc ≠ l := by
        obtain ⟨gs, ps, i, n, g⟩ := p2'
        exact ⟨fun z => (by rw [z, g.ea] at htc; cases htc), fun z => (by rw [z, g.el] at htc; cases htc)⟩
      have hR2 := b2' _ _ nRh.1 nRh.2.1 hR
      have bU : But R0 J2 (upd J2 R0 (.lst (xs ++ [.ref tc]))) := But.upd
      have nt : tc ≠ R0 := fun z => by rw [z, hR2] at htc; cases htc
      refine ⟨_, _, _, _, rfl, rfl, .of ciJ2.hl, ay, xs, hR2, by rw [lxs, sizeLine_eq]; omega, xs ++ [.ref tc], rs ++ [c0], fun b o n1 n2 e => ?_, p2'.but bU nRh, upd_same, ?_, fun c hc' => ?_, by rw [List.length_append, len]; rfl⟩
      · rw [upd_ne (ne_of_none e nR)]
        exact b2' _ _ n1 n2 (bJ _ _ n1 n2 e)
      · have e1 : rowO (rs ++ [c0]) = rowO rs ++ rowO [c0] := by unfold rowO; rw [List.map_append]
        rw [e1]
        refine RowG.app ?_ (RowG.cons (Cg.call ?_) RowG.nil)
        · refine rowO_mono (rg.same (wo_bx b2')) fun b ws e => ?_
          obtain ⟨n1, n2, e⟩ := wo_of e
          rw [wo_at n1 n2, upd_ne (fun z => by rw [z, hR2] at e; cases e)]
          exact e
        · rw [wo_at ntc.1 ntc.2, upd_ne nt]
          exact htc
      · rcases List.mem_append.mp hc' with h | h
        · exact hrs c h
        · rw [List.mem_singleton.mp h]
          exact List.mem_of_getElem? ec
    rintro J ⟨xs, rs, bJ, pJ, hR, rg, hrs, len⟩
    have b8J := bxa.trans bJ
    have len40 : rs.length ≤ 40 := by omega
    have hrlJ := b8J _ _ nrh.1 nrh.2.1 hrl
    have rgJ := rg.same wo_sub
    have HR := hR
    refine ⟨_, rfl, rl, rfl, ⟨_, .of hrlJ⟩, for_list (xs := rvs) (fun _ σ' H' => ∃ (w15 : Option V), σ' = [some (.ref sc), some (.ref a), some (.ref t), some (.ref lc), some (.ref x), some (.ref rl), some (.int (0 + (i : Int))), z7, z8, z9, z10, z11, some (.int sz), none, some (.ref R0), w15] ∧ Same J H') ⟨y15, rfl, Same.refl _⟩ (fun _ σ' H' _ ⟨_, _, s⟩ => .of (s _ _ hrlJ)) ?_ ?_⟩
    · rintro k y σ' G hy ⟨w15, rfl, sG⟩
      have rdA := ((hrv y (List.mem_of_getElem? hy)).k3 (K3.bx p8 b8J)).k3 (K3.same sG)
      obtain ⟨tq, r, d, mb, m, f, kvs, ms, rfl, g1, g2, g3, g4, g5, g6, g7, g8, g9⟩ := rdA.ob
      refine ⟨_, rfl, _, _, _, _, rfl, rfl, .of g1, at0, _, rfl, _, _, _, _, rfl, rfl, .of g1, at2, _, rfl, _, _, _, _, rfl, rfl, .of g1, at1, _, rfl, _, _, _, _, rfl, rfl, .of g1, at3, _, rfl, d, mb, R0, m, f, kvs, v.calls, rs, ms, xs, rfl, g5, g4, g3, g6, .of (sG _ _ HR), (rgJ.same sG), hrs, fun G2 sG2 => ⟨_, rfl, r, R0, _, m, f, kvs, v.calls, rs, ms, xs, rfl, g2.same sG2, nds, g3, g4, .of (sG2 _ _ (sG _ _ HR)), (rgJ.same sG).same sG2, hrs, sok, fun G3 sG3 => ⟨_, rfl, iteF ?_⟩⟩⟩
      exact ⟨_, rfl, (sG.trans sG2).trans sG3⟩
    rintro σ' G ⟨w15, rfl, sG⟩
    have pG := pJ.same sG
    -- a spoilt row
    refine ⟨_, rfl, _, rfl, _, rfl, a, l, pl, 2, rfl, pG, by omega, fun q3 G2 bG pG2 hq3 => ?_⟩
    have ey := List.getElem?_eq_getElem (show q3.toNat < rvs.length by omega)
    generalize rvs[q3.toNat]'(by omega) = yv at ey
    have ay := atI_nat ey
    rw [Int.toNat_of_nonneg hq3.1] at ay
    have bJG2 : Bx a l J G2 := (Same.bx sG).trans bG
    have b8G2 := b8J.trans bJG2
    have rdA := (hrv yv (List.mem_of_getElem? ey)).k3 (K3.bx p8 b8G2)
    obtain ⟨tq, r, d, mb, m, f, kvs, ms, rfl, g1, g2, g3, g4, g5, g6, g7, g8, g9⟩ := rdA.ob
    refine ⟨_, _, _, _, rfl, rfl, .of (b8G2 _ _ nrh.1 nrh.2.1 hrl), ay, _, _, _, _, rfl, rfl, .of g1, at0, _, rfl, _, rfl, a, l, pl, r, lc, R0, ys, xs, v.calls, rs, m, f, kvs, ms, rfl, ci8.bx b8G2 pG2, ⟨k1, k72⟩, knm, nds, g2.mono (fun b hb => ⟨hb.1, hb.2.1⟩), g3, g4, bJG2 _ _ nRh.1 nRh.2.1 hR, ⟨nRh.1, nRh.2.1⟩, rg.same (wo_bx bJG2), hrs, len40, fun G3 bG3 pG3 => ⟨_, rfl, iteF ?_⟩⟩
    -- and the readers are what they were
    have bJG3 := bJG2.trans bG3
    have b8G3 := b8J.trans bJG3
    have hrl3 := b8G3 _ _ nrh.1 nrh.2.1 hrl
    have HR := bJG3 _ _ nRh.1 nRh.2.1 hR
    have rgJ : RowG K G3 xs (rowO rs) := (rg.same (wo_bx bJG3)).same wo_sub
    clear rdA g1 g2 g3 g4 g5 g6 g7 g8 g9
    refine ⟨_, rfl, rl, rfl, ⟨_, .of hrl3⟩, for_list (xs := rvs) (fun _ σ' H' => ∃ (w15 : Option V), σ' = [some (.ref sc), some (.ref a), some (.ref t), some (.ref lc), some (.ref x), some (.ref rl), some (.int (0 + (i : Int))), z7, z8, z9, z10, z11, some (.int sz), none, some (.ref R0), w15] ∧ Same G3 H') ⟨w15, rfl, Same.refl _⟩ (fun _ σ' H' _ ⟨_, _, s⟩ => .of (s _ _ hrl3)) ?_ ?_⟩
    · rintro k y σ' G hy ⟨w15, rfl, sG⟩
      have rdA := ((hrv y (List.mem_of_getElem? hy)).k3 (K3.bx p8 b8G3)).k3 (K3.same sG)
      obtain ⟨tq, r, d, mb, m, f, kvs, ms, rfl, g1, g2, g3, g4, g5, g6, g7, g8, g9⟩ := rdA.ob
      refine ⟨_, rfl, _, _, _, _, rfl, rfl, .of g1, at0, _, rfl, _, _, _, _, rfl, rfl, .of g1, at2, _, rfl, _, _, _, _, rfl, rfl, .of g1, at1, _, rfl, _, _, _, _, rfl, rfl, .of g1, at3, _, rfl, d, mb, R0, m, f, kvs, v.calls, rs, ms, xs, rfl, g5, g4, g3, g6, .of (sG _ _ HR), (rgJ.same sG), hrs, fun G2 sG2 => ⟨_, rfl, r, R0, _, m, f, kvs, v.calls, rs, ms, xs, rfl, g2.same sG2, nds, g3, g4, .of (sG2 _ _ (sG _ _ HR)), (rgJ.same sG).same sG2, hrs, sok, fun G3 sG3 => ⟨_, rfl, iteF ?_⟩⟩⟩
      have s23 := sG2.trans sG3
      have g1' := s23 _ _ g1
      have g6' := s23 _ _ g6
      refine ⟨_, rfl, _, _, _, _, rfl, rfl, .of g1', at0, _, rfl, _, _, _, _, rfl, rfl, .of g1', at1, _, rfl, _, _, _, _, rfl, rfl, .of g1', at3, mb, _, rfl, .inl (.of g6'), rfl, List.all_eq_true.mpr fun v hv => ?_, (by show 0 ≤ sizeLine; exact Nat.zero_le _), fun e0 ne0 => ?_⟩
      · obtain ⟨n, _, rfl⟩ := List.mem_map.mp hv
        rfl
      have s5 := same_new (o := .lst []) ne0
      refine ⟨r, e0, _, m, f, kvs, v.calls, [], ms, [], congrArg (fun b => [V.ref r, V.bl b, V.ref e0]) (inV_ints f ms), (g2.same s23).same s5, nds, g3, g4, .of upd_same, RowG.nil, (fun c h => nomatch h), sok, fun G5 sG5 => ⟨_, rfl, iteF ?_⟩⟩
      exact ⟨_, rfl, (sG.trans s23).trans (s5.trans sG5)⟩
    rintro σ' G5 ⟨w15, rfl, sG5⟩
    exact ⟨_, _, _, _, rfl, b8G3.trans (Same.bx sG5), pG3.same sG5⟩
  · rintro σ' H' ⟨y6, y12, y14, y15, rfl, bx, hp⟩
    exact q _
end

end M

open PySem PySem.W PySem.Calls PyProof.Rows
set_option maxRecDepth 100000 in
set_option maxHeartbeats 0 in
theorem PySem.Challenge.cw_pastless_k44_reads_by_an_own_walk_holds : PySem.Challenge.rw_pastless_k44_reads_by_an_own_walk.Holds := by
  w_on; o_law
  refine HandSHeadRun.head_any (r := OpenLaw.row PySem.Challenge.rw_pastless_k44_reads_by_an_own_walk) (q := view (OpenLaw.row PySem.Challenge.rw_pastless_k44_reads_by_an_own_walk).prog [74]) (H := M.hk) (ob := M.ob) (M := 8000) (loose := M.names) (d := HandSHeadRun.topDef (OpenLaw.row PySem.Challenge.rw_pastless_k44_reads_by_an_own_walk).prog 74) (kwd := []) M.ob_eq
    (by kernel_rfl) (fun s => by kernel_rfl) M.run (by kernel_rfl) (by kernel_rfl) (by kernel_rfl) (by rfl) (by first | assumption | decide +kernel) (by decide +kernel) ⟨rfl, rfl, rfl, rfl, rfl, by decide +kernel⟩ ?hw ?hc
  case hw => w_witness2
  case hc =>
    refine L2.walk_ofE (l := PySem.Challenge.rw_pastless_k44_reads_by_an_own_walk) (n := 63) (k := 57) (x := "_law_script") (CX := L2.CX0) rfl (by decide) (by kernel_rfl) ⟨rfl, by decide, by decide⟩ ?F (fun _ _ _ _ z => z)
    intro w mg fa h Y G hmg0
    obtain ⟨K, KX, c⟩ := Y
    have hmg : mg ("law" : PySem.Str) = some (.ref fa) := by
      have e : (HandSHeadRun.topDef (OpenLaw.row PySem.Challenge.rw_pastless_k44_reads_by_an_own_walk).prog 74).name = ("law" : PySem.Str) := by kernel_rfl
      rw [← e]
      exact hmg0
    have T : M.Txt w K mg := ⟨⟨h, c⟩, ⟨h, KX, G⟩⟩
    have e := hmg.symm.trans T.g_law
    cases e
    obtain ⟨fd, hF⟩ := T.f_law
    have b := fun s => L2.FunD.bindsA (ps := ["_law_script"]) hF (fun _ _ _ _ _ _ us hl => match us, hl with | [_], _ => rfl) s
    exact ⟨K, fd, M.spLaw K, KX, fun s v => b s [v] rfl, fun H a ns hl hO hS => ⟨a, ns, rfl, hS, hl, fun _ => rfl⟩, fun base _ _ => M.ok_law T hF⟩
