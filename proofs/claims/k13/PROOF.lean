import PyProof.Rows.All
import Wide.All
import OpenK.AllK
import Wide.FinOn
import KE.KStateDown
import HandS.ForMost
import HandS.ForExc
import HandS.More
import HandS.Conv
import HandS.IsInst
import HandS.DictComp
import HandS.Zip
import HandS.Walk
import HandS.SetKeys
import HandS.Codes
import HandS.CallLocal
import HandS.WrittenGet
import HandS.TryMany
import HandS.ExcField
import HandS.Flow
import HandS.Style
import HandS.Evl
import HandS.Wide
import HandS.WideBits
import HandS.Defaults
import HandS.Head0
import HandS.Head1
import HandS.Head2
import HandS.Head3
import HandS.HeadEnd
import HandS.HeadHook1
import HandS.HeadHook2
import HandS.HeadHook3
import HandS.HeadHook4
import HandS.ExcOwn
import HandS.TryOnly
import HandS.TryElse
import HandS.TupAny
import KE.KDictKeyed
import KE.KDictDisplayH
import PyProof.SumAny
import KE.KDictWalk
import HandS.Gcd
import HandS.Sort
import HandS.TupLen
import KE.KDictZip
import HandS.OwnIter
import PySem.Challenge.RW_pastless_k13_whole_shares_by_own_fractio
set_option Elab.async false
set_option linter.all false
set_option maxRecDepth 100000
set_option maxHeartbeats 2000000
namespace M
open PySem PySem.Spec PyProof.Rows L2
def top (i : Nat) : Stmt := PySem.Challenge.pw_pastless_k13_whole_shares_by_own_fractio.main.body.getD i (.Pass ⟨0, 0, 0, 0⟩)
abbrev s__wall : Stmt := top 1
abbrev s_NoVault_init : Stmt := inClass (top 7) 0
abbrev s_NoRow_init : Stmt := inClass (top 8) 0
abbrev s_is_integer : Stmt := top 12
abbrev s_is_within : Stmt := top 13
abbrev s_is_tuple : Stmt := top 14
abbrev s_is_state : Stmt := top 15
abbrev s_call_numbers : Stmt := top 16
abbrev s_call_number : Stmt := top 17
abbrev s_wrong_item : Stmt := top 18
abbrev s_check_state : Stmt := top 19
abbrev s_check_row : Stmt := top 20
abbrev s_Run_init : Stmt := inClass (top 22) 0
abbrev s_value_of : Stmt := top 23
abbrev s_do_read : Stmt := top 24
abbrev s_do_set : Stmt := top 25
abbrev s_do_swap : Stmt := top 26
abbrev s_do_keep : Stmt := top 27
abbrev s_do_coin : Stmt := top 28
abbrev s_do_answer : Stmt := top 29
abbrev s_do_unless : Stmt := top 30
abbrev s_do_on : Stmt := top 31
abbrev s_do_rounds : Stmt := top 32
abbrev s_do_round : Stmt := top 33
abbrev s_finish : Stmt := top 35
abbrev s_ways_from : Stmt := top 36
abbrev s_lowest : Stmt := top 39
abbrev s_moved : Stmt := top 40
abbrev s_chances : Stmt := top 41
abbrev s_Moves_init : Stmt := inClass (top 43) 0
abbrev s_Moves_ways : Stmt := inClass (top 43) 1
abbrev s_share : Stmt := top 44
abbrev s_weights_behind : Stmt := top 45
abbrev s_Tally_init : Stmt := inClass (top 56) 0
abbrev s_is_expression : Stmt := top 57
abbrev s_is_part : Stmt := top 58
abbrev s_is_body_row : Stmt := top 59
abbrev s_are_body_rows : Stmt := top 60
abbrev s_is_body : Stmt := top 61
abbrev s_code_of : Stmt := top 63
abbrev s_put_rows : Stmt := top 64
abbrev s_put_if : Stmt := top 65
abbrev s_put_times : Stmt := top 66
abbrev s_Vault_init : Stmt := inClass (top 71) 0
abbrev s_Vault_sizes : Stmt := inClass (top 71) 1
abbrev s_Vault_first : Stmt := inClass (top 71) 2
abbrev s_Vault_names : Stmt := inClass (top 71) 3
abbrev s_Vault_choices : Stmt := inClass (top 71) 4
abbrev s_Vault_rows : Stmt := inClass (top 71) 5
abbrev s_Vault_calls : Stmt := inClass (top 71) 6
abbrev s_Vault_has_coins : Stmt := inClass (top 71) 7
abbrev s_Vault_shape : Stmt := inClass (top 71) 8
abbrev s_Vault_starts : Stmt := inClass (top 71) 9
abbrev s_Vault_deed : Stmt := inClass (top 71) 10
abbrev s_Vault_eq : Stmt := inClass (top 71) 11
abbrev s_has_row : Stmt := top 72
abbrev s_is_cell : Stmt := top 73
abbrev s_are_cells : Stmt := top 74
abbrev s_is_name : Stmt := top 75
abbrev s_is_deed_head : Stmt := top 76
abbrev s_is_deed : Stmt := top 77
abbrev s_are_deeds : Stmt := top 78
abbrev s_begun : Stmt := top 79
abbrev s_l_pool : Stmt := top 81
abbrev s_l_draw : Stmt := top 82
abbrev s_l_cells : Stmt := top 83
abbrev s_l_e : Stmt := top 84
abbrev s_l_rows : Stmt := top 85
abbrev s_l_body : Stmt := top 86
abbrev s_l_deeds : Stmt := top 87
abbrev s_l_calls : Stmt := top 88
abbrev s_l_row : Stmt := top 89
abbrev s_l_value : Stmt := top 90
abbrev s_l_step : Stmt := top 91
abbrev s_l_do : Stmt := top 92
abbrev s_l_call : Stmt := top 93
abbrev s_l_outs : Stmt := top 94
abbrev s_l_good_int : Stmt := top 95
abbrev s_l_coin_tree : Stmt := top 96
abbrev s_l_coin_vault : Stmt := top 97
abbrev s_l_weights : Stmt := top 98
abbrev s_l_fraction : Stmt := top 99
abbrev s_l_right : Stmt := top 100
abbrev s_l_good_ints : Stmt := top 101
abbrev s_l_mixed : Stmt := top 102
abbrev s_law : Stmt := top 103
abbrev dd (x : Str) (st : Stmt) : He.DefD := ⟨(x, none), x, x, defArgs st, defBody st, defScope st, [], []⟩
abbrev dm (C m q : Str) (st : Stmt) : He.DefD := ⟨(C, some m), m, q, defArgs st, defBody st, defScope st, [], []⟩
def fn : List He.DefD := [dd "_wall" s__wall, dm "NoVault" "__init__" "NoVault.__init__" s_NoVault_init, dm "NoRow" "__init__" "NoRow.__init__" s_NoRow_init, dd "is_integer" s_is_integer, dd "is_within" s_is_within, dd "is_tuple" s_is_tuple, dd "is_state" s_is_state, dd "call_numbers" s_call_numbers, dd "call_number" s_call_number, dd "wrong_item" s_wrong_item, dd "check_state" s_check_state, dd "check_row" s_check_row, dm "Run" "__init__" "Run.__init__" s_Run_init, dd "value_of" s_value_of, dd "do_read" s_do_read, dd "do_set" s_do_set, dd "do_swap" s_do_swap, dd "do_keep" s_do_keep, dd "do_coin" s_do_coin, dd "do_answer" s_do_answer, dd "do_unless" s_do_unless, dd "do_on" s_do_on, dd "do_rounds" s_do_rounds, dd "do_round" s_do_round, dd "finish" s_finish, dd "ways_from" s_ways_from, dd "lowest" s_lowest, dd "moved" s_moved, dd "chances" s_chances, dm "Moves" "__init__" "Moves.__init__" s_Moves_init, dm "Moves" "ways" "Moves.ways" s_Moves_ways, dd "share" s_share, dd "weights_behind" s_weights_behind, dm "Tally" "__init__" "Tally.__init__" s_Tally_init, dd "is_expression" s_is_expression, dd "is_part" s_is_part, dd "is_body_row" s_is_body_row, dd "are_body_rows" s_are_body_rows, dd "is_body" s_is_body, dd "code_of" s_code_of, dd "put_rows" s_put_rows, dd "put_if" s_put_if, dd "put_times" s_put_times, dm "Vault" "__init__" "Vault.__init__" s_Vault_init, dm "Vault" "sizes" "Vault.sizes" s_Vault_sizes, dm "Vault" "first" "Vault.first" s_Vault_first, dm "Vault" "names" "Vault.names" s_Vault_names, dm "Vault" "choices" "Vault.choices" s_Vault_choices, dm "Vault" "rows" "Vault.rows" s_Vault_rows, dm "Vault" "calls" "Vault.calls" s_Vault_calls, dm "Vault" "has_coins" "Vault.has_coins" s_Vault_has_coins, dm "Vault" "shape" "Vault.shape" s_Vault_shape, dm "Vault" "starts" "Vault.starts" s_Vault_starts, dm "Vault" "_deed" "Vault._deed" s_Vault_deed, dm "Vault" "__eq__" "Vault.__eq__" s_Vault_eq, dd "has_row" s_has_row, dd "is_cell" s_is_cell, dd "are_cells" s_are_cells, dd "is_name" s_is_name, dd "is_deed_head" s_is_deed_head, dd "is_deed" s_is_deed, dd "are_deeds" s_are_deeds, dd "begun" s_begun, dd "_law_pool" s_l_pool, dd "_law_draw" s_l_draw, dd "_law_cells" s_l_cells, dd "_law_e" s_l_e, dd "_law_rows" s_l_rows, dd "_law_body" s_l_body, dd "_law_deeds" s_l_deeds, dd "_law_calls" s_l_calls, dd "_law_row" s_l_row, dd "_law_value" s_l_value, dd "_law_step" s_l_step, dd "_law_do" s_l_do, dd "_law_call" s_l_call, dd "_law_outs" s_l_outs, dd "_law_good_int" s_l_good_int, dd "_law_coin_tree" s_l_coin_tree, dd "_law_coin_vault" s_l_coin_vault, dd "_law_weights" s_l_weights, dd "_law_fraction" s_l_fraction, dd "_law_right" s_l_right, dd "_law_good_ints" s_l_good_ints, dd "_law_mixed" s_l_mixed, dd "law" s_law]
def fa0 : List He.Fa := [.glo "_wall", .glo "is_integer", .glo "is_within", .glo "is_tuple", .glo "is_state", .glo "call_numbers", .glo "call_number", .glo "wrong_item", .glo "check_state", .glo "check_row", .glo "value_of", .glo "do_read", .glo "do_set", .glo "do_swap", .glo "do_keep", .glo "do_coin", .glo "do_answer", .glo "do_unless", .glo "do_on", .glo "do_rounds", .glo "do_round", .glo "finish", .glo "ways_from", .glo "lowest", .glo "moved", .glo "chances", .glo "share", .glo "weights_behind", .glo "is_expression", .glo "is_part"]
def fa1 : List He.Fa := [.glo "is_body_row", .glo "are_body_rows", .glo "is_body", .glo "code_of", .glo "put_rows", .glo "put_if", .glo "put_times", .glo "has_row", .glo "is_cell", .glo "are_cells", .glo "is_name", .glo "is_deed_head", .glo "is_deed", .glo "are_deeds", .glo "begun", .glo "_law_pool", .glo "_law_draw", .glo "_law_cells", .glo "_law_e", .glo "_law_rows", .glo "_law_body", .glo "_law_deeds", .glo "_law_calls", .glo "_law_row", .glo "_law_value", .glo "_law_step", .glo "_law_do", .glo "_law_call", .glo "_law_outs", .glo "_law_good_int"]
def fa2 : List He.Fa := [.glo "_law_coin_tree", .glo "_law_coin_vault", .glo "_law_weights", .glo "_law_fraction", .glo "_law_right", .glo "_law_good_ints", .glo "_law_mixed", .glo "law", .glo "PastError", .glo "NoName", .glo "NoState", .glo "CoinsOut", .glo "NoVault", .glo "NoRow", .glo "Run", .cls "Run", .mkr "Run", .noat "Run" "code", .noat "Run" "sides", .noat "Run" "cells", .noat "Run" "coins", .noat "Run" "fallen", .noat "Run" "held", .noat "Run" "rounds", .noat "Run" "place", .noat "Run" "result", .glo "Moves", .cls "Moves", .mkr "Moves", .meth "Moves" "ways"]
def fa3 : List He.Fa := [.noat "Moves" "_starts", .noat "Moves" "_sides", .glo "Tally", .cls "Tally", .mkr "Tally", .noat "Tally" "cells", .noat "Tally" "coins", .noat "Tally" "lines", .glo "Vault", .cls "Vault", .mkr "Vault", .meth "Vault" "sizes", .meth "Vault" "first", .meth "Vault" "names", .meth "Vault" "choices", .meth "Vault" "rows", .meth "Vault" "calls", .meth "Vault" "has_coins", .meth "Vault" "shape", .meth "Vault" "starts", .meth "Vault" "_deed", .noat "Vault" "_cells", .noat "Vault" "_deeds", .noat "Vault" "_codes", .noat "Vault" "_coins", .exc "CoinsOut", .exm "CoinsOut" "CoinsOut" true, .free "len", .free "isinstance", .free "int"]
def fa4 : List He.Fa := [.free "abs", .free "tuple", .free "list", .free "str", .free "bool", .free "range", .free "zip", .free "enumerate", .free "set", .free "min", .free "max", .free "reversed", .free "sorted", .free "sum", .free "dict", .int "MOST_CELLS" (6), .int "GREATEST_SIZE" (9), .glo "ACTIONS", .glo "PARTS", .glo "CHANGED", .glo "HELD", .glo "SIGNS", .glo "FORMS", .int "DEEPEST_EXPRESSION" (6), .int "DEEPEST_ROW" (12), .int "DEEPEST_TIMES" (2), .int "MOST_COINS" (4), .int "MOST_ROWS" (2000), .int "MOST_DEEDS" (8), .int "LONGEST_NAME" (8)]
def fa5 : List He.Fa := [.int "MOST_CHOICES" (9)]
def fa : List He.Fa := fa0 ++ fa1 ++ fa2 ++ fa3 ++ fa4 ++ fa5
/-- the values of a written dict are tuples of texts -/
def formsB (K : PySem.W.Frag) (a : Addr) (kvs : List (Str × List Str)) : Bool := kvs.all fun q => match PySem.W.nsIn K a q.1 with
  | some (some (.ref t)) => (match K.lookup t with
    | some ⟨.type c, none, .seq its _, _⟩ => decide (c = "tuple") && (decide (its.size ≤ sizeLine) && He.relAll (q.2.map V.str) its.toList)
    | _ => false)
  | _ => false
def as0 : List Addr := [3, 6, 4, 49, 59, 72, 84, 96, 115, 134, 143, 150, 157, 164, 169, 176, 183, 190, 197, 214, 225, 232, 239, 246, 253, 260, 267, 274, 281, 288]
def as1 : List Addr := [295, 296, 303, 310, 311, 316, 323, 330, 354, 363, 368, 369, 370, 371, 372, 397, 408, 415, 422, 429, 436, 443, 450, 457, 464, 548, 559, 566, 573, 580]
def as2 : List Addr := [587, 594, 601, 608, 615, 622, 629, 636, 643, 650, 655, 662, 669, 676, 683, 690, 695, 702, 709, 716, 723, 728, 735, 742, 749, 756, 761, 0, 48, 58]
def as3 : List Addr := [71, 83, 95, 114, 133, 142, 149, 156, 163, 168, 175, 182, 189, 196, 213, 224, 231, 238, 245, 252, 259, 266, 273, 280, 287, 294, 302, 309, 315, 322]
def as4 : List Addr := [329, 353, 362, 367, 373, 374, 375, 376, 377, 378, 379, 380, 396, 407, 414, 421, 428, 435, 442, 449, 456, 463, 547, 558, 565, 572, 579, 586, 593, 600]
def as5 : List Addr := [607, 614, 621, 628, 635, 642, 649, 654, 661, 668, 675, 682, 689, 694, 701, 708, 715, 722, 727, 734, 741, 748, 755, 760, 43, 44, 45, 46, 47, 57]
def as6 : List Addr := [60, 70, 82, 94, 112, 113, 131, 132, 137, 138, 139, 140, 141, 144, 145, 146, 147, 148, 151, 152, 153, 154, 155, 158, 159, 160, 161, 162, 165, 166]
def as7 : List Addr := [167, 170, 171, 172, 173, 174, 177, 178, 179, 180, 181, 184, 185, 186, 187, 188, 191, 192, 193, 194, 195, 211, 212, 215, 216, 219, 220, 221, 222, 223]
def as8 : List Addr := [226, 227, 228, 229, 230, 233, 234, 235, 236, 237, 240, 241, 242, 243, 244, 247, 248, 249, 250, 251, 254, 255, 256, 257, 258, 261, 262, 263, 264, 265]
def as9 : List Addr := [268, 269, 270, 271, 272, 275, 276, 277, 278, 279, 282, 283, 284, 285, 286, 289, 290, 291, 292, 293, 297, 298, 299, 300, 301, 304, 305, 306, 307, 308]
def as10 : List Addr := [312, 313, 314, 317, 318, 319, 320, 321, 324, 325, 326, 327, 328, 344, 351, 352, 355, 356, 359, 360, 361, 364, 365, 366, 394, 395, 398, 399, 402, 403]
def as11 : List Addr := [404, 405, 406, 409, 410, 411, 412, 413, 416, 417, 418, 419, 420, 423, 424, 425, 426, 427, 430, 431, 432, 433, 434, 437, 438, 439, 440, 441, 444, 445]
def as12 : List Addr := [446, 447, 448, 451, 452, 453, 454, 455, 458, 459, 460, 461, 462, 476, 481, 486, 493, 500, 507, 512, 519, 526, 531, 538, 545, 546, 549, 550, 553, 554]
def as13 : List Addr := [555, 556, 557, 560, 561, 562, 563, 564, 567, 568, 569, 570, 571, 574, 575, 576, 577, 578, 581, 582, 583, 584, 585, 588, 589, 590, 591, 592, 595, 596]
def as14 : List Addr := [597, 598, 599, 602, 603, 604, 605, 606, 609, 610, 611, 612, 613, 616, 617, 618, 619, 620, 623, 624, 625, 626, 627, 630, 631, 632, 633, 634, 637, 638]
def as15 : List Addr := [639, 640, 641, 644, 645, 646, 647, 648, 651, 652, 653, 656, 657, 658, 659, 660, 663, 664, 665, 666, 667, 670, 671, 672, 673, 674, 677, 678, 679, 680]
def as16 : List Addr := [681, 684, 685, 686, 687, 688, 691, 692, 693, 696, 697, 698, 699, 700, 703, 704, 705, 706, 707, 710, 711, 712, 713, 714, 717, 718, 719, 720, 721, 724]
def as17 : List Addr := [725, 726, 729, 730, 731, 732, 733, 736, 737, 738, 739, 740, 743, 744, 745, 746, 747, 750, 751, 752, 753, 754, 757, 758, 759, 111, 130, 210, 343, 350]
def as18 : List Addr := [393, 475, 480, 485, 492, 499, 506, 511, 518, 525, 530, 537, 544, 2]
def asL : List Addr := as0 ++ (as1 ++ (as2 ++ (as3 ++ (as4 ++ (as5 ++ (as6 ++ (as7 ++ (as8 ++ (as9 ++ (as10 ++ (as11 ++ (as12 ++ (as13 ++ (as14 ++ (as15 ++ (as16 ++ (as17 ++ (as18))))))))))))))))))
/-- the places that the names reach, and that of the interpreter's own marks -/
def aS (_ : Addr → Option Obj) (_ : Nat) : List Addr := asL
def obS (n : Nat) (fa : List He.Fa) (fn : List He.DefD) (ts : List He.Tab) (ex : PySem.W.Frag → Bool) (g : Addr → Option Obj) : He.AlX := (He.obsT fa fn ts (He.frT g (aS g n)), ex (He.frT g (aS g n)))
theorem obS_says {n : Nat} {fa : List He.Fa} {fn : List He.DefD} {ts : List He.Tab} {ex : PySem.W.Frag → Bool} {w : World} {h : Heap} (e : obS n fa fn ts ex h.get? = He.valX fn ts w) : He.SaysX fa fn ts [] ex w h (He.frT h.get? (aS h.get? n)) := by
  have e1 := congrArg Prod.fst e
  have e2 := congrArg Prod.snd e
  constructor
  · exact e1
  · exact e2
  all_goals
    intro p hp
    cases hp
def hookS (n : Nat) (fa : List He.Fa) (fn : List He.DefD) (ts : List He.Tab) (ex : PySem.W.Frag → Bool) : PySem.W.Hook :=
  { α := He.AlX, obs := fun s => obS n fa fn ts ex s.heap.get?, val := fun w => He.valX fn ts w, says := fun w h => ∃ K : PySem.W.Frag, K.In h ∧ He.SaysX fa fn ts [] ex w h K, of := fun _ _ e => ⟨_, He.frT_in, obS_says e⟩,
    keeps := by
      intro w h h2 z k
      obtain ⟨K, z1, z2⟩ := z
      exact ⟨K, PySem.W.Frag.In.keeps z1 k, ⟨z2.t, z2.more, z2.hd, z2.out, fun p hp => by cases hp⟩⟩ }
theorem obS_eq {n : Nat} {fa : List He.Fa} {fn : List He.DefD} {ts : List He.Tab} {ex : PySem.W.Frag → Bool} {g : Addr → Option Obj} {s : Shared} (h : ∀ a, g a = s.heap.get? a) : obS n fa fn ts ex g = (hookS n fa fn ts ex).obs s := by
  cases (funext h : g = s.heap.get?)
  rfl
/-- the name x stands for this built-in function -/
def bltB (K : PySem.W.Frag) (x : Str) (u : String) : Bool := He.eqO (PySem.W.nsIn K mainGlobals x) (some (some (.builtin u)))
def ts : List He.Tab := [((fun K => He.ga K "ACTIONS"), ["read", "set", "swap", "keep", "coin", "answer", "unless", "on", "rounds", "round"]), ((fun K => He.ga K "FORMS"), ["read", "set", "swap", "keep", "coin", "if", "times", "answer"])]
def ex (K : PySem.W.Frag) : Bool := He.valsB K (He.ga K "ACTIONS") [("read", .glo "do_read"), ("set", .glo "do_set"), ("swap", .glo "do_swap"), ("keep", .glo "do_keep"), ("coin", .glo "do_coin"), ("answer", .glo "do_answer"), ("unless", .glo "do_unless"), ("on", .glo "do_on"), ("rounds", .glo "do_rounds"), ("round", .glo "do_round")] && (He.tupB K "PARTS" [.int 16, .int 8, .int 4, .int 2, .int 1] && (He.tupB K "CHANGED" [.str "a", .str "b", .str "c", .str "d"] && (He.tupB K "HELD" [.str "a", .str "b", .str "c", .str "d", .str "x"] && (He.tupB K "SIGNS" [.str "+", .str "-", .str "*", .str "=", .str "<"] && (formsB K (He.ga K "FORMS") [("read", ["REG", "CELL"]), ("set", ["CELL", "E"]), ("swap", ["REG", "CELL", "E", "E"]), ("keep", ["REG", "E"]), ("coin", ["REG"]), ("if", ["E", "ROWS", "ROWS"]), ("times", ["E", "ROWS"]), ("answer", ["E"])] && (bltB K "gcd" "math.gcd"))))))
end M

section
set_option maxRecDepth 100000
namespace M
open PySem PySem.Spec PyProof.Rows L2
set_option maxHeartbeats 0
def nm0 : List PySem.Str := ["gcd", "_wall", "PastError", "NoName", "NoState", "CoinsOut", "NoVault", "NoRow", "MOST_CELLS", "GREATEST_SIZE", "is_integer", "is_within", "is_tuple", "is_state", "call_numbers", "call_number", "wrong_item", "check_state", "check_row", "Run", "value_of", "do_read", "do_set", "do_swap", "do_keep", "do_coin", "do_answer", "do_unless", "do_on", "do_rounds"]
def nm1 : List PySem.Str := ["do_round", "ACTIONS", "finish", "ways_from", "PARTS", "lowest", "moved", "chances", "Moves", "share", "weights_behind", "CHANGED", "HELD", "SIGNS", "FORMS", "DEEPEST_EXPRESSION", "DEEPEST_ROW", "DEEPEST_TIMES", "MOST_COINS", "MOST_ROWS", "Tally", "is_expression", "is_part", "is_body_row", "are_body_rows", "is_body", "code_of", "put_rows", "put_if", "put_times"]
def nm2 : List PySem.Str := ["MOST_DEEDS", "LONGEST_NAME", "MOST_CHOICES", "Vault", "has_row", "is_cell", "are_cells", "is_name", "is_deed_head", "is_deed", "are_deeds", "begun", "_law_pool", "_law_draw", "_law_cells", "_law_e", "_law_rows", "_law_body", "_law_deeds", "_law_calls", "_law_row", "_law_value", "_law_step", "_law_do", "_law_call", "_law_outs", "_law_good_int", "_law_coin_tree", "_law_coin_vault", "_law_weights"]
def nm3 : List PySem.Str := ["_law_fraction", "_law_right", "_law_good_ints", "_law_mixed"]
def names : List PySem.Str := nm0 ++ nm1 ++ nm2 ++ nm3
abbrev R : PySem.W.OpenRow := PySem.W.OpenLaw.row PySem.Challenge.rw_pastless_k13_whole_shares_by_own_fractio
abbrev hk : PySem.W.Hook := hookS 4 fa fn ts ex
def ob (s : PySem.W.SharedT) : He.AlX := obS 4 fa fn ts ex (HandSHeadRun.getT s)
theorem ob_eq (s : PySem.W.SharedT) : ob s = hk.obs s.abs := obS_eq (HandSHeadRun.getT_eq s)
theorem run_false (w : World) : HandSHeadRun.RunEqI R (PySem.W.view R.prog [0, 103]) hk ob 20000 names (w.withFollow "special-get-raises" false) := by
  unfold HandSHeadRun.RunEqI
  kernel_rfl
theorem run_true (w : World) : HandSHeadRun.RunEqI R (PySem.W.view R.prog [0, 103]) hk ob 20000 names (w.withFollow "special-get-raises" true) := by
  unfold HandSHeadRun.RunEqI
  kernel_rfl
theorem run (w : World) : HandSHeadRun.RunEqI R (PySem.W.view R.prog [0, 103]) hk ob 20000 names w :=
  PySem.W.byRow2 "special-get-raises" (P := fun w => HandSHeadRun.RunEqI R (PySem.W.view R.prog [0, 103]) hk ob 20000 names w) run_false run_true w
end M
end

namespace M
open PySem PySem.Spec PyProof.Rows L2
/-- what the top has written -/
structure Txt (w : World) (K : PySem.W.Frag) (mg : Str → Option Value) : Prop where
  says : ∃ h, He.SaysX fa fn ts [] ex w h K
  X : ∃ h : Heap, K.In h ∧ h.Ns mainGlobals mg
section
variable {P : Program} {w : World} {K : PySem.W.Frag} {mg : Str → Option Value} {base : Heap}
theorem Txt.fact (T : Txt w K mg) (i : Nat) {f : He.Fa} (h : fa[i]? = some f := by rfl) : f.ok K = true := by
  obtain ⟨_, s⟩ := T.says
  exact s.t.d.fact i h
theorem Txt.glo (T : Txt w K mg) (i : Nat) {x : Str} (h : fa[i]? = some (.glo x) := by rfl) : mg x = some (.ref (He.ga K x)) := by
  obtain ⟨_, X, G⟩ := T.X
  exact He.glo_ok X G (T.fact i h)
theorem Txt.fr (T : Txt w K mg) (i : Nat) {x : Str} (h : fa[i]? = some (.free x) := by rfl) : mg x = none := by
  obtain ⟨_, X, G⟩ := T.X
  exact He.free_ok X G (T.fact i h)
theorem Txt.int (T : Txt w K mg) (i : Nat) {x : Str} {n : Int} (h : fa[i]? = some (.int x n) := by rfl) : ∃ u, mg x = some u ∧ RelV (.int n) u := by
  obtain ⟨_, X, G⟩ := T.X
  obtain ⟨t, e⟩ := He.int_ok X G (T.fact i h)
  exact ⟨_, e, ⟨t, rfl⟩⟩
theorem Txt.fd (T : Txt w K mg) (i : Nat) {d : He.DefD} (h : fn[i]? = some d := by rfl) : ∃ f, FunD K d.name d.qual d.params d.body d.scope (d.dvs K) (d.kws K) (He.fAd K d.at_) f := by
  obtain ⟨_, s⟩ := T.says
  exact s.t.d.def_ i h
theorem Txt.ex (T : Txt w K mg) : ex K = true := by
  obtain ⟨_, s⟩ := T.says
  exact s.more
theorem Txt.tab (T : Txt w K mg) (i : Nat) {t : He.Tab} (h : ts[i]? = some t := by rfl) : ∃ es n, KDict K w (t.1 K) es n := by
  obtain ⟨_, s⟩ := T.says
  exact s.t.tab i h
end
/-! places of the facts: 0 glo "_wall"; 1 glo "is_integer"; 2 glo "is_within"; 3 glo "is_tuple"; 4 glo "is_state"; 5 glo "call_numbers"; 6 glo "call_number"; 7 glo "wrong_item"; 8 glo "check_state"; 9 glo "check_row"; 10 glo "value_of"; 11 glo "do_read"; 12 glo "do_set"; 13 glo "do_swap"; 14 glo "do_keep"; 15 glo "do_coin"; 16 glo "do_answer"; 17 glo "do_unless"; 18 glo "do_on"; 19 glo "do_rounds"; 20 glo "do_round"; 21 glo "finish"; 22 glo "ways_from"; 23 glo "lowest"; 24 glo "moved"; 25 glo "chances"; 26 glo "share"; 27 glo "weights_behind"; 28 glo "is_expression"; 29 glo "is_part"; 30 glo "is_body_row"; 31 glo "are_body_rows"; 32 glo "is_body"; 33 glo "code_of"; 34 glo "put_rows"; 35 glo "put_if"; 36 glo "put_times"; 37 glo "has_row"; 38 glo "is_cell"; 39 glo "are_cells"; 40 glo "is_name"; 41 glo "is_deed_head"; 42 glo "is_deed"; 43 glo "are_deeds"; 44 glo "begun"; 45 glo "_law_pool"; 46 glo "_law_draw"; 47 glo "_law_cells"; 48 glo "_law_e"; 49 glo "_law_rows"; 50 glo "_law_body"; 51 glo "_law_deeds"; 52 glo "_law_calls"; 53 glo "_law_row"; 54 glo "_law_value"; 55 glo "_law_step"; 56 glo "_law_do"; 57 glo "_law_call"; 58 glo "_law_outs"; 59 glo "_law_good_int"; 60 glo "_law_coin_tree"; 61 glo "_law_coin_vault"; 62 glo "_law_weights"; 63 glo "_law_fraction"; 64 glo "_law_right"; 65 glo "_law_good_ints"; 66 glo "_law_mixed"; 67 glo "law"; 68 glo "PastError"; 69 glo "NoName"; 70 glo "NoState"; 71 glo "CoinsOut"; 72 glo "NoVault"; 73 glo "NoRow"; 74 glo "Run"; 75 cls "Run"; 76 mkr "Run"; 77 noat "Run" "code"; 78 noat "Run" "sides"; 79 noat "Run" "cells"; 80 noat "Run" "coins"; 81 noat "Run" "fallen"; 82 noat "Run" "held"; 83 noat "Run" "rounds"; 84 noat "Run" "place"; 85 noat "Run" "result"; 86 glo "Moves"; 87 cls "Moves"; 88 mkr "Moves"; 89 meth "Moves" "ways"; 90 noat "Moves" "_starts"; 91 noat "Moves" "_sides"; 92 glo "Tally"; 93 cls "Tally"; 94 mkr "Tally"; 95 noat "Tally" "cells"; 96 noat "Tally" "coins"; 97 noat "Tally" "lines"; 98 glo "Vault"; 99 cls "Vault"; 100 mkr "Vault"; 101 meth "Vault" "sizes"; 102 meth "Vault" "first"; 103 meth "Vault" "names"; 104 meth "Vault" "choices"; 105 meth "Vault" "rows"; 106 meth "Vault" "calls"; 107 meth "Vault" "has_coins"; 108 meth "Vault" "shape"; 109 meth "Vault" "starts"; 110 meth "Vault" "_deed"; 111 noat "Vault" "_cells"; 112 noat "Vault" "_deeds"; 113 noat "Vault" "_codes"; 114 noat "Vault" "_coins"; 115 exc "CoinsOut"; 116 exm "CoinsOut" "CoinsOut" true; 117 free "len"; 118 free "isinstance"; 119 free "int"; 120 free "abs"; 121 free "tuple"; 122 free "list"; 123 free "str"; 124 free "bool"; 125 free "range"; 126 free "zip"; 127 free "enumerate"; 128 free "set"; 129 free "min"; 130 free "max"; 131 free "reversed"; 132 free "sorted"; 133 free "sum"; 134 free "dict"; 135 int "MOST_CELLS" (6); 136 int "GREATEST_SIZE" (9); 137 glo "ACTIONS"; 138 glo "PARTS"; 139 glo "CHANGED"; 140 glo "HELD"; 141 glo "SIGNS"; 142 glo "FORMS"; 143 int "DEEPEST_EXPRESSION" (6); 144 int "DEEPEST_ROW" (12); 145 int "DEEPEST_TIMES" (2); 146 int "MOST_COINS" (4); 147 int "MOST_ROWS" (2000); 148 int "MOST_DEEDS" (8); 149 int "LONGEST_NAME" (8); 150 int "MOST_CHOICES" (9) -/
section
variable {P : Program} {w : World} {K : PySem.W.Frag} {mg : Str → Option Value} {base : Heap}
theorem Txt.g_wall (T : Txt w K mg) : mg "_wall" = some (.ref (He.ga K "_wall")) := T.glo 0
theorem Txt.g_is_integer (T : Txt w K mg) : mg "is_integer" = some (.ref (He.ga K "is_integer")) := T.glo 1
theorem Txt.g_is_within (T : Txt w K mg) : mg "is_within" = some (.ref (He.ga K "is_within")) := T.glo 2
theorem Txt.g_is_tuple (T : Txt w K mg) : mg "is_tuple" = some (.ref (He.ga K "is_tuple")) := T.glo 3
theorem Txt.g_is_state (T : Txt w K mg) : mg "is_state" = some (.ref (He.ga K "is_state")) := T.glo 4
theorem Txt.g_call_numbers (T : Txt w K mg) : mg "call_numbers" = some (.ref (He.ga K "call_numbers")) := T.glo 5
theorem Txt.g_call_number (T : Txt w K mg) : mg "call_number" = some (.ref (He.ga K "call_number")) := T.glo 6
theorem Txt.g_wrong_item (T : Txt w K mg) : mg "wrong_item" = some (.ref (He.ga K "wrong_item")) := T.glo 7
theorem Txt.g_check_state (T : Txt w K mg) : mg "check_state" = some (.ref (He.ga K "check_state")) := T.glo 8
theorem Txt.g_check_row (T : Txt w K mg) : mg "check_row" = some (.ref (He.ga K "check_row")) := T.glo 9
theorem Txt.g_value_of (T : Txt w K mg) : mg "value_of" = some (.ref (He.ga K "value_of")) := T.glo 10
theorem Txt.g_do_read (T : Txt w K mg) : mg "do_read" = some (.ref (He.ga K "do_read")) := T.glo 11
theorem Txt.g_do_set (T : Txt w K mg) : mg "do_set" = some (.ref (He.ga K "do_set")) := T.glo 12
theorem Txt.g_do_swap (T : Txt w K mg) : mg "do_swap" = some (.ref (He.ga K "do_swap")) := T.glo 13
theorem Txt.g_do_keep (T : Txt w K mg) : mg "do_keep" = some (.ref (He.ga K "do_keep")) := T.glo 14
theorem Txt.g_do_coin (T : Txt w K mg) : mg "do_coin" = some (.ref (He.ga K "do_coin")) := T.glo 15
theorem Txt.g_do_answer (T : Txt w K mg) : mg "do_answer" = some (.ref (He.ga K "do_answer")) := T.glo 16
theorem Txt.g_do_unless (T : Txt w K mg) : mg "do_unless" = some (.ref (He.ga K "do_unless")) := T.glo 17
theorem Txt.g_do_on (T : Txt w K mg) : mg "do_on" = some (.ref (He.ga K "do_on")) := T.glo 18
theorem Txt.g_do_rounds (T : Txt w K mg) : mg "do_rounds" = some (.ref (He.ga K "do_rounds")) := T.glo 19
theorem Txt.g_do_round (T : Txt w K mg) : mg "do_round" = some (.ref (He.ga K "do_round")) := T.glo 20
theorem Txt.g_finish (T : Txt w K mg) : mg "finish" = some (.ref (He.ga K "finish")) := T.glo 21
theorem Txt.g_ways_from (T : Txt w K mg) : mg "ways_from" = some (.ref (He.ga K "ways_from")) := T.glo 22
theorem Txt.g_lowest (T : Txt w K mg) : mg "lowest" = some (.ref (He.ga K "lowest")) := T.glo 23
theorem Txt.g_moved (T : Txt w K mg) : mg "moved" = some (.ref (He.ga K "moved")) := T.glo 24
theorem Txt.g_chances (T : Txt w K mg) : mg "chances" = some (.ref (He.ga K "chances")) := T.glo 25
theorem Txt.g_share (T : Txt w K mg) : mg "share" = some (.ref (He.ga K "share")) := T.glo 26
theorem Txt.g_weights_behind (T : Txt w K mg) : mg "weights_behind" = some (.ref (He.ga K "weights_behind")) := T.glo 27
theorem Txt.g_is_expression (T : Txt w K mg) : mg "is_expression" = some (.ref (He.ga K "is_expression")) := T.glo 28
theorem Txt.g_is_part (T : Txt w K mg) : mg "is_part" = some (.ref (He.ga K "is_part")) := T.glo 29
theorem Txt.g_is_body_row (T : Txt w K mg) : mg "is_body_row" = some (.ref (He.ga K "is_body_row")) := T.glo 30
theorem Txt.g_are_body_rows (T : Txt w K mg) : mg "are_body_rows" = some (.ref (He.ga K "are_body_rows")) := T.glo 31
theorem Txt.g_is_body (T : Txt w K mg) : mg "is_body" = some (.ref (He.ga K "is_body")) := T.glo 32
theorem Txt.g_code_of (T : Txt w K mg) : mg "code_of" = some (.ref (He.ga K "code_of")) := T.glo 33
theorem Txt.g_put_rows (T : Txt w K mg) : mg "put_rows" = some (.ref (He.ga K "put_rows")) := T.glo 34
theorem Txt.g_put_if (T : Txt w K mg) : mg "put_if" = some (.ref (He.ga K "put_if")) := T.glo 35
theorem Txt.g_put_times (T : Txt w K mg) : mg "put_times" = some (.ref (He.ga K "put_times")) := T.glo 36
theorem Txt.g_has_row (T : Txt w K mg) : mg "has_row" = some (.ref (He.ga K "has_row")) := T.glo 37
theorem Txt.g_is_cell (T : Txt w K mg) : mg "is_cell" = some (.ref (He.ga K "is_cell")) := T.glo 38
theorem Txt.g_are_cells (T : Txt w K mg) : mg "are_cells" = some (.ref (He.ga K "are_cells")) := T.glo 39
theorem Txt.g_is_name (T : Txt w K mg) : mg "is_name" = some (.ref (He.ga K "is_name")) := T.glo 40
theorem Txt.g_is_deed_head (T : Txt w K mg) : mg "is_deed_head" = some (.ref (He.ga K "is_deed_head")) := T.glo 41
theorem Txt.g_is_deed (T : Txt w K mg) : mg "is_deed" = some (.ref (He.ga K "is_deed")) := T.glo 42
theorem Txt.g_are_deeds (T : Txt w K mg) : mg "are_deeds" = some (.ref (He.ga K "are_deeds")) := T.glo 43
theorem Txt.g_begun (T : Txt w K mg) : mg "begun" = some (.ref (He.ga K "begun")) := T.glo 44
theorem Txt.g_law_pool (T : Txt w K mg) : mg "_law_pool" = some (.ref (He.ga K "_law_pool")) := T.glo 45
theorem Txt.g_law_draw (T : Txt w K mg) : mg "_law_draw" = some (.ref (He.ga K "_law_draw")) := T.glo 46
theorem Txt.g_law_cells (T : Txt w K mg) : mg "_law_cells" = some (.ref (He.ga K "_law_cells")) := T.glo 47
theorem Txt.g_law_e (T : Txt w K mg) : mg "_law_e" = some (.ref (He.ga K "_law_e")) := T.glo 48
theorem Txt.g_law_rows (T : Txt w K mg) : mg "_law_rows" = some (.ref (He.ga K "_law_rows")) := T.glo 49
theorem Txt.g_law_body (T : Txt w K mg) : mg "_law_body" = some (.ref (He.ga K "_law_body")) := T.glo 50
theorem Txt.g_law_deeds (T : Txt w K mg) : mg "_law_deeds" = some (.ref (He.ga K "_law_deeds")) := T.glo 51
theorem Txt.g_law_calls (T : Txt w K mg) : mg "_law_calls" = some (.ref (He.ga K "_law_calls")) := T.glo 52
theorem Txt.g_law_row (T : Txt w K mg) : mg "_law_row" = some (.ref (He.ga K "_law_row")) := T.glo 53
theorem Txt.g_law_value (T : Txt w K mg) : mg "_law_value" = some (.ref (He.ga K "_law_value")) := T.glo 54
theorem Txt.g_law_step (T : Txt w K mg) : mg "_law_step" = some (.ref (He.ga K "_law_step")) := T.glo 55
theorem Txt.g_law_do (T : Txt w K mg) : mg "_law_do" = some (.ref (He.ga K "_law_do")) := T.glo 56
theorem Txt.g_law_call (T : Txt w K mg) : mg "_law_call" = some (.ref (He.ga K "_law_call")) := T.glo 57
theorem Txt.g_law_outs (T : Txt w K mg) : mg "_law_outs" = some (.ref (He.ga K "_law_outs")) := T.glo 58
theorem Txt.g_law_good_int (T : Txt w K mg) : mg "_law_good_int" = some (.ref (He.ga K "_law_good_int")) := T.glo 59
theorem Txt.g_law_coin_tree (T : Txt w K mg) : mg "_law_coin_tree" = some (.ref (He.ga K "_law_coin_tree")) := T.glo 60
theorem Txt.g_law_coin_vault (T : Txt w K mg) : mg "_law_coin_vault" = some (.ref (He.ga K "_law_coin_vault")) := T.glo 61
theorem Txt.g_law_weights (T : Txt w K mg) : mg "_law_weights" = some (.ref (He.ga K "_law_weights")) := T.glo 62
theorem Txt.g_law_fraction (T : Txt w K mg) : mg "_law_fraction" = some (.ref (He.ga K "_law_fraction")) := T.glo 63
theorem Txt.g_law_right (T : Txt w K mg) : mg "_law_right" = some (.ref (He.ga K "_law_right")) := T.glo 64
theorem Txt.g_law_good_ints (T : Txt w K mg) : mg "_law_good_ints" = some (.ref (He.ga K "_law_good_ints")) := T.glo 65
theorem Txt.g_law_mixed (T : Txt w K mg) : mg "_law_mixed" = some (.ref (He.ga K "_law_mixed")) := T.glo 66
theorem Txt.g_law (T : Txt w K mg) : mg "law" = some (.ref (He.ga K "law")) := T.glo 67
theorem Txt.g_PastError (T : Txt w K mg) : mg "PastError" = some (.ref (He.ga K "PastError")) := T.glo 68
theorem Txt.g_NoName (T : Txt w K mg) : mg "NoName" = some (.ref (He.ga K "NoName")) := T.glo 69
theorem Txt.g_NoState (T : Txt w K mg) : mg "NoState" = some (.ref (He.ga K "NoState")) := T.glo 70
theorem Txt.g_CoinsOut (T : Txt w K mg) : mg "CoinsOut" = some (.ref (He.ga K "CoinsOut")) := T.glo 71
theorem Txt.g_NoVault (T : Txt w K mg) : mg "NoVault" = some (.ref (He.ga K "NoVault")) := T.glo 72
theorem Txt.g_NoRow (T : Txt w K mg) : mg "NoRow" = some (.ref (He.ga K "NoRow")) := T.glo 73
theorem Txt.g_Run (T : Txt w K mg) : mg "Run" = some (.ref (He.ga K "Run")) := T.glo 74
theorem Txt.c_Run (T : Txt w K mg) : Cls K (He.ga K "Run") := He.cls_ok (T.fact 75)
theorem Txt.k_Run (T : Txt w K mg) : Mk K (He.ga K "Run") (He.ma K (He.ga K "Run") "__init__") := He.mkr_ok (T.fact 76)
theorem Txt.n_Run_code (T : Txt w K mg) : NoAttr K (He.ga K "Run") "code" := He.noat_ok (T.fact 77)
theorem Txt.n_Run_sides (T : Txt w K mg) : NoAttr K (He.ga K "Run") "sides" := He.noat_ok (T.fact 78)
theorem Txt.n_Run_cells (T : Txt w K mg) : NoAttr K (He.ga K "Run") "cells" := He.noat_ok (T.fact 79)
theorem Txt.n_Run_coins (T : Txt w K mg) : NoAttr K (He.ga K "Run") "coins" := He.noat_ok (T.fact 80)
theorem Txt.n_Run_fallen (T : Txt w K mg) : NoAttr K (He.ga K "Run") "fallen" := He.noat_ok (T.fact 81)
theorem Txt.n_Run_held (T : Txt w K mg) : NoAttr K (He.ga K "Run") "held" := He.noat_ok (T.fact 82)
theorem Txt.n_Run_rounds (T : Txt w K mg) : NoAttr K (He.ga K "Run") "rounds" := He.noat_ok (T.fact 83)
theorem Txt.n_Run_place (T : Txt w K mg) : NoAttr K (He.ga K "Run") "place" := He.noat_ok (T.fact 84)
theorem Txt.n_Run_result (T : Txt w K mg) : NoAttr K (He.ga K "Run") "result" := He.noat_ok (T.fact 85)
theorem Txt.g_Moves (T : Txt w K mg) : mg "Moves" = some (.ref (He.ga K "Moves")) := T.glo 86
theorem Txt.c_Moves (T : Txt w K mg) : Cls K (He.ga K "Moves") := He.cls_ok (T.fact 87)
theorem Txt.k_Moves (T : Txt w K mg) : Mk K (He.ga K "Moves") (He.ma K (He.ga K "Moves") "__init__") := He.mkr_ok (T.fact 88)
theorem Txt.m_Moves_ways (T : Txt w K mg) : Meth K (He.ga K "Moves") "ways" (He.ma K (He.ga K "Moves") "ways") := He.meth_ok (T.fact 89)
theorem Txt.n_Moves_starts (T : Txt w K mg) : NoAttr K (He.ga K "Moves") "_starts" := He.noat_ok (T.fact 90)
theorem Txt.n_Moves_sides (T : Txt w K mg) : NoAttr K (He.ga K "Moves") "_sides" := He.noat_ok (T.fact 91)
theorem Txt.g_Tally (T : Txt w K mg) : mg "Tally" = some (.ref (He.ga K "Tally")) := T.glo 92
theorem Txt.c_Tally (T : Txt w K mg) : Cls K (He.ga K "Tally") := He.cls_ok (T.fact 93)
theorem Txt.k_Tally (T : Txt w K mg) : Mk K (He.ga K "Tally") (He.ma K (He.ga K "Tally") "__init__") := He.mkr_ok (T.fact 94)
theorem Txt.n_Tally_cells (T : Txt w K mg) : NoAttr K (He.ga K "Tally") "cells" := He.noat_ok (T.fact 95)
theorem Txt.n_Tally_coins (T : Txt w K mg) : NoAttr K (He.ga K "Tally") "coins" := He.noat_ok (T.fact 96)
theorem Txt.n_Tally_lines (T : Txt w K mg) : NoAttr K (He.ga K "Tally") "lines" := He.noat_ok (T.fact 97)
theorem Txt.g_Vault (T : Txt w K mg) : mg "Vault" = some (.ref (He.ga K "Vault")) := T.glo 98
theorem Txt.c_Vault (T : Txt w K mg) : Cls K (He.ga K "Vault") := He.cls_ok (T.fact 99)
theorem Txt.k_Vault (T : Txt w K mg) : Mk K (He.ga K "Vault") (He.ma K (He.ga K "Vault") "__init__") := He.mkr_ok (T.fact 100)
theorem Txt.m_Vault_sizes (T : Txt w K mg) : Meth K (He.ga K "Vault") "sizes" (He.ma K (He.ga K "Vault") "sizes") := He.meth_ok (T.fact 101)
theorem Txt.m_Vault_first (T : Txt w K mg) : Meth K (He.ga K "Vault") "first" (He.ma K (He.ga K "Vault") "first") := He.meth_ok (T.fact 102)
theorem Txt.m_Vault_names (T : Txt w K mg) : Meth K (He.ga K "Vault") "names" (He.ma K (He.ga K "Vault") "names") := He.meth_ok (T.fact 103)
theorem Txt.m_Vault_choices (T : Txt w K mg) : Meth K (He.ga K "Vault") "choices" (He.ma K (He.ga K "Vault") "choices") := He.meth_ok (T.fact 104)
theorem Txt.m_Vault_rows (T : Txt w K mg) : Meth K (He.ga K "Vault") "rows" (He.ma K (He.ga K "Vault") "rows") := He.meth_ok (T.fact 105)
theorem Txt.m_Vault_calls (T : Txt w K mg) : Meth K (He.ga K "Vault") "calls" (He.ma K (He.ga K "Vault") "calls") := He.meth_ok (T.fact 106)
theorem Txt.m_Vault_has_coins (T : Txt w K mg) : Meth K (He.ga K "Vault") "has_coins" (He.ma K (He.ga K "Vault") "has_coins") := He.meth_ok (T.fact 107)
theorem Txt.m_Vault_shape (T : Txt w K mg) : Meth K (He.ga K "Vault") "shape" (He.ma K (He.ga K "Vault") "shape") := He.meth_ok (T.fact 108)
theorem Txt.m_Vault_starts (T : Txt w K mg) : Meth K (He.ga K "Vault") "starts" (He.ma K (He.ga K "Vault") "starts") := He.meth_ok (T.fact 109)
theorem Txt.m_Vault_deed (T : Txt w K mg) : Meth K (He.ga K "Vault") "_deed" (He.ma K (He.ga K "Vault") "_deed") := He.meth_ok (T.fact 110)
theorem Txt.n_Vault_cells (T : Txt w K mg) : NoAttr K (He.ga K "Vault") "_cells" := He.noat_ok (T.fact 111)
theorem Txt.n_Vault_deeds (T : Txt w K mg) : NoAttr K (He.ga K "Vault") "_deeds" := He.noat_ok (T.fact 112)
theorem Txt.n_Vault_codes (T : Txt w K mg) : NoAttr K (He.ga K "Vault") "_codes" := He.noat_ok (T.fact 113)
theorem Txt.n_Vault_coins (T : Txt w K mg) : NoAttr K (He.ga K "Vault") "_coins" := He.noat_ok (T.fact 114)
theorem Txt.x_CoinsOut (T : Txt w K mg) : PySem.W.excIn K (He.ga K "CoinsOut") He.veBase "ValueError.__new__" = true ∧ PySem.W.keepIn K (.ref (He.ga K "CoinsOut")) = true ∧ PySem.W.subIn K (.ref (He.ga K "CoinsOut")) (.type "BaseException") = some true ∧ PySem.W.typeIn K (.ref (He.ga K "CoinsOut")) = some (.type "type") := He.exc_ok (T.fact 115 (f := .exc "CoinsOut"))
theorem Txt.xm_CoinsOut (T : Txt w K mg) : PySem.W.exmOne K (.ref (He.ga K "CoinsOut")) (.ref (He.ga K "CoinsOut")) = some true := of_decide_eq_true (T.fact 116 (f := .exm "CoinsOut" "CoinsOut" true))
theorem Txt.b_len (T : Txt w K mg) : mg "len" = none := T.fr 117
theorem Txt.b_isinstance (T : Txt w K mg) : mg "isinstance" = none := T.fr 118
theorem Txt.b_int (T : Txt w K mg) : mg "int" = none := T.fr 119
theorem Txt.b_abs (T : Txt w K mg) : mg "abs" = none := T.fr 120
theorem Txt.b_tuple (T : Txt w K mg) : mg "tuple" = none := T.fr 121
theorem Txt.b_list (T : Txt w K mg) : mg "list" = none := T.fr 122
theorem Txt.b_str (T : Txt w K mg) : mg "str" = none := T.fr 123
theorem Txt.b_bool (T : Txt w K mg) : mg "bool" = none := T.fr 124
theorem Txt.b_range (T : Txt w K mg) : mg "range" = none := T.fr 125
theorem Txt.b_zip (T : Txt w K mg) : mg "zip" = none := T.fr 126
theorem Txt.b_enumerate (T : Txt w K mg) : mg "enumerate" = none := T.fr 127
theorem Txt.b_set (T : Txt w K mg) : mg "set" = none := T.fr 128
theorem Txt.b_min (T : Txt w K mg) : mg "min" = none := T.fr 129
theorem Txt.b_max (T : Txt w K mg) : mg "max" = none := T.fr 130
theorem Txt.b_reversed (T : Txt w K mg) : mg "reversed" = none := T.fr 131
theorem Txt.b_sorted (T : Txt w K mg) : mg "sorted" = none := T.fr 132
theorem Txt.b_sum (T : Txt w K mg) : mg "sum" = none := T.fr 133
theorem Txt.b_dict (T : Txt w K mg) : mg "dict" = none := T.fr 134
theorem Txt.i_MOST_CELLS (T : Txt w K mg) : ∃ u, mg "MOST_CELLS" = some u ∧ RelV (.int 6) u := T.int 135
theorem Txt.i_GREATEST_SIZE (T : Txt w K mg) : ∃ u, mg "GREATEST_SIZE" = some u ∧ RelV (.int 9) u := T.int 136
theorem Txt.g_ACTIONS (T : Txt w K mg) : mg "ACTIONS" = some (.ref (He.ga K "ACTIONS")) := T.glo 137
theorem Txt.g_PARTS (T : Txt w K mg) : mg "PARTS" = some (.ref (He.ga K "PARTS")) := T.glo 138
theorem Txt.g_CHANGED (T : Txt w K mg) : mg "CHANGED" = some (.ref (He.ga K "CHANGED")) := T.glo 139
theorem Txt.g_HELD (T : Txt w K mg) : mg "HELD" = some (.ref (He.ga K "HELD")) := T.glo 140
theorem Txt.g_SIGNS (T : Txt w K mg) : mg "SIGNS" = some (.ref (He.ga K "SIGNS")) := T.glo 141
theorem Txt.g_FORMS (T : Txt w K mg) : mg "FORMS" = some (.ref (He.ga K "FORMS")) := T.glo 142
theorem Txt.i_DEEPEST_EXPRESSION (T : Txt w K mg) : ∃ u, mg "DEEPEST_EXPRESSION" = some u ∧ RelV (.int 6) u := T.int 143
theorem Txt.i_DEEPEST_ROW (T : Txt w K mg) : ∃ u, mg "DEEPEST_ROW" = some u ∧ RelV (.int 12) u := T.int 144
theorem Txt.i_DEEPEST_TIMES (T : Txt w K mg) : ∃ u, mg "DEEPEST_TIMES" = some u ∧ RelV (.int 2) u := T.int 145
theorem Txt.i_MOST_COINS (T : Txt w K mg) : ∃ u, mg "MOST_COINS" = some u ∧ RelV (.int 4) u := T.int 146
theorem Txt.i_MOST_ROWS (T : Txt w K mg) : ∃ u, mg "MOST_ROWS" = some u ∧ RelV (.int 2000) u := T.int 147
theorem Txt.i_MOST_DEEDS (T : Txt w K mg) : ∃ u, mg "MOST_DEEDS" = some u ∧ RelV (.int 8) u := T.int 148
theorem Txt.i_LONGEST_NAME (T : Txt w K mg) : ∃ u, mg "LONGEST_NAME" = some u ∧ RelV (.int 8) u := T.int 149
theorem Txt.i_MOST_CHOICES (T : Txt w K mg) : ∃ u, mg "MOST_CHOICES" = some u ∧ RelV (.int 9) u := T.int 150
theorem Txt.f__wall (T : Txt w K mg) : ∃ f, FunD K "_wall" "_wall" (defArgs s__wall) (defBody s__wall) (defScope s__wall) [] [] (He.fAd K ("_wall", none)) f := T.fd 0
theorem Txt.f_NoVault_init (T : Txt w K mg) : ∃ f, FunD K "__init__" "NoVault.__init__" (defArgs s_NoVault_init) (defBody s_NoVault_init) (defScope s_NoVault_init) [] [] (He.fAd K ("NoVault", some "__init__")) f := T.fd 1
theorem Txt.f_NoRow_init (T : Txt w K mg) : ∃ f, FunD K "__init__" "NoRow.__init__" (defArgs s_NoRow_init) (defBody s_NoRow_init) (defScope s_NoRow_init) [] [] (He.fAd K ("NoRow", some "__init__")) f := T.fd 2
theorem Txt.f_is_integer (T : Txt w K mg) : ∃ f, FunD K "is_integer" "is_integer" (defArgs s_is_integer) (defBody s_is_integer) (defScope s_is_integer) [] [] (He.fAd K ("is_integer", none)) f := T.fd 3
theorem Txt.f_is_within (T : Txt w K mg) : ∃ f, FunD K "is_within" "is_within" (defArgs s_is_within) (defBody s_is_within) (defScope s_is_within) [] [] (He.fAd K ("is_within", none)) f := T.fd 4
theorem Txt.f_is_tuple (T : Txt w K mg) : ∃ f, FunD K "is_tuple" "is_tuple" (defArgs s_is_tuple) (defBody s_is_tuple) (defScope s_is_tuple) [] [] (He.fAd K ("is_tuple", none)) f := T.fd 5
theorem Txt.f_is_state (T : Txt w K mg) : ∃ f, FunD K "is_state" "is_state" (defArgs s_is_state) (defBody s_is_state) (defScope s_is_state) [] [] (He.fAd K ("is_state", none)) f := T.fd 6
theorem Txt.f_call_numbers (T : Txt w K mg) : ∃ f, FunD K "call_numbers" "call_numbers" (defArgs s_call_numbers) (defBody s_call_numbers) (defScope s_call_numbers) [] [] (He.fAd K ("call_numbers", none)) f := T.fd 7
theorem Txt.f_call_number (T : Txt w K mg) : ∃ f, FunD K "call_number" "call_number" (defArgs s_call_number) (defBody s_call_number) (defScope s_call_number) [] [] (He.fAd K ("call_number", none)) f := T.fd 8
theorem Txt.f_wrong_item (T : Txt w K mg) : ∃ f, FunD K "wrong_item" "wrong_item" (defArgs s_wrong_item) (defBody s_wrong_item) (defScope s_wrong_item) [] [] (He.fAd K ("wrong_item", none)) f := T.fd 9
theorem Txt.f_check_state (T : Txt w K mg) : ∃ f, FunD K "check_state" "check_state" (defArgs s_check_state) (defBody s_check_state) (defScope s_check_state) [] [] (He.fAd K ("check_state", none)) f := T.fd 10
theorem Txt.f_check_row (T : Txt w K mg) : ∃ f, FunD K "check_row" "check_row" (defArgs s_check_row) (defBody s_check_row) (defScope s_check_row) [] [] (He.fAd K ("check_row", none)) f := T.fd 11
theorem Txt.f_Run_init (T : Txt w K mg) : ∃ f, FunD K "__init__" "Run.__init__" (defArgs s_Run_init) (defBody s_Run_init) (defScope s_Run_init) [] [] (He.fAd K ("Run", some "__init__")) f := T.fd 12
theorem Txt.f_value_of (T : Txt w K mg) : ∃ f, FunD K "value_of" "value_of" (defArgs s_value_of) (defBody s_value_of) (defScope s_value_of) [] [] (He.fAd K ("value_of", none)) f := T.fd 13
theorem Txt.f_do_read (T : Txt w K mg) : ∃ f, FunD K "do_read" "do_read" (defArgs s_do_read) (defBody s_do_read) (defScope s_do_read) [] [] (He.fAd K ("do_read", none)) f := T.fd 14
theorem Txt.f_do_set (T : Txt w K mg) : ∃ f, FunD K "do_set" "do_set" (defArgs s_do_set) (defBody s_do_set) (defScope s_do_set) [] [] (He.fAd K ("do_set", none)) f := T.fd 15
theorem Txt.f_do_swap (T : Txt w K mg) : ∃ f, FunD K "do_swap" "do_swap" (defArgs s_do_swap) (defBody s_do_swap) (defScope s_do_swap) [] [] (He.fAd K ("do_swap", none)) f := T.fd 16
theorem Txt.f_do_keep (T : Txt w K mg) : ∃ f, FunD K "do_keep" "do_keep" (defArgs s_do_keep) (defBody s_do_keep) (defScope s_do_keep) [] [] (He.fAd K ("do_keep", none)) f := T.fd 17
theorem Txt.f_do_coin (T : Txt w K mg) : ∃ f, FunD K "do_coin" "do_coin" (defArgs s_do_coin) (defBody s_do_coin) (defScope s_do_coin) [] [] (He.fAd K ("do_coin", none)) f := T.fd 18
theorem Txt.f_do_answer (T : Txt w K mg) : ∃ f, FunD K "do_answer" "do_answer" (defArgs s_do_answer) (defBody s_do_answer) (defScope s_do_answer) [] [] (He.fAd K ("do_answer", none)) f := T.fd 19
theorem Txt.f_do_unless (T : Txt w K mg) : ∃ f, FunD K "do_unless" "do_unless" (defArgs s_do_unless) (defBody s_do_unless) (defScope s_do_unless) [] [] (He.fAd K ("do_unless", none)) f := T.fd 20
theorem Txt.f_do_on (T : Txt w K mg) : ∃ f, FunD K "do_on" "do_on" (defArgs s_do_on) (defBody s_do_on) (defScope s_do_on) [] [] (He.fAd K ("do_on", none)) f := T.fd 21
theorem Txt.f_do_rounds (T : Txt w K mg) : ∃ f, FunD K "do_rounds" "do_rounds" (defArgs s_do_rounds) (defBody s_do_rounds) (defScope s_do_rounds) [] [] (He.fAd K ("do_rounds", none)) f := T.fd 22
theorem Txt.f_do_round (T : Txt w K mg) : ∃ f, FunD K "do_round" "do_round" (defArgs s_do_round) (defBody s_do_round) (defScope s_do_round) [] [] (He.fAd K ("do_round", none)) f := T.fd 23
theorem Txt.f_finish (T : Txt w K mg) : ∃ f, FunD K "finish" "finish" (defArgs s_finish) (defBody s_finish) (defScope s_finish) [] [] (He.fAd K ("finish", none)) f := T.fd 24
theorem Txt.f_ways_from (T : Txt w K mg) : ∃ f, FunD K "ways_from" "ways_from" (defArgs s_ways_from) (defBody s_ways_from) (defScope s_ways_from) [] [] (He.fAd K ("ways_from", none)) f := T.fd 25
theorem Txt.f_lowest (T : Txt w K mg) : ∃ f, FunD K "lowest" "lowest" (defArgs s_lowest) (defBody s_lowest) (defScope s_lowest) [] [] (He.fAd K ("lowest", none)) f := T.fd 26
theorem Txt.f_moved (T : Txt w K mg) : ∃ f, FunD K "moved" "moved" (defArgs s_moved) (defBody s_moved) (defScope s_moved) [] [] (He.fAd K ("moved", none)) f := T.fd 27
theorem Txt.f_chances (T : Txt w K mg) : ∃ f, FunD K "chances" "chances" (defArgs s_chances) (defBody s_chances) (defScope s_chances) [] [] (He.fAd K ("chances", none)) f := T.fd 28
theorem Txt.f_Moves_init (T : Txt w K mg) : ∃ f, FunD K "__init__" "Moves.__init__" (defArgs s_Moves_init) (defBody s_Moves_init) (defScope s_Moves_init) [] [] (He.fAd K ("Moves", some "__init__")) f := T.fd 29
theorem Txt.f_Moves_ways (T : Txt w K mg) : ∃ f, FunD K "ways" "Moves.ways" (defArgs s_Moves_ways) (defBody s_Moves_ways) (defScope s_Moves_ways) [] [] (He.fAd K ("Moves", some "ways")) f := T.fd 30
theorem Txt.f_share (T : Txt w K mg) : ∃ f, FunD K "share" "share" (defArgs s_share) (defBody s_share) (defScope s_share) [] [] (He.fAd K ("share", none)) f := T.fd 31
theorem Txt.f_weights_behind (T : Txt w K mg) : ∃ f, FunD K "weights_behind" "weights_behind" (defArgs s_weights_behind) (defBody s_weights_behind) (defScope s_weights_behind) [] [] (He.fAd K ("weights_behind", none)) f := T.fd 32
theorem Txt.f_Tally_init (T : Txt w K mg) : ∃ f, FunD K "__init__" "Tally.__init__" (defArgs s_Tally_init) (defBody s_Tally_init) (defScope s_Tally_init) [] [] (He.fAd K ("Tally", some "__init__")) f := T.fd 33
theorem Txt.f_is_expression (T : Txt w K mg) : ∃ f, FunD K "is_expression" "is_expression" (defArgs s_is_expression) (defBody s_is_expression) (defScope s_is_expression) [] [] (He.fAd K ("is_expression", none)) f := T.fd 34
theorem Txt.f_is_part (T : Txt w K mg) : ∃ f, FunD K "is_part" "is_part" (defArgs s_is_part) (defBody s_is_part) (defScope s_is_part) [] [] (He.fAd K ("is_part", none)) f := T.fd 35
theorem Txt.f_is_body_row (T : Txt w K mg) : ∃ f, FunD K "is_body_row" "is_body_row" (defArgs s_is_body_row) (defBody s_is_body_row) (defScope s_is_body_row) [] [] (He.fAd K ("is_body_row", none)) f := T.fd 36
theorem Txt.f_are_body_rows (T : Txt w K mg) : ∃ f, FunD K "are_body_rows" "are_body_rows" (defArgs s_are_body_rows) (defBody s_are_body_rows) (defScope s_are_body_rows) [] [] (He.fAd K ("are_body_rows", none)) f := T.fd 37
theorem Txt.f_is_body (T : Txt w K mg) : ∃ f, FunD K "is_body" "is_body" (defArgs s_is_body) (defBody s_is_body) (defScope s_is_body) [] [] (He.fAd K ("is_body", none)) f := T.fd 38
theorem Txt.f_code_of (T : Txt w K mg) : ∃ f, FunD K "code_of" "code_of" (defArgs s_code_of) (defBody s_code_of) (defScope s_code_of) [] [] (He.fAd K ("code_of", none)) f := T.fd 39
theorem Txt.f_put_rows (T : Txt w K mg) : ∃ f, FunD K "put_rows" "put_rows" (defArgs s_put_rows) (defBody s_put_rows) (defScope s_put_rows) [] [] (He.fAd K ("put_rows", none)) f := T.fd 40
theorem Txt.f_put_if (T : Txt w K mg) : ∃ f, FunD K "put_if" "put_if" (defArgs s_put_if) (defBody s_put_if) (defScope s_put_if) [] [] (He.fAd K ("put_if", none)) f := T.fd 41
theorem Txt.f_put_times (T : Txt w K mg) : ∃ f, FunD K "put_times" "put_times" (defArgs s_put_times) (defBody s_put_times) (defScope s_put_times) [] [] (He.fAd K ("put_times", none)) f := T.fd 42
theorem Txt.f_Vault_init (T : Txt w K mg) : ∃ f, FunD K "__init__" "Vault.__init__" (defArgs s_Vault_init) (defBody s_Vault_init) (defScope s_Vault_init) [] [] (He.fAd K ("Vault", some "__init__")) f := T.fd 43
theorem Txt.f_Vault_sizes (T : Txt w K mg) : ∃ f, FunD K "sizes" "Vault.sizes" (defArgs s_Vault_sizes) (defBody s_Vault_sizes) (defScope s_Vault_sizes) [] [] (He.fAd K ("Vault", some "sizes")) f := T.fd 44
theorem Txt.f_Vault_first (T : Txt w K mg) : ∃ f, FunD K "first" "Vault.first" (defArgs s_Vault_first) (defBody s_Vault_first) (defScope s_Vault_first) [] [] (He.fAd K ("Vault", some "first")) f := T.fd 45
theorem Txt.f_Vault_names (T : Txt w K mg) : ∃ f, FunD K "names" "Vault.names" (defArgs s_Vault_names) (defBody s_Vault_names) (defScope s_Vault_names) [] [] (He.fAd K ("Vault", some "names")) f := T.fd 46
theorem Txt.f_Vault_choices (T : Txt w K mg) : ∃ f, FunD K "choices" "Vault.choices" (defArgs s_Vault_choices) (defBody s_Vault_choices) (defScope s_Vault_choices) [] [] (He.fAd K ("Vault", some "choices")) f := T.fd 47
theorem Txt.f_Vault_rows (T : Txt w K mg) : ∃ f, FunD K "rows" "Vault.rows" (defArgs s_Vault_rows) (defBody s_Vault_rows) (defScope s_Vault_rows) [] [] (He.fAd K ("Vault", some "rows")) f := T.fd 48
theorem Txt.f_Vault_calls (T : Txt w K mg) : ∃ f, FunD K "calls" "Vault.calls" (defArgs s_Vault_calls) (defBody s_Vault_calls) (defScope s_Vault_calls) [] [] (He.fAd K ("Vault", some "calls")) f := T.fd 49
theorem Txt.f_Vault_has_coins (T : Txt w K mg) : ∃ f, FunD K "has_coins" "Vault.has_coins" (defArgs s_Vault_has_coins) (defBody s_Vault_has_coins) (defScope s_Vault_has_coins) [] [] (He.fAd K ("Vault", some "has_coins")) f := T.fd 50
theorem Txt.f_Vault_shape (T : Txt w K mg) : ∃ f, FunD K "shape" "Vault.shape" (defArgs s_Vault_shape) (defBody s_Vault_shape) (defScope s_Vault_shape) [] [] (He.fAd K ("Vault", some "shape")) f := T.fd 51
theorem Txt.f_Vault_starts (T : Txt w K mg) : ∃ f, FunD K "starts" "Vault.starts" (defArgs s_Vault_starts) (defBody s_Vault_starts) (defScope s_Vault_starts) [] [] (He.fAd K ("Vault", some "starts")) f := T.fd 52
theorem Txt.f_Vault_deed (T : Txt w K mg) : ∃ f, FunD K "_deed" "Vault._deed" (defArgs s_Vault_deed) (defBody s_Vault_deed) (defScope s_Vault_deed) [] [] (He.fAd K ("Vault", some "_deed")) f := T.fd 53
theorem Txt.f_Vault_eq (T : Txt w K mg) : ∃ f, FunD K "__eq__" "Vault.__eq__" (defArgs s_Vault_eq) (defBody s_Vault_eq) (defScope s_Vault_eq) [] [] (He.fAd K ("Vault", some "__eq__")) f := T.fd 54
theorem Txt.f_has_row (T : Txt w K mg) : ∃ f, FunD K "has_row" "has_row" (defArgs s_has_row) (defBody s_has_row) (defScope s_has_row) [] [] (He.fAd K ("has_row", none)) f := T.fd 55
theorem Txt.f_is_cell (T : Txt w K mg) : ∃ f, FunD K "is_cell" "is_cell" (defArgs s_is_cell) (defBody s_is_cell) (defScope s_is_cell) [] [] (He.fAd K ("is_cell", none)) f := T.fd 56
theorem Txt.f_are_cells (T : Txt w K mg) : ∃ f, FunD K "are_cells" "are_cells" (defArgs s_are_cells) (defBody s_are_cells) (defScope s_are_cells) [] [] (He.fAd K ("are_cells", none)) f := T.fd 57
theorem Txt.f_is_name (T : Txt w K mg) : ∃ f, FunD K "is_name" "is_name" (defArgs s_is_name) (defBody s_is_name) (defScope s_is_name) [] [] (He.fAd K ("is_name", none)) f := T.fd 58
theorem Txt.f_is_deed_head (T : Txt w K mg) : ∃ f, FunD K "is_deed_head" "is_deed_head" (defArgs s_is_deed_head) (defBody s_is_deed_head) (defScope s_is_deed_head) [] [] (He.fAd K ("is_deed_head", none)) f := T.fd 59
theorem Txt.f_is_deed (T : Txt w K mg) : ∃ f, FunD K "is_deed" "is_deed" (defArgs s_is_deed) (defBody s_is_deed) (defScope s_is_deed) [] [] (He.fAd K ("is_deed", none)) f := T.fd 60
theorem Txt.f_are_deeds (T : Txt w K mg) : ∃ f, FunD K "are_deeds" "are_deeds" (defArgs s_are_deeds) (defBody s_are_deeds) (defScope s_are_deeds) [] [] (He.fAd K ("are_deeds", none)) f := T.fd 61
theorem Txt.f_begun (T : Txt w K mg) : ∃ f, FunD K "begun" "begun" (defArgs s_begun) (defBody s_begun) (defScope s_begun) [] [] (He.fAd K ("begun", none)) f := T.fd 62
theorem Txt.f_l_pool (T : Txt w K mg) : ∃ f, FunD K "_law_pool" "_law_pool" (defArgs s_l_pool) (defBody s_l_pool) (defScope s_l_pool) [] [] (He.fAd K ("_law_pool", none)) f := T.fd 63
theorem Txt.f_l_draw (T : Txt w K mg) : ∃ f, FunD K "_law_draw" "_law_draw" (defArgs s_l_draw) (defBody s_l_draw) (defScope s_l_draw) [] [] (He.fAd K ("_law_draw", none)) f := T.fd 64
theorem Txt.f_l_cells (T : Txt w K mg) : ∃ f, FunD K "_law_cells" "_law_cells" (defArgs s_l_cells) (defBody s_l_cells) (defScope s_l_cells) [] [] (He.fAd K ("_law_cells", none)) f := T.fd 65
theorem Txt.f_l_e (T : Txt w K mg) : ∃ f, FunD K "_law_e" "_law_e" (defArgs s_l_e) (defBody s_l_e) (defScope s_l_e) [] [] (He.fAd K ("_law_e", none)) f := T.fd 66
theorem Txt.f_l_rows (T : Txt w K mg) : ∃ f, FunD K "_law_rows" "_law_rows" (defArgs s_l_rows) (defBody s_l_rows) (defScope s_l_rows) [] [] (He.fAd K ("_law_rows", none)) f := T.fd 67
theorem Txt.f_l_body (T : Txt w K mg) : ∃ f, FunD K "_law_body" "_law_body" (defArgs s_l_body) (defBody s_l_body) (defScope s_l_body) [] [] (He.fAd K ("_law_body", none)) f := T.fd 68
theorem Txt.f_l_deeds (T : Txt w K mg) : ∃ f, FunD K "_law_deeds" "_law_deeds" (defArgs s_l_deeds) (defBody s_l_deeds) (defScope s_l_deeds) [] [] (He.fAd K ("_law_deeds", none)) f := T.fd 69
theorem Txt.f_l_calls (T : Txt w K mg) : ∃ f, FunD K "_law_calls" "_law_calls" (defArgs s_l_calls) (defBody s_l_calls) (defScope s_l_calls) [] [] (He.fAd K ("_law_calls", none)) f := T.fd 70
theorem Txt.f_l_row (T : Txt w K mg) : ∃ f, FunD K "_law_row" "_law_row" (defArgs s_l_row) (defBody s_l_row) (defScope s_l_row) [] [] (He.fAd K ("_law_row", none)) f := T.fd 71
theorem Txt.f_l_value (T : Txt w K mg) : ∃ f, FunD K "_law_value" "_law_value" (defArgs s_l_value) (defBody s_l_value) (defScope s_l_value) [] [] (He.fAd K ("_law_value", none)) f := T.fd 72
theorem Txt.f_l_step (T : Txt w K mg) : ∃ f, FunD K "_law_step" "_law_step" (defArgs s_l_step) (defBody s_l_step) (defScope s_l_step) [] [] (He.fAd K ("_law_step", none)) f := T.fd 73
theorem Txt.f_l_do (T : Txt w K mg) : ∃ f, FunD K "_law_do" "_law_do" (defArgs s_l_do) (defBody s_l_do) (defScope s_l_do) [] [] (He.fAd K ("_law_do", none)) f := T.fd 74
theorem Txt.f_l_call (T : Txt w K mg) : ∃ f, FunD K "_law_call" "_law_call" (defArgs s_l_call) (defBody s_l_call) (defScope s_l_call) [] [] (He.fAd K ("_law_call", none)) f := T.fd 75
theorem Txt.f_l_outs (T : Txt w K mg) : ∃ f, FunD K "_law_outs" "_law_outs" (defArgs s_l_outs) (defBody s_l_outs) (defScope s_l_outs) [] [] (He.fAd K ("_law_outs", none)) f := T.fd 76
theorem Txt.f_l_good_int (T : Txt w K mg) : ∃ f, FunD K "_law_good_int" "_law_good_int" (defArgs s_l_good_int) (defBody s_l_good_int) (defScope s_l_good_int) [] [] (He.fAd K ("_law_good_int", none)) f := T.fd 77
theorem Txt.f_l_coin_tree (T : Txt w K mg) : ∃ f, FunD K "_law_coin_tree" "_law_coin_tree" (defArgs s_l_coin_tree) (defBody s_l_coin_tree) (defScope s_l_coin_tree) [] [] (He.fAd K ("_law_coin_tree", none)) f := T.fd 78
theorem Txt.f_l_coin_vault (T : Txt w K mg) : ∃ f, FunD K "_law_coin_vault" "_law_coin_vault" (defArgs s_l_coin_vault) (defBody s_l_coin_vault) (defScope s_l_coin_vault) [] [] (He.fAd K ("_law_coin_vault", none)) f := T.fd 79
theorem Txt.f_l_weights (T : Txt w K mg) : ∃ f, FunD K "_law_weights" "_law_weights" (defArgs s_l_weights) (defBody s_l_weights) (defScope s_l_weights) [] [] (He.fAd K ("_law_weights", none)) f := T.fd 80
theorem Txt.f_l_fraction (T : Txt w K mg) : ∃ f, FunD K "_law_fraction" "_law_fraction" (defArgs s_l_fraction) (defBody s_l_fraction) (defScope s_l_fraction) [] [] (He.fAd K ("_law_fraction", none)) f := T.fd 81
theorem Txt.f_l_right (T : Txt w K mg) : ∃ f, FunD K "_law_right" "_law_right" (defArgs s_l_right) (defBody s_l_right) (defScope s_l_right) [] [] (He.fAd K ("_law_right", none)) f := T.fd 82
theorem Txt.f_l_good_ints (T : Txt w K mg) : ∃ f, FunD K "_law_good_ints" "_law_good_ints" (defArgs s_l_good_ints) (defBody s_l_good_ints) (defScope s_l_good_ints) [] [] (He.fAd K ("_law_good_ints", none)) f := T.fd 83
theorem Txt.f_l_mixed (T : Txt w K mg) : ∃ f, FunD K "_law_mixed" "_law_mixed" (defArgs s_l_mixed) (defBody s_l_mixed) (defScope s_l_mixed) [] [] (He.fAd K ("_law_mixed", none)) f := T.fd 84
theorem Txt.f_law (T : Txt w K mg) : ∃ f, FunD K "law" "law" (defArgs s_law) (defBody s_law) (defScope s_law) [] [] (He.fAd K ("law", none)) f := T.fd 85
theorem Txt.e_ACTIONS (T : Txt w K mg) : He.valsB K (He.ga K "ACTIONS") [("read", .glo "do_read"), ("set", .glo "do_set"), ("swap", .glo "do_swap"), ("keep", .glo "do_keep"), ("coin", .glo "do_coin"), ("answer", .glo "do_answer"), ("unless", .glo "do_unless"), ("on", .glo "do_on"), ("rounds", .glo "do_rounds"), ("round", .glo "do_round")] = true := (He.ba T.ex).1
theorem Txt.e_PARTS (T : Txt w K mg) : He.tupB K "PARTS" [.int 16, .int 8, .int 4, .int 2, .int 1] = true := (He.ba (He.ba T.ex).2).1
theorem Txt.e_CHANGED (T : Txt w K mg) : He.tupB K "CHANGED" [.str "a", .str "b", .str "c", .str "d"] = true := (He.ba (He.ba (He.ba T.ex).2).2).1
theorem Txt.e_HELD (T : Txt w K mg) : He.tupB K "HELD" [.str "a", .str "b", .str "c", .str "d", .str "x"] = true := (He.ba (He.ba (He.ba (He.ba T.ex).2).2).2).1
theorem Txt.e_SIGNS (T : Txt w K mg) : He.tupB K "SIGNS" [.str "+", .str "-", .str "*", .str "=", .str "<"] = true := (He.ba (He.ba (He.ba (He.ba (He.ba T.ex).2).2).2).2).1
theorem Txt.e_FORMS (T : Txt w K mg) : formsB K (He.ga K "FORMS") [("read", ["REG", "CELL"]), ("set", ["CELL", "E"]), ("swap", ["REG", "CELL", "E", "E"]), ("keep", ["REG", "E"]), ("coin", ["REG"]), ("if", ["E", "ROWS", "ROWS"]), ("times", ["E", "ROWS"]), ("answer", ["E"])] = true := (He.ba (He.ba (He.ba (He.ba (He.ba (He.ba T.ex).2).2).2).2).2).1
theorem Txt.e_gcd (T : Txt w K mg) : bltB K "gcd" "math.gcd" = true := (He.ba (He.ba (He.ba (He.ba (He.ba (He.ba T.ex).2).2).2).2).2).2
theorem Txt.blt_gcd (T : Txt w K mg) : mg "gcd" = some (.builtin "math.gcd") := by
  obtain ⟨_, X, G⟩ := T.X
  exact PySem.W.mg_of X G (He.eqO_ok T.e_gcd)
theorem Txt.t_ACTIONS (T : Txt w K mg) : ∃ es n, KDict K w (He.ga K "ACTIONS") es n := T.tab 0
theorem Txt.t_FORMS (T : Txt w K mg) : ∃ es n, KDict K w (He.ga K "FORMS") es n := T.tab 1
end
end M

set_option Elab.async false
set_option linter.all false
set_option maxRecDepth 100000
set_option maxHeartbeats 2000000
namespace M
open PySem PySem.Spec PyProof.Rows L2
/-! ### defs by their names, what they promise -/
/-- the global name x holds a def that keeps sp at level k -/
structure Ca (P : Program) (w : World) (K : PySem.W.Frag) (mg : Str → Option Value) (base : Heap) (k : Nat) (x : Str) (sp : Sp) : Prop where
  ex : ∃ (f : Addr) (fd : FuncData) (ps : List Str), FnOk P w K mg base CX0 k f fd ps sp ∧ mg x = some (.ref f) ∧ PySem.W.keepIn K (.ref f) = true ∧ Binds K fd ps []
/-- a method of the class C -/
structure Me (P : Program) (w : World) (K : PySem.W.Frag) (mg : Str → Option Value) (base : Heap) (k : Nat) (C : Addr) (m : Str) (sp : Sp) : Prop where
  ex : ∃ (f : Addr) (fd : FuncData) (ps : List Str), Cls K C ∧ Meth K C m f ∧ FnOk P w K mg base CX0 k f fd ps sp ∧ Binds K fd ps []
/-- the class x is made by its __init__ -/
structure Ma (P : Program) (w : World) (K : PySem.W.Frag) (mg : Str → Option Value) (base : Heap) (k : Nat) (x : Str) (C : Addr) (sp : Sp) : Prop where
  ex : ∃ (f : Addr) (fd : FuncData) (ps : List Str), Mk K C f ∧ FnOk P w K mg base CX0 k f fd ps sp ∧ mg x = some (.ref C) ∧ Binds K fd ps []
section
variable {P : Program} {w : World} {K : PySem.W.Frag} {mg : Str → Option Value} {base : Heap} {x m q : Str} {st : Stmt} {N ps : List Str} {k : Nat} {sp : Sp} {C f : Addr}
abbrev BindsH (x q : Str) (st : Stmt) (ps : List Str) : Prop := ∀ (kV doc pm : Value) (an : Option Addr) (cdv ct : Value) (us : List Value), us.length = ps.length → bindArgs (PySem.W.fnOf x q (defArgs st) (defBody st) (defScope st) .none kV doc pm an cdv ct) ⟨us, []⟩ = pure (ps.zip us)
abbrev BodyH (P : Program) (w : World) (K : PySem.W.Frag) (mg : Str → Option Value) (base : Heap) (q : Str) (st : Stmt) (N : List Str) (k : Nat) (f : Addr) (sp : Sp) : Prop := ∀ (cdv : Value) (A : Around) (outer : List Env) (s : Shared) (H : Hp) (vs : List V) (Q : VK) (E : XK), Room k (A.deeper (envOfC q (defScope st) s.heap.objs.size f cdv)) → sp vs H Q E →
      ∃ t, PSs (cxOf CX0 P w K mg base N q (defScope st) f cdv A outer s H E).nox (defBody st) t ∧ t { nx := fun _ H' => Q .non H', rt := Q } (start N vs) H
theorem fn_d {fd : FuncData} (F : FunD K x q (defArgs st) (defBody st) (defScope st) [] [] f fd) (S : FnScope N ps (defScope st)) (len : ∀ vs H Q E, sp vs H Q E → vs.length = ps.length)
    (hbody : BodyH P w K mg base q st N k f sp) : FnOk P w K mg base CX0 (k + 1) f fd ps sp := by
  refine F.ok S len (fun cdv A outer s H vs Q E hr h => ?_)
  obtain ⟨t, h1, h2⟩ := hbody cdv A outer s H vs Q E hr h
  exact ⟨t, h1.nox, h2⟩
theorem ca_of (F : ∃ fd, FunD K x x (defArgs st) (defBody st) (defScope st) [] [] (He.fAd K (x, none)) fd) (g : mg x = some (.ref (He.ga K x))) (S : FnScope N ps (defScope st)) (hb : BindsH x x st ps) (len : ∀ vs H Q E, sp vs H Q E → vs.length = ps.length)
    (hbody : BodyH P w K mg base x st N k (He.fAd K (x, none)) sp) : Ca P w K mg base (k + 1) x sp := by
  obtain ⟨fd, F⟩ := F
  exact ⟨_, fd, ps, fn_d F S len hbody, g, F.kp, F.bindsN hb⟩
theorem me_of {C : Str} (F : ∃ fd, FunD K m q (defArgs st) (defBody st) (defScope st) [] [] (He.fAd K (C, some m)) fd) (c : Cls K (He.ga K C)) (g : Meth K (He.ga K C) m (He.ma K (He.ga K C) m)) (S : FnScope N ps (defScope st)) (hb : BindsH m q st ps) (len : ∀ vs H Q E, sp vs H Q E → vs.length = ps.length)
    (hbody : BodyH P w K mg base q st N k (He.fAd K (C, some m)) sp) : Me P w K mg base (k + 1) (He.ga K C) m sp := by
  obtain ⟨fd, F⟩ := F
  exact ⟨_, fd, ps, c, g, fn_d F S len hbody, F.bindsN hb⟩
theorem ma_of {C : Str} (F : ∃ fd, FunD K "__init__" q (defArgs st) (defBody st) (defScope st) [] [] (He.fAd K (C, some "__init__")) fd) (g : mg C = some (.ref (He.ga K C))) (mk : Mk K (He.ga K C) (He.ma K (He.ga K C) "__init__")) (S : FnScope N ps (defScope st)) (hb : BindsH "__init__" q st ps) (len : ∀ vs H Q E, sp vs H Q E → vs.length = ps.length)
    (hbody : BodyH P w K mg base q st N k (He.fAd K (C, some "__init__")) sp) : Ma P w K mg base (k + 1) C (He.ga K C) sp := by
  obtain ⟨fd, F⟩ := F
  exact ⟨_, fd, ps, mk, fn_d F S len hbody, g, F.bindsN hb⟩
theorem Ca.mono {j : Nat} (c : Ca P w K mg base j x sp) (h : j ≤ k) : Ca P w K mg base k x sp := by
  obtain ⟨f, fd, ps, F, r⟩ := c.ex
  exact ⟨f, fd, ps, F.mono h, r⟩
end
section
variable {X : Cx} {k j : Nat} {x m : Str} {sp : Sp} {C : Addr} {p pos apos : Pos} {e o : Expr} {es : List Expr} {t : TA} {ta : TE}
theorem pe_ca (c : Ca X.prog X.w X.K X.mg X.base k x sp) (hr : Room j X.A) (ha : PA X (e :: es) t) (hk : k ≤ j := by decide) (hg : Gl X x := by rfl)
    (hdb : (x == ("__debug__" : Str)) = false := by decide) (he : starEach (e :: es) X.env = (false, eval e X.env) :: starEach es X.env := by rfl) (hpl : (backTo pos (starEach es X.env)).any (·.1) = false := by rfl) :
    PE X (.Call (.Name x p) (e :: es) [] pos) (tCall sp [] E0 t) := by
  obtain ⟨f, fd, ps, F, hm, kp, b⟩ := c.ex
  exact pe_call F (hr.mono hk) hg hm kp b .nil pass0 ha hdb he hpl
theorem pe_ma (c : Ma X.prog X.w X.K X.mg X.base k x C sp) (hr : Room j X.A) (ha : PA X (e :: es) t) (hk : k + 1 ≤ j := by decide) (hg : Gl X x := by rfl)
    (hdb : (x == ("__debug__" : Str)) = false := by decide) (he : starEach (e :: es) X.env = (false, eval e X.env) :: starEach es X.env := by rfl) (hpl : (backTo pos (starEach es X.env)).any (·.1) = false := by rfl) :
    PE X (.Call (.Name x p) (e :: es) [] pos) (tMake C sp [] E0 t) := by
  obtain ⟨f, fd, ps, M, F, hm, b⟩ := c.ex
  exact pe_make M F (hr.mono hk) hg hm b .nil pass0 ha hdb he hpl
theorem pe_me0 {pl : Sem Bool} (c : Me X.prog X.w X.K X.mg X.base k C m sp) (hr : Room j X.A) (he : PE X o ta) (hk : k ≤ j := by decide)
    (ht : eval (.Call (.Attribute o m apos) [] [] pos) X.env = (do
      let ov ← eval o X.env
      standAt apos.atName
      let (f, first) ← holding [ov] (getMethod ov m pl)
      callWith pos f first (backTo pos (starEach [] X.env)) (backToKw pos (keywordEach [] X.env))) := by rfl) :
    PE X (.Call (.Attribute o m apos) [] [] pos) (tMeth C m sp [] E0 ta tNil) := by
  obtain ⟨f, fd, ps, hc, hm, F, b⟩ := c.ex
  exact pe_meth0 (pl := pl) he hc hm F (hr.mono hk) b .nil pass0 ht
theorem pe_me {pl : Sem Bool} (c : Me X.prog X.w X.K X.mg X.base k C m sp) (hr : Room j X.A) (he : PE X o ta) (ha : PA X (e :: es) t) (hk : k ≤ j := by decide)
    (hst : starEach (e :: es) X.env = (false, eval e X.env) :: starEach es X.env := by rfl) (hpl : (backTo pos (starEach es X.env)).any (·.1) = false := by rfl)
    (ht : eval (.Call (.Attribute o m apos) (e :: es) [] pos) X.env = (do
      let ov ← eval o X.env
      standAt apos.atName
      let (f, first) ← holding [ov] (getMethod ov m pl)
      callWith pos f first (backTo pos (starEach (e :: es) X.env)) (backToKw pos (keywordEach [] X.env))) := by rfl) :
    PE X (.Call (.Attribute o m apos) (e :: es) [] pos) (tMeth C m sp [] E0 ta t) := by
  obtain ⟨f, fd, ps, hc, hm, F, b⟩ := c.ex
  exact pe_meth (pl := pl) he hc hm F (hr.mono hk) b .nil pass0 ha hst hpl ht
/-- isinstance(a, b) -/
theorem pe_isi {a b : Expr} {ta tb : TE} (h : X.mg "isinstance" = none) (ha : PE X a ta) (hb : PE X b tb) (hg : Gl X "isinstance" := by rfl)
    (he : starEach [a, b] X.env = (false, eval a X.env) :: starEach [b] X.env := by rfl) (hpl : (backTo pos (starEach [b] X.env)).any (·.1) = false := by rfl)
    (he2 : starEach [b] X.env = (false, eval b X.env) :: starEach [] X.env := by rfl) :
    PE X (.Call (.Name "isinstance" p) [a, b] [] pos) (tCB (rIsi X.K) (tCons ta (tCons tb tNil))) :=
  pe_callB call_isi hg h boot_isinstance (pa_cons ha (pa_cons hb pa_nil he2) he) (he := he) (hpl := hpl)
/-- a built-in class as a value -/
theorem pe_ty {n : String} {x : Str} (h : X.mg x = none) (hv : bootBuiltins x = some (.type n)) (hg : Gl X x := by rfl) (hn : x ≠ "__name__" := by decide) (hd : (x == ("__debug__" : Str)) = false := by decide) : PE X (.Name x pos) (tC (.ty n)) := pe_bltn hg h hv rfl hn hd
theorem pe_gi {n : Int} {x : Str} (h : ∃ u, X.mg x = some u ∧ RelV (.int n) u) (hg : Gl X x := by rfl) (hd : (x == ("__debug__" : Str)) = false := by decide) : PE X (.Name x pos) (tC (.int n)) := by
  obtain ⟨u, hm, r⟩ := h
  exact pe_glob hg hm r hd
theorem pe_gr {x : Str} {a : Addr} (h : X.mg x = some (.ref a)) (hg : Gl X x := by rfl) (hd : (x == ("__debug__" : Str)) = false := by decide) : PE X (.Name x pos) (tC (.ref a)) := pe_glob hg h rfl hd
end
section
variable {X : Cx} {i j k : Nat} {x y z : Str} {p1 p2 p3 pos : Pos} {n : Nat}
/-- a, b as a target -/
theorem pg_two (K : PySem.W.Frag) (i j : Nat) (hK : X.K = K) (hc : X.calm = true) (nd : X.N.Nodup) (hi : X.N[i]? = some x) (hj : X.N[j]? = some y) (hx : Loc X.env.scope x) (hy : Loc X.env.scope y)
    (fx : X.fn x = true ∨ X.env.scope.names.lookup x = some .local) (fy : X.fn y = true ∨ X.env.scope.names.lookup y = some .local) :
    PG X (.Tuple [.Name x p1, .Name y p2] n pos) (gTup K 2 (gCons (gName i) (gCons (gName j) gNil))) := hK ▸
  pg_tup hc (pgs_cons (pg_name nd hi hx fx) (pgs_cons (pg_name nd hj hy fy) pgs_nil))
/-- a, b, c as a target -/
theorem pg_three (K : PySem.W.Frag) (i j k : Nat) (hK : X.K = K) (hc : X.calm = true) (nd : X.N.Nodup) (hi : X.N[i]? = some x) (hj : X.N[j]? = some y) (hk : X.N[k]? = some z) (hx : Loc X.env.scope x) (hy : Loc X.env.scope y) (hz : Loc X.env.scope z)
    (fx : X.fn x = true ∨ X.env.scope.names.lookup x = some .local) (fy : X.fn y = true ∨ X.env.scope.names.lookup y = some .local) (fz : X.fn z = true ∨ X.env.scope.names.lookup z = some .local) :
    PG X (.Tuple [.Name x p1, .Name y p2, .Name z p3] n pos) (gTup K 3 (gCons (gName i) (gCons (gName j) (gCons (gName k) gNil)))) := hK ▸
  pg_tup hc (pgs_cons (pg_name nd hi hx fx) (pgs_cons (pg_name nd hj hy fy) (pgs_cons (pg_name nd hk hz fz) pgs_nil)))
end
theorem boot_int : bootBuiltins "int" = some (.type "int") := by decide +kernel
theorem boot_bool : bootBuiltins "bool" = some (.type "bool") := by decide +kernel
theorem boot_str : bootBuiltins "str" = some (.type "str") := by decide +kernel
theorem boot_list : bootBuiltins "list" = some (.type "list") := by decide +kernel
theorem boot_tuple : bootBuiltins "tuple" = some (.type "tuple") := by decide +kernel
theorem boot_abs : bootBuiltins "abs" = some (.builtin "abs") := by decide +kernel
theorem boot_max : bootBuiltins "max" = some (.builtin "max") := by decide +kernel
theorem boot_min : bootBuiltins "min" = some (.builtin "min") := by decide +kernel
theorem boot_set : bootBuiltins "set" = some (.type "set") := by decide +kernel
/-! ### kinds of values -/
/-- the kinds that the program asks for -/
inductive Kd where
  | non | bool | int | str | list | tuple | dict | obj
  deriving DecidableEq
def Kd.name : Kd → String
  | .non => "NoneType" | .bool => "bool" | .int => "int" | .str => "str" | .list => "list" | .tuple => "tuple" | .dict => "dict" | .obj => "object"
/-- isinstance's answer -/
def Kd.is (k c : Kd) : Bool := decide (k = c) || (decide (k = .bool) && decide (c = .int))
theorem kd_kit {K : PySem.W.Frag} (k c : Kd) (h : k ≠ .obj) (h2 : c ≠ .obj) : PySem.W.kitOne K (.type k.name) (.type c.name) = some (k.is c) := by
  refine kit_ty ?_
  cases k <;> cases c <;> first | decide +kernel | exact absurd rfl h | exact absurd rfl h2
/-- v is of the kind k -/
inductive Of (K : PySem.W.Frag) (H : Hp) : V → Kd → Prop where
  | non : Of K H .non .non
  | bl (b : Bool) : Of K H (.bl b) .bool
  | int (i : Int) : Of K H (.int i) .int
  | str (x : Str) : Of K H (.str x) .str
  | list {a : Addr} {xs : List V} (h : SqL K H a xs) : Of K H (.ref a) .list
  | tuple {a : Addr} {xs : List V} (h : SqT K H a xs) : Of K H (.ref a) .tuple
  | dict {a : Addr} (h : TyX K H (.ref a) (.type "dict")) : Of K H (.ref a) .dict
  | obj {a C : Addr} (h : TyX K H (.ref a) (.ref C)) (hk : ∀ c : Kd, c ≠ .obj → PySem.W.kitOne K (.ref C) (.type c.name) = some false) : Of K H (.ref a) .obj
theorem ty_sqL {K : PySem.W.Frag} {H : Hp} {a : Addr} {xs : List V} (h : SqL K H a xs) : TyX K H (.ref a) (.type "list") := by
  rcases h with (h | ⟨o, h⟩) | ⟨o, its, n, h1, h2, _⟩
  · exact .base (.lst h)
  · exact .base (.frz h)
  · exact .kList h1 h2
theorem ty_sqT {K : PySem.W.Frag} {H : Hp} {a : Addr} {xs : List V} (h : SqT K H a xs) : TyX K H (.ref a) (.type "tuple") := by
  rcases h with (h | ⟨o, h⟩) | ⟨o, its, n, h1, h2, _⟩
  · exact .base (.tup h)
  · exact .fTuple h
  · exact .kTuple h1 h2
/-- what isinstance(v, c) comes to -/
theorem isi_k {K : PySem.W.Frag} {H : Hp} {v : V} {k : Kd} (c : Kd) {Q : VK} (h : Of K H v k) (q : Q (.bl (k.is c)) H) (hc : c ≠ .obj := by decide) : rIsi K [v, .ty c.name] H Q := by
  cases h with
  | non => exact ⟨_, _, _, _, _, rfl, .ty _, .base .non, kd_kit .non c (by decide) hc, q⟩
  | bl b => exact ⟨_, _, _, _, _, rfl, .ty _, .base (.bl b), kd_kit .bool c (by decide) hc, q⟩
  | int b => exact ⟨_, _, _, _, _, rfl, .ty _, .base (.int b), kd_kit .int c (by decide) hc, q⟩
  | str b => exact ⟨_, _, _, _, _, rfl, .ty _, .base (.str b), kd_kit .str c (by decide) hc, q⟩
  | list b => exact ⟨_, _, _, _, _, rfl, .ty _, ty_sqL b, kd_kit .list c (by decide) hc, q⟩
  | tuple b => exact ⟨_, _, _, _, _, rfl, .ty _, ty_sqT b, kd_kit .tuple c (by decide) hc, q⟩
  | dict b => exact ⟨_, _, _, _, _, rfl, .ty _, b, kd_kit .dict c (by decide) hc, q⟩
  | obj b hk => 
    have e : Kd.is .obj c = false := by cases c <;> first | rfl | exact absurd rfl hc
    rw [e] at q
    exact ⟨_, _, _, _, _, rfl, .ty _, b, hk c hc, q⟩
theorem pe_imp {X : Cx} {e : Expr} {t t' : TE} (h : PE X e t) (i : ∀ σ H Q, t' σ H Q → t σ H Q) : PE X e t' := ⟨fun pins s σ H Q I q => h.run pins s σ H Q I (i σ H Q q)⟩
theorem callR_imp {X : Cx} {f : Value} {r r' : List V → Hp → VK → Prop} (h : CallR X f r) (i : ∀ vs H Q, r' vs H Q → r vs H Q) : CallR X f r' := fun pins s σ H xs us Q I rv q => h pins s σ H xs us Q I rv (i xs H Q q)
/-- isinstance(v, c): its kind -/
def rIs (K : PySem.W.Frag) (c : Kd) : List V → Hp → VK → Prop := fun xs H Q => ∃ (v : V) (k : Kd), xs = [v, .ty c.name] ∧ Of K H v k ∧ Q (.bl (k.is c)) H
theorem call_is {X : Cx} (c : Kd) (hc : c ≠ .obj := by decide) : CallR X (.builtin "isinstance") (rIs X.K c) := callR_imp call_isi fun vs H Q ⟨v, k, e, h, q⟩ => by
  subst e
  exact isi_k c h q hc
section
variable {X : Cx} {a : Expr} {ta : TE} {x : Str} {p p2 pos : Pos}
theorem pe_is (c : Kd) (h : X.mg "isinstance" = none) (ha : PE X a ta) (hm : X.mg x = none) (hv : bootBuiltins x = some (.type c.name)) (hc : c ≠ .obj := by decide) (hg2 : Gl X x := by rfl) (hn : x ≠ "__name__" := by decide) (hd : (x == ("__debug__" : Str)) = false := by decide) (hg : Gl X "isinstance" := by rfl)
    (he : starEach [a, .Name x p2] X.env = (false, eval a X.env) :: starEach [.Name x p2] X.env := by rfl) (hpl : (backTo pos (starEach [.Name x p2] X.env)).any (·.1) = false := by rfl)
    (he2 : starEach [.Name x p2] X.env = (false, eval (.Name x p2) X.env) :: starEach [] X.env := by rfl) :
    PE X (.Call (.Name "isinstance" p) [a, .Name x p2] [] pos) (tCB (rIs X.K c) (tCons ta (tCons (tC (.ty c.name)) tNil))) :=
  pe_callB (call_is c hc) hg h boot_isinstance (pa_cons ha (pa_cons (pe_ty (pos := p2) hm hv hg2 hn hd) pa_nil he2) he) (he := he) (hpl := hpl)
end
/-! ### data -/
theorem same_t {K : PySem.W.Frag} {H H' : Hp} {a : Addr} {xs : List V} (e : Same H H') (h : SqT K H a xs) : SqT K H' a xs := by
  rcases h with (h | ⟨o, h⟩) | h
  · exact .inl (.inl (e _ _ h))
  · exact .inl (.inr ⟨o, e _ _ h⟩)
  · exact .inr h
theorem same_new {H : Hp} {p : Addr} {o : HO} (h : H p = none) : Same H (upd H p o) := fun a u e => by
  rw [upd_ne (ne_of_none e h)]
  exact e
mutual
theorem dp_same {K : PySem.W.Frag} {H H' : Hp} (e : Same H H') : ∀ {v : V} {d : PyData}, Dp K H v d → Dp K H' v d
  | _, _, .non => .non
  | _, _, .bl b => .bl b
  | _, _, .int i => .int i
  | _, _, .str x => .str x
  | _, _, .lst h r => .lst (e.seq h) (dps_same e r)
  | _, _, .tup h r => .tup (same_t e h) (dps_same e r)
theorem dps_same {K : PySem.W.Frag} {H H' : Hp} (e : Same H H') : ∀ {vs : List V} {ds : List PyData}, DpAll K H vs ds → DpAll K H' vs ds
  | _, _, .nil => .nil
  | _, _, .cons h r => .cons (dp_same e h) (dps_same e r)
end
def kdOf : PyData → Kd
  | .bool _ => .bool
  | .int _ => .int
  | .str _ => .str
  | .list _ => .list
  | .tuple _ => .tuple
  | _ => .non
theorem dp_kd {K : PySem.W.Frag} {H : Hp} {v : V} {d : PyData} (h : Dp K H v d) : Of K H v (kdOf d) := by
  cases h with
  | non => exact .non
  | bl b => exact .bl b
  | int i => exact .int i
  | str x => exact .str x
  | lst h _ => exact .list h
  | tup h _ => exact .tuple h
end M

set_option Elab.async false
set_option linter.all false
set_option maxRecDepth 100000
set_option maxHeartbeats 2000000
namespace M
open PySem PySem.Spec PyProof.Rows L2

section
variable {P : Program} {w : World} {K : PySem.W.Frag} {mg : Str → Option Value} {base : Heap}
/-! ### pastless.checks -/
def spInteger (K : PySem.W.Frag) : Sp := fun vs H Q _ => ∃ (v : V) (k : Kd), vs = [v] ∧ Of K H v k ∧ Q (.bl (decide (k = .int))) H
theorem ca_is_integer (T : Txt w K mg) : Ca P w K mg base 1 "is_integer" (spInteger K) := by
  refine ca_of (N := ["value"]) (ps := ["value"]) T.f_is_integer T.g_is_integer ⟨rfl, rfl, rfl, by decide +kernel, rfl, by decide +kernel, by decide +kernel⟩ (fun _ _ _ _ _ _ us hl => match us, hl with | [_], _ => rfl)
    (fun vs H Q E h => by obtain ⟨v, k, rfl, hk, q⟩ := h; rfl) (fun cdv A outer s H vs Q E hr h => ?_)
  have nd : (["value"] : List Str).Nodup := by decide +kernel
  obtain ⟨v, k, rfl, hk, q⟩ := h
  refine ⟨_, pss_one (ps_ret (pe_and (pe_is .int T.b_isinstance (pv 0) T.b_int boot_int) (pe_one (pe_not (pe_is .bool T.b_isinstance (pv 0) T.b_bool boot_bool))))), ?_⟩
  refine ⟨_, rfl, _, _, rfl, hk, _, rfl, ?_⟩
  cases k <;> first | exact iteF q | exact iteT ⟨_, rfl, _, _, rfl, hk, _, rfl, q⟩
def spWithin : Sp := fun vs H Q _ => ∃ (i lo hi : Int), vs = [.int i, .int lo, .int hi] ∧ Q (.bl (decide (lo ≤ i) && decide (i ≤ hi))) H
theorem ca_is_within (T : Txt w K mg) : Ca P w K mg base 2 "is_within" (spWithin) := by
  refine ca_of (N := ["value", "least", "greatest"]) (ps := ["value", "least", "greatest"]) T.f_is_within T.g_is_within ⟨rfl, rfl, rfl, by decide +kernel, rfl, by decide +kernel, by decide +kernel⟩ (fun _ _ _ _ _ _ us hl => match us, hl with | [_, _, _], _ => rfl)
    (fun vs H Q E h => by obtain ⟨i, lo, hi, rfl, q⟩ := h; rfl) (fun cdv A outer s H vs Q E hr h => ?_)
  have nd : (["value", "least", "greatest"] : List Str).Nodup := by decide +kernel
  obtain ⟨i, lo, hi, rfl, q⟩ := h
  refine ⟨_, pss_one (ps_ret (pe_and (pe_ca (ca_is_integer T) hr (pa_cons (pv 0) pa_nil)) (pe_one (pe_chain op_le op_le (pv 1) (pv 0) (pv 2))))), ?_⟩
  refine ⟨_, rfl, _, _, rfl, .int i, _, rfl, iteT ?_⟩
  refine ⟨_, rfl, _, rfl, _, _, rfl, rfl, _, rfl, ?_⟩
  by_cases c : lo ≤ i
  · rw [decide_eq_true c] at q ⊢
    exact iteT ⟨_, rfl, _, _, rfl, rfl, q⟩
  · rw [decide_eq_false c] at q ⊢
    exact iteF q
/-- within its bounds -/
theorem within_t {i lo hi : Int} (h : lo ≤ i ∧ i ≤ hi) : (decide (lo ≤ i) && decide (i ≤ hi)) = true := by simp [h.1, h.2]
def spTuple (K : PySem.W.Frag) : Sp := fun vs H Q _ => ∃ (a : Addr) (xs : List V) (n : Int), vs = [.ref a, .int n] ∧ SqT K H a xs ∧ Q (.bl (decide ((xs.length : Int) = n))) H
theorem ca_is_tuple (T : Txt w K mg) : Ca P w K mg base 1 "is_tuple" (spTuple K) := by
  refine ca_of (N := ["value", "length"]) (ps := ["value", "length"]) T.f_is_tuple T.g_is_tuple ⟨rfl, rfl, rfl, by decide +kernel, rfl, by decide +kernel, by decide +kernel⟩ (fun _ _ _ _ _ _ us hl => match us, hl with | [_, _], _ => rfl)
    (fun vs H Q E h => by obtain ⟨a, xs, n, rfl, hs, q⟩ := h; rfl) (fun cdv A outer s H vs Q E hr h => ?_)
  have nd : (["value", "length"] : List Str).Nodup := by decide +kernel
  obtain ⟨a, xs, n, rfl, hs, q⟩ := h
  refine ⟨_, pss_one (ps_ret (pe_and (pe_is .tuple T.b_isinstance (pv 0) T.b_tuple boot_tuple) (pe_one (pe_cmpR op_eq (pe_callB call_len_seq (by rfl) T.b_len PySem.boot_len (pa_cons (pv 0) pa_nil)) (pv 1) (nomark _))))), ?_⟩
  refine ⟨_, rfl, _, _, rfl, .tuple hs, _, rfl, iteT ?_⟩
  refine ⟨_, rfl, _, _, rfl, .inr hs, _, rfl, rfl, ?_⟩
  rw [show (decide (V.int (xs.length : Int) = V.int n)) = decide ((xs.length : Int) = n) from by simp]
  exact q
/-- hs is a state of cells of the sizes ss -/
def StateOk (ss hs : List Int) : Prop := ss.length = hs.length ∧ ∀ (i : Nat) (s h : Int), ss[i]? = some s → hs[i]? = some h → 0 ≤ h ∧ h < s
theorem get_map {l : List Int} {i : Nat} {x : V} (h : (l.map V.int)[i]? = some x) : ∃ z, l[i]? = some z ∧ x = .int z := by
  rw [List.getElem?_map] at h
  cases e : l[i]? with
  | none => rw [e] at h; cases h
  | some z => rw [e] at h; exact ⟨z, rfl, (Option.some.inj h).symm⟩
def spState (K : PySem.W.Frag) : Sp := fun vs H Q _ => ∃ (a b : Addr) (ss hs : List Int), vs = [.ref a, .ref b] ∧ SqT K H a (ss.map .int) ∧ SqT K H b (hs.map .int) ∧ StateOk ss hs ∧ ∀ H', Same H H' → Q (.bl true) H'
theorem ca_is_state (T : Txt w K mg) : Ca P w K mg base 3 "is_state" (spState K) := by
  refine ca_of (N := ["sizes", "value", "size", "held"]) (ps := ["sizes", "value"]) T.f_is_state T.g_is_state ⟨rfl, rfl, rfl, by decide +kernel, rfl, by decide +kernel, by decide +kernel⟩ (fun _ _ _ _ _ _ us hl => match us, hl with | [_, _], _ => rfl)
    (fun vs H Q E h => by obtain ⟨a, b, ss, hs, rfl, ha, hb, ok, q⟩ := h; rfl) (fun cdv A outer s H vs Q E hr h => ?_)
  have nd : (["sizes", "value", "size", "held"] : List Str).Nodup := by decide +kernel
  obtain ⟨a, b, ss, hs, rfl, ha, hb, ok, q⟩ := h
  refine ⟨_, pss_cons (ps_if (pt_not (pt_val (pe_ca (ca_is_tuple T) hr (pa_cons (pv 1) (pa_cons (pe_callB call_len_seq (by rfl) T.b_len PySem.boot_len (pa_cons (pv 0) pa_nil)) pa_nil))))) (pss_one (ps_ret pe_bl)) pss_nil)
    (pss_cons (ps_for PassesOwn.never rfl (RZ.pi_zipA (by rfl) T.b_zip (pa_cons (pv 0) (pa_cons (pv 1) pa_nil))) (pg_tup rfl (pgs_cons (pg_name (i := 2) nd rfl (.inl rfl)) (pgs_cons (pg_name (i := 3) nd rfl (.inl rfl)) pgs_nil)))
      (pss_one (ps_if (pt_not (pt_val (pe_ca (ca_is_within T) hr (pa_cons (pv 3) (pa_cons pe_int (pa_cons (pe_op op_sub (pv 2) pe_int) pa_nil)))))) (pss_one (ps_ret pe_bl)) pss_nil)))
    (pss_one (ps_ret pe_bl))), ?_⟩
  refine ⟨_, rfl, _, rfl, _, _, rfl, .inr ha, b, _, _, rfl, hb, _, rfl, ?_⟩
  rw [List.length_map, List.length_map, ok.1, decide_eq_true rfl]
  refine iteF ⟨_, rfl, _, rfl, a, b, _, _, rfl, .inr ⟨ha, hb, RZ.for_zipT (xs := ss.map V.int) (ys := hs.map V.int) (by simp [ok.1]) (fun i σ H' => ∃ x y, σ = [some (.ref a), some (.ref b), x, y] ∧ Same H H') ⟨none, none, rfl, Same.refl H⟩ (fun i σ H' ⟨_, _, _, s⟩ => ⟨same_t s ha, same_t s hb⟩) ?_ ?_⟩⟩
  · rintro i x y t σ H' hx hy ⟨u, v, rfl, s⟩ ht
    obtain ⟨z, hz, rfl⟩ := get_map hx
    obtain ⟨z', hz', rfl⟩ := get_map hy
    have o := ok.2 i z z' hz hz'
    refine ⟨t, _, rfl, SqT.of upd_same, rfl, _, _, rfl, _, _, rfl, rfl, ?_⟩
    refine ⟨_, rfl, _, rfl, _, _, rfl, rfl, z', 0, z - 1, rfl, _, rfl, ?_⟩
    rw [within_t ⟨o.1, by omega⟩]
    exact iteF ⟨_, _, rfl, s.trans (same_new ht)⟩
  · rintro σ H' ⟨_, _, rfl, s⟩
    exact q H' s
end

end M

set_option Elab.async false
set_option linter.all false
set_option maxRecDepth 100000
set_option maxHeartbeats 2000000
namespace M
open PySem PySem.Spec PyProof.Rows L2

/-! ### what bodies, codes and vaults are -/
inductive Exp where
  | num (n : Int) | reg (r : Str) | op (s : Str) (a b : Exp)
def Exp.d : Exp → PyData
  | .num n => .int n
  | .reg r => .str r
  | .op s a b => .tuple [.str s, a.d, b.d]
inductive Row where
  | read (r : Str) (c : Int) | set (c : Int) (e : Exp) | swap (r : Str) (c : Int) (e f : Exp) | keep (r : Str) (e : Exp) | coin (r : Str)
  | iff (e : Exp) (a b : List Row) | times (e : Exp) (a : List Row) | ans (e : Exp)
mutual
def Row.d : Row → PyData
  | .read r c => .tuple [.str "read", .str r, .int c]
  | .set c e => .tuple [.str "set", .int c, e.d]
  | .swap r c e f => .tuple [.str "swap", .str r, .int c, e.d, f.d]
  | .keep r e => .tuple [.str "keep", .str r, e.d]
  | .coin r => .tuple [.str "coin", .str r]
  | .iff e a b => .tuple [.str "if", e.d, .tuple (rowsD a), .tuple (rowsD b)]
  | .times e a => .tuple [.str "times", e.d, .tuple (rowsD a)]
  | .ans e => .tuple [.str "answer", e.d]
def rowsD : List Row → List PyData
  | [] => []
  | r :: rs => r.d :: rowsD rs
end
/-- a row of a code -/
inductive FR where
  | row (r : Row) | unless (e : Exp) (p : Nat) | on (p : Nat) | rounds (e : Exp) | round (p : Nat) | hole
def FR.d : FR → PyData
  | .row r => r.d
  | .unless e p => .tuple [.str "unless", e.d, .int p]
  | .on p => .tuple [.str "on", .int p]
  | .rounds e => .tuple [.str "rounds", e.d]
  | .round p => .tuple [.str "round", .int p]
  | .hole => .tuple []
mutual
def putRow : Row → List FR → List FR
  | .iff e a b, c =>
    let c1 := putRows a (c ++ [FR.hole])
    let c2 := putRows b ((c1 ++ [FR.hole]).set c.length (FR.unless e (c1.length + 1)))
    c2.set c1.length (FR.on c2.length)
  | .times e a, c =>
    let c1 := putRows a (c ++ [FR.rounds e, FR.hole])
    (c1 ++ [FR.on (c.length + 1)]).set (c.length + 1) (FR.round (c1.length + 1))
  | .read r k, c => c ++ [.row (.read r k)]
  | .set k e, c => c ++ [.row (.set k e)]
  | .swap r k e f, c => c ++ [.row (.swap r k e f)]
  | .keep r e, c => c ++ [.row (.keep r e)]
  | .coin r, c => c ++ [.row (.coin r)]
  | .ans e, c => c ++ [.row (.ans e)]
def putRows : List Row → List FR → List FR
  | [], c => c
  | r :: rs, c => putRows rs (putRow r c)
end
def codeOf (rows : List Row) : List FR := putRows rows [] ++ [.row (.ans (.num 0))]
structure Vlt where
  cells : List (Int × Int)
  deeds : List (Str × Int × List Row)
def cellD (c : Int × Int) : PyData := .tuple [.int c.1, .int c.2]
def deedD (d : Str × Int × List Row) : PyData := .tuple [.str d.1, .int d.2.1, .tuple (rowsD d.2.2)]
def Vlt.calls (v : Vlt) : List (Str × Int) := v.deeds.flatMap fun d => (List.range d.2.1.toNat).map fun (j : Nat) => (d.1, (j : Int))
def codeD (rows : List Row) : PyData := .tuple ((codeOf rows).map FR.d)
/-- what the attributes of a vault hold -/
def vflds (a d c : Addr) (b : Bool) : List (Str × V) := putF "_coins" (.bl b) (putF "_codes" (.ref c) (putF "_deeds" (.ref d) (putF "_cells" (.ref a) [])))
theorem v1 : ¬ (("_cells" : Str) = "_deeds") := by decide +kernel
theorem v2 : ¬ (("_cells" : Str) = "_codes") := by decide +kernel
theorem v3 : ¬ (("_cells" : Str) = "_coins") := by decide +kernel
theorem v4 : ¬ (("_deeds" : Str) = "_codes") := by decide +kernel
theorem v5 : ¬ (("_deeds" : Str) = "_coins") := by decide +kernel
theorem v6 : ¬ (("_codes" : Str) = "_coins") := by decide +kernel
theorem vf_cells (a d c : Addr) (b : Bool) : (vflds a d c b).lookup ("_cells" : Str) = some (.ref a) := by
  unfold vflds
  rw [lookup_putF, if_neg v3, lookup_putF, if_neg v2, lookup_putF, if_neg v1, lookup_putF, if_pos rfl]
theorem vf_deeds (a d c : Addr) (b : Bool) : (vflds a d c b).lookup ("_deeds" : Str) = some (.ref d) := by
  unfold vflds
  rw [lookup_putF, if_neg v5, lookup_putF, if_neg v4, lookup_putF, if_pos rfl]
theorem vf_codes (a d c : Addr) (b : Bool) : (vflds a d c b).lookup ("_codes" : Str) = some (.ref c) := by
  unfold vflds
  rw [lookup_putF, if_neg v6, lookup_putF, if_pos rfl]
theorem vf_coins (a d c : Addr) (b : Bool) : (vflds a d c b).lookup ("_coins" : Str) = some (.bl b) := by
  unfold vflds
  rw [lookup_putF, if_pos rfl]
theorem vf_no (a d c : Addr) (b : Bool) {m : Str} (h1 : ¬ m = "_cells") (h2 : ¬ m = "_deeds") (h3 : ¬ m = "_codes") (h4 : ¬ m = "_coins") : (vflds a d c b).lookup m = none := by
  unfold vflds
  rw [lookup_putF, if_neg h4, lookup_putF, if_neg h3, lookup_putF, if_neg h2, lookup_putF, if_neg h1]
  rfl
/-- the codes by the names of the deeds -/
def CodesR (K : PySem.W.Frag) (H : Hp) : List (Key × V) → List (Str × Int × List Row) → Prop
  | [], [] => True
  | (k, v) :: r, d :: ds => k = Sum.inr d.1 ∧ Dp K H v (codeD d.2.2) ∧ CodesR K H r ds
  | _, _ => False
/-- a vault stands at p -/
structure VaultAt (K : PySem.W.Frag) (H : Hp) (p : Addr) (v : Vlt) : Prop where
  ob : ∃ (dx a d c : Addr) (b : Bool) (kvs : List (Key × V)), H p = some (.ins (He.ga K "Vault") dx (vflds a d c b)) ∧ Dp K H (.ref a) (.tuple (v.cells.map cellD)) ∧ Dp K H (.ref d) (.tuple (v.deeds.map deedD)) ∧ H c = some (.dK kvs) ∧ CodesR K H kvs v.deeds
/-- the bounds of a vault -/
structure VOk (v : Vlt) : Prop where
  c1 : v.cells.length ≤ 6
  d1 : v.deeds.length ≤ 8
  ch : ∀ d ∈ v.deeds, 1 ≤ d.2.1 ∧ d.2.1 ≤ 9
  nd : (v.deeds.map (·.1)).Nodup
theorem codes_same {K : PySem.W.Frag} {H H' : Hp} (e : Same H H') : ∀ {kvs : List (Key × V)} {ds : List (Str × Int × List Row)}, CodesR K H kvs ds → CodesR K H' kvs ds
  | [], [], _ => trivial
  | (_, _) :: _, _ :: _, h => ⟨h.1, dp_same e h.2.1, codes_same e h.2.2⟩
  | [], _ :: _, h => h.elim
  | _ :: _, [], h => h.elim
theorem VaultAt.same {K : PySem.W.Frag} {H H' : Hp} {p : Addr} {v : Vlt} (e : Same H H') (h : VaultAt K H p v) : VaultAt K H' p v := by
  obtain ⟨dx, a, d, c, b, kvs, h1, h2, h3, h4, h5⟩ := h.ob
  exact ⟨dx, a, d, c, b, kvs, e _ _ h1, dp_same e h2, dp_same e h3, e _ _ h4, codes_same e h5⟩
/-! ### data taken apart -/
section
variable {K : PySem.W.Frag} {H : Hp}
theorem dp_tup {v : V} {ds : List PyData} (h : Dp K H v (.tuple ds)) : ∃ (a : Addr) (xs : List V), v = .ref a ∧ SqT K H a xs ∧ DpAll K H xs ds := by
  cases h with
  | tup h r => exact ⟨_, _, rfl, h, r⟩
theorem dp_lst {v : V} {ds : List PyData} (h : Dp K H v (.list ds)) : ∃ (a : Addr) (xs : List V), v = .ref a ∧ SqL K H a xs ∧ DpAll K H xs ds := by
  cases h with
  | lst h r => exact ⟨_, _, rfl, h, r⟩
theorem dp_int {v : V} {i : Int} (h : Dp K H v (.int i)) : v = .int i := by
  cases h
  rfl
theorem dp_str {v : V} {i : Str} (h : Dp K H v (.str i)) : v = .str i := by
  cases h
  rfl
theorem dps_len : ∀ {vs : List V} {ds : List PyData}, DpAll K H vs ds → vs.length = ds.length
  | _, _, .nil => rfl
  | _, _, .cons _ r => congrArg (· + 1) (dps_len r)
theorem dps_get : ∀ {vs : List V} {ds : List PyData} {i : Nat} {v : V}, DpAll K H vs ds → vs[i]? = some v → ∃ d, ds[i]? = some d ∧ Dp K H v d
  | _, _, i, v, .nil, h => by simp at h
  | _, _, 0, v, .cons h r, e => by
    cases (Option.some.inj e)
    exact ⟨_, rfl, h⟩
  | _, _, i + 1, v, .cons h r, e => dps_get (i := i) r e
theorem dps_at : ∀ {vs : List V} {ds : List PyData} {i : Nat} {d : PyData}, DpAll K H vs ds → ds[i]? = some d → ∃ v, vs[i]? = some v ∧ Dp K H v d
  | _, _, i, v, .nil, h => by simp at h
  | _, _, 0, v, .cons h r, e => by
    cases (Option.some.inj e)
    exact ⟨_, rfl, h⟩
  | _, _, i + 1, v, .cons h r, e => dps_at (i := i) r e
theorem dps_app : ∀ {vs ws : List V} {ds es : List PyData}, DpAll K H vs ds → DpAll K H ws es → DpAll K H (vs ++ ws) (ds ++ es)
  | _, _, _, _, .nil, r => r
  | _, _, _, _, .cons h t, r => .cons h (dps_app t r)
theorem dps_set : ∀ {vs : List V} {ds : List PyData} {i : Nat} {v : V} {d : PyData}, DpAll K H vs ds → Dp K H v d → DpAll K H (vs.set i v) (ds.set i d)
  | _, _, _, _, _, .nil, _ => .nil
  | _, _, 0, _, _, .cons _ r, z => .cons z r
  | _, _, i + 1, _, _, .cons h r, z => .cons h (dps_set (i := i) r z)
theorem dp2 {v : V} {d e : PyData} (h : Dp K H v (.tuple [d, e])) : ∃ (a : Addr) (x y : V), v = .ref a ∧ SqT K H a [x, y] ∧ Dp K H x d ∧ Dp K H y e := by
  obtain ⟨a, xs, rfl, h, r⟩ := dp_tup h
  cases r with | cons h1 r => cases r with | cons h2 r => cases r with | nil => exact ⟨a, _, _, rfl, h, h1, h2⟩
theorem dp3 {v : V} {d e f : PyData} (h : Dp K H v (.tuple [d, e, f])) : ∃ (a : Addr) (x y z : V), v = .ref a ∧ SqT K H a [x, y, z] ∧ Dp K H x d ∧ Dp K H y e ∧ Dp K H z f := by
  obtain ⟨a, xs, rfl, h, r⟩ := dp_tup h
  cases r with | cons h1 r => cases r with | cons h2 r => cases r with | cons h3 r => cases r with | nil => exact ⟨a, _, _, _, rfl, h, h1, h2, h3⟩
theorem dps_ints : ∀ {vs : List V} {is : List Int}, DpAll K H vs (is.map PyData.int) → vs = is.map V.int
  | _, [], .nil => rfl
  | _, i :: is, .cons h r => by
    rw [dp_int h, dps_ints r]
    rfl
theorem ints_dps : ∀ {is : List Int}, DpAll K H (is.map V.int) (is.map PyData.int)
  | [] => .nil
  | i :: is => .cons (.int i) ints_dps
end
/-! ### what a list that grows leaves as it was -/
/-- all but what stands at D is as it was -/
def But (D : Addr) (H H' : Hp) : Prop := ∀ b o, b ≠ D → H b = some o → H' b = some o
theorem But.upd {D : Addr} {H : Hp} {o : HO} : But D H (upd H D o) := fun b u hb e => by
  rw [upd_ne hb]
  exact e
theorem same_but {D : Addr} {H H' : Hp} (s : Same H H') : But D H H' := fun b o _ e => s b o e
theorem But.trans {D : Addr} {H H1 H2 : Hp} (s : But D H H1) (t : But D H1 H2) : But D H H2 := fun b o hb e => t b o hb (s b o hb e)
/-- no list within -/
inductive NoL : PyData → Prop where
  | non : NoL .none
  | bool (b : Bool) : NoL (.bool b)
  | int (i : Int) : NoL (.int i)
  | str (x : Str) : NoL (.str x)
  | tup {ds : List PyData} (h : ∀ d ∈ ds, NoL d) : NoL (.tuple ds)
/-- what stands at D may change -/
def Ch (H : Hp) (D : Addr) : Prop := (∀ xs, H D ≠ some (.tup xs)) ∧ ∀ o u, H D ≠ some (.frz o u)
theorem Ch.lst {H : Hp} {D : Addr} {l : List V} (h : H D = some (.lst l)) : Ch H D := ⟨fun _ e => (by rw [h] at e; cases e), fun _ _ e => (by rw [h] at e; cases e)⟩
theorem Ch.dK {H : Hp} {D : Addr} {l : List (Key × V)} (h : H D = some (.dK l)) : Ch H D := ⟨fun _ e => (by rw [h] at e; cases e), fun _ _ e => (by rw [h] at e; cases e)⟩
theorem Ch.ins {H : Hp} {D C dx : Addr} {l : List (Str × V)} (h : H D = some (.ins C dx l)) : Ch H D := ⟨fun _ e => (by rw [h] at e; cases e), fun _ _ e => (by rw [h] at e; cases e)⟩
theorem Ch.new {H : Hp} {D : Addr} (h : H D = none) : Ch H D := ⟨fun _ e => (by rw [h] at e; cases e), fun _ _ e => (by rw [h] at e; cases e)⟩
section
variable {K : PySem.W.Frag} {H H' : Hp} {D : Addr}
theorem sqT_but (hD : Ch H D) (s : But D H H') {a : Addr} {xs : List V} (h : SqT K H a xs) : SqT K H' a xs := by
  rcases h with (h | ⟨o, h⟩) | h
  · exact .inl (.inl (s _ _ (fun e => hD.1 _ (e ▸ h)) h))
  · exact .inl (.inr ⟨o, s _ _ (fun e => hD.2 _ _ (e ▸ h)) h⟩)
  · exact .inr h
mutual
theorem dp_but (hD : Ch H D) (s : But D H H') : ∀ {v : V} {d : PyData}, Dp K H v d → NoL d → Dp K H' v d
  | _, _, .non, _ => .non
  | _, _, .bl b, _ => .bl b
  | _, _, .int i, _ => .int i
  | _, _, .str x, _ => .str x
  | _, _, .lst _ _, n => nomatch n
  | _, _, .tup h r, n => .tup (sqT_but hD s h) (dps_but hD s r (by cases n with | tup h => exact h))
theorem dps_but (hD : Ch H D) (s : But D H H') : ∀ {vs : List V} {ds : List PyData}, DpAll K H vs ds → (∀ d ∈ ds, NoL d) → DpAll K H' vs ds
  | _, _, .nil, _ => .nil
  | _, _, .cons h r, n => .cons (dp_but hD s h (n _ List.mem_cons_self)) (dps_but hD s r fun d hd => n d (List.mem_cons_of_mem _ hd))
end
end
/-! ### comprehensions and loops that leave all that was as it was -/
section
variable {J : It} {n : Nat} {G : Hp → Prop} {Y : Nat → Hp → V → Hp → Prop}
/-- a list comprehension: its i-th item is R i -/
theorem lc_out (w : Walk J n G Y) {g : TG} {te : TE} {vs : List Nat} {σ : L2.St} {H1 : Hp} {D : Addr} {Qd : Hp → Prop} (hD : H1 D = none) (hn : n ≤ 100000) (R : Nat → V → Hp → Prop) (hR : ∀ i y H H', Ch H D → But D H H' → R i y H → R i y H')
    (hG : ∀ H, Same H1 H → G H)
    (hs : ∀ (i : Nat) (x : V) (H H' : Hp) (N : VK) (F : Hp → Prop), i < n → Same H1 H → Y i H x H' → (∀ y H4, Same H H4 → R i y H4 → N y H4) → g x (wipe σ vs) H' fun σ2 H2 => wipe σ2 vs = wipe σ vs ∧ if true = true then te σ2 H2 N else F H2)
    (hd : ∀ H ys, Same H1 H → H D = some (.lst ys) → ys.length = n → (∀ i y, ys[i]? = some y → R i y H) → Qd H) :
    ∃ W : Nat → Nat → Hp → Prop, (∃ m, W 0 m (upd H1 D (.lst []))) ∧ ∀ i m H, W i m H →
      (J.stop i H ∧ Qd H) ∨ (J.go i H ∧ ∃ Nx : Hp → Prop, (∀ H', Nx H' → ∃ m', m' < m ∧ W (i + 1) m' H') ∧ ∀ x H', J.yld i H x H' → g x (wipe σ vs) H' fun σ2 H2 => wipe σ2 vs = wipe σ vs ∧ tYes σ2 H2 fun b H3 =>
        if b = true then te σ2 H3 fun y H4 => ∃ acc, H4 D = some (.lst acc) ∧ acc.length < sizeLine ∧ Nx (upd H4 D (.lst (acc ++ [y]))) else Nx H3) := by
  let Pv : Nat → Hp → Prop := fun i H => ∃ ys, Same H1 H ∧ H D = some (.lst ys) ∧ ys.length = i ∧ ∀ j y, ys[j]? = some y → R j y H
  refine lc_it w Pv ⟨[], same_new hD, upd_same, rfl, fun j y e => by simp at e⟩ (fun i H _ ⟨_, s, _⟩ => hG H s) (fun i x H H' hi ⟨ys, s, eD, el, hr⟩ y => ?_) (fun H ⟨ys, s, eD, el, hr⟩ => hd H ys s eD el hr)
  refine hs i x H H' (fun y H4 => ∃ acc, H4 D = some (.lst acc) ∧ acc.length < sizeLine ∧ Pv (i + 1) (upd H4 D (.lst (acc ++ [y])))) (fun H3 => Pv (i + 1) H3) hi s y fun z H4 s4 rz => ⟨ys, s4 _ _ eD, by rw [sizeLine_eq]; omega, ys ++ [z], fun b o e => ?_, upd_same, by simp [el], fun j u e => ?_⟩
  · rw [upd_ne (ne_of_none e hD)]
    exact s4 b o (s b o e)
  · have bt : But D H (upd H4 D (.lst (ys ++ [z]))) := (same_but s4 (D := D)).trans But.upd
    by_cases hj : j < ys.length
    · rw [List.getElem?_append_left hj] at e
      exact hR j u H _ (.lst eD) bt (hr j u e)
    · rw [List.getElem?_append_right (by omega)] at e
      have e0 : j - ys.length = 0 := by
        cases q : j - ys.length with
        | zero => rfl
        | succ m => rw [q] at e; simp at e
      rw [e0] at e
      cases (Option.some.inj e)
      have ej : j = i := by omega
      subst ej
      exact hR _ _ H4 _ (.lst (s4 _ _ eD)) But.upd rz
end

end M

set_option Elab.async false
set_option linter.all false
set_option maxRecDepth 100000
set_option maxHeartbeats 2000000
namespace M
open PySem PySem.Spec PyProof.Rows L2

theorem map_of {α : Type} {cs : List α} {f : α → V} {ys : List V} (hl : ys.length = cs.length) (h : ∀ (i : Nat) (y : V), ys[i]? = some y → ∃ c, cs[i]? = some c ∧ y = f c) : ys = cs.map f := by
  refine List.ext_getElem? fun i => ?_
  rw [List.getElem?_map]
  cases e : ys[i]? with
  | some y =>
    obtain ⟨c, hc, rfl⟩ := h i y e
    rw [hc]
    rfl
  | none =>
    have q : cs[i]? = none := by
      rw [List.getElem?_eq_none_iff] at e ⊢
      omega
    rw [q]
    rfl
theorem get_mapA {α β : Type} {l : List α} {f : α → β} {i : Nat} {x : β} (h : (l.map f)[i]? = some x) : ∃ z, l[i]? = some z ∧ x = f z := by
  rw [List.getElem?_map] at h
  cases e : l[i]? with
  | none => rw [e] at h; cases h
  | some z => rw [e] at h; exact ⟨z, rfl, (Option.some.inj h).symm⟩
section
variable {P : Program} {w : World} {K : PySem.W.Frag} {mg : Str → Option Value} {base : Heap}
/-! ### pastless.vaults: what a vault tells -/
def spSizes (K : PySem.W.Frag) (f : Int × Int → Int) : Sp := fun vs H Q _ => ∃ (p : Addr) (v : Vlt), vs = [.ref p] ∧ VaultAt K H p v ∧ v.cells.length ≤ 6 ∧ ∀ a H', Same H H' → H' a = some (.tup ((v.cells.map f).map V.int)) → Q (.ref a) H'
theorem me_Vault_sizes (T : Txt w K mg) : Me P w K mg base 1 (He.ga K "Vault") "sizes" (spSizes K (·.1)) := by
  refine me_of (N := ["self", "size", "_"]) (ps := ["self"]) T.f_Vault_sizes T.c_Vault T.m_Vault_sizes ⟨rfl, rfl, rfl, by decide +kernel, rfl, by decide +kernel, by decide +kernel⟩ (fun _ _ _ _ _ _ us hl => match us, hl with | [_], _ => rfl)
    (fun vs H Q E h => by obtain ⟨p, v, rfl, hv, hl, q⟩ := h; rfl) (fun cdv A outer s H vs Q E hr h => ?_)
  have nd : (["self", "size", "_"] : List Str).Nodup := by decide +kernel
  obtain ⟨p, v, rfl, hv, hl, q⟩ := h
  obtain ⟨dx, a, d, c, b, kvs, h1, h2, h3, h4, h5⟩ := hv.ob
  obtain ⟨a, xs, ea, hx, hxs⟩ := dp_tup h2
  cases ea
  refine ⟨_, pss_one (ps_ret (pe_tupleOf (by rfl) T.b_tuple (pe_lc (own := [("size", 1), ("_", 2)]) (tt := tYes) rfl nd (pi_tup (pe_fld (pv 0) rfl)) (blkOk_by (N := ["self", "size", "_"]) (sc := defScope s_Vault_sizes) (by decide +kernel))
    (fun _ _ _ _ _ => pg_two K 1 2 rfl rfl nd rfl rfl (.inl rfl) (.inl rfl) (.inr rfl) (.inr rfl)) (fun _ _ _ _ _ => pts_nil) (fun _ _ _ _ _ => pv 1)))), ?_⟩
  have el : xs.length = v.cells.length := by rw [dps_len hxs, List.length_map]
  refine ⟨_, rfl, p, _, _, _, _, rfl, h1, T.c_Vault, T.n_Vault_cells, vf_cells .., a, rfl, ⟨_, hx⟩, fun D hD => ?_⟩
  refine lc_out (n := xs.length) walk_tup hD (by omega) (fun i y H => ∃ c, v.cells[i]? = some c ∧ y = .int c.1) (fun _ _ _ _ _ _ h => h) (fun H' s => same_t s hx) (fun i x H' H2 N F hi s y k => ?_) (fun H' ys s hD' hl' hr => ?_)
  · obtain ⟨rfl, ex⟩ := y
    obtain ⟨dd, ed, hdd⟩ := dps_get hxs ex
    obtain ⟨cc, ec, rfl⟩ := get_mapA ed
    obtain ⟨t, x1, x2, rfl, ht, e1, e2⟩ := dp2 (dp_same s hdd)
    cases dp_int e1
    refine ⟨t, _, rfl, ht, rfl, _, _, rfl, _, _, rfl, rfl, rfl, iteT ⟨_, rfl, k _ _ (Same.refl _) ⟨cc, ec, rfl⟩⟩⟩
  · have em : ys = (v.cells.map (·.1)).map V.int := by
      rw [List.map_map]
      exact map_of (by omega) fun i y e => by
        obtain ⟨c, h1, h2⟩ := hr i y e
        exact ⟨c, h1, h2⟩
    refine .inl ⟨D, ys, rfl, SqL.of hD', fun t ht => ?_⟩
    rw [em]
    exact q t _ (s.trans (same_new ht)) upd_same
theorem me_Vault_first (T : Txt w K mg) : Me P w K mg base 1 (He.ga K "Vault") "first" (spSizes K (·.2)) := by
  refine me_of (N := ["self", "_", "held"]) (ps := ["self"]) T.f_Vault_first T.c_Vault T.m_Vault_first ⟨rfl, rfl, rfl, by decide +kernel, rfl, by decide +kernel, by decide +kernel⟩ (fun _ _ _ _ _ _ us hl => match us, hl with | [_], _ => rfl)
    (fun vs H Q E h => by obtain ⟨p, v, rfl, hv, hl, q⟩ := h; rfl) (fun cdv A outer s H vs Q E hr h => ?_)
  have nd : (["self", "_", "held"] : List Str).Nodup := by decide +kernel
  obtain ⟨p, v, rfl, hv, hl, q⟩ := h
  obtain ⟨dx, a, d, c, b, kvs, h1, h2, h3, h4, h5⟩ := hv.ob
  obtain ⟨a, xs, ea, hx, hxs⟩ := dp_tup h2
  cases ea
  refine ⟨_, pss_one (ps_ret (pe_tupleOf (by rfl) T.b_tuple (pe_lc (own := [("_", 1), ("held", 2)]) (tt := tYes) rfl nd (pi_tup (pe_fld (pv 0) rfl)) (blkOk_by (N := ["self", "_", "held"]) (sc := defScope s_Vault_first) (by decide +kernel))
    (fun _ _ _ _ _ => pg_two K 1 2 rfl rfl nd rfl rfl (.inl rfl) (.inl rfl) (.inr rfl) (.inr rfl)) (fun _ _ _ _ _ => pts_nil) (fun _ _ _ _ _ => pv 2)))), ?_⟩
  have el : xs.length = v.cells.length := by rw [dps_len hxs, List.length_map]
  refine ⟨_, rfl, p, _, _, _, _, rfl, h1, T.c_Vault, T.n_Vault_cells, vf_cells .., a, rfl, ⟨_, hx⟩, fun D hD => ?_⟩
  refine lc_out (n := xs.length) walk_tup hD (by omega) (fun i y H => ∃ c, v.cells[i]? = some c ∧ y = .int c.2) (fun _ _ _ _ _ _ h => h) (fun H' s => same_t s hx) (fun i x H' H2 N F hi s y k => ?_) (fun H' ys s hD' hl' hr => ?_)
  · obtain ⟨rfl, ex⟩ := y
    obtain ⟨dd, ed, hdd⟩ := dps_get hxs ex
    obtain ⟨cc, ec, rfl⟩ := get_mapA ed
    obtain ⟨t, x1, x2, rfl, ht, e1, e2⟩ := dp2 (dp_same s hdd)
    cases dp_int e2
    refine ⟨t, _, rfl, ht, rfl, _, _, rfl, _, _, rfl, rfl, rfl, iteT ⟨_, rfl, k _ _ (Same.refl _) ⟨cc, ec, rfl⟩⟩⟩
  · have em : ys = (v.cells.map (·.2)).map V.int := by
      rw [List.map_map]
      exact map_of (by omega) fun i y e => by
        obtain ⟨c, h1, h2⟩ := hr i y e
        exact ⟨c, h1, h2⟩
    refine .inl ⟨D, ys, rfl, SqL.of hD', fun t ht => ?_⟩
    rw [em]
    exact q t _ (s.trans (same_new ht)) upd_same
end

end M

set_option Elab.async false
set_option linter.all false
set_option maxRecDepth 100000
set_option maxHeartbeats 2000000
namespace M
open PySem PySem.Spec PyProof.Rows L2

/-! ### any walk: Pv by the turn and the heap -/
section
variable {J : It} {n : Nat} {G : Hp → Prop} {Y : Nat → Hp → V → Hp → Prop}
theorem it_any (w : Walk J n G Y) {B : (Hp → Prop) → V → Hp → Prop} {H1 : Hp} {Qd : Hp → Prop} (Pv : Nat → Hp → Prop) (h0 : Pv 0 H1) (hG : ∀ i H, i ≤ n → Pv i H → G H) (hs : ∀ i x H H', i < n → Pv i H → Y i H x H' → B (Pv (i + 1)) x H')
    (hd : ∀ H, Pv n H → Qd H) : ∃ W : Nat → Nat → Hp → Prop, (∃ m, W 0 m H1) ∧ ∀ i m H, W i m H → (J.stop i H ∧ Qd H) ∨ (J.go i H ∧ ∃ Nx : Hp → Prop, (∀ H', Nx H' → ∃ m', m' < m ∧ W (i + 1) m' H') ∧ ∀ x H', J.yld i H x H' → B Nx x H') := by
  refine ⟨fun i m H => m + i = n ∧ Pv i H, ⟨n, rfl, h0⟩, fun i m H ⟨hm, hp⟩ => ?_⟩
  have hg := hG i H (by omega) hp
  rcases Nat.lt_or_ge i n with hi | hi
  · exact .inr ⟨w.goes i H hi hg, Pv (i + 1), fun H' hp' => ⟨m - 1, by omega, by omega, hp'⟩, fun x H' y => hs i x H H' hi hp (w.yields i H x H' hi hg y)⟩
  · obtain rfl : i = n := by omega
    exact .inl ⟨w.stops H hg, hd H hp⟩
end
/-- the tuples of calls -/
def TupsAt (H : Hp) : List V → List (Str × Int) → Prop
  | [], [] => True
  | y :: ys, c :: cs => (∃ t, y = .ref t ∧ H t = some (.tup [.str c.1, .int c.2])) ∧ TupsAt H ys cs
  | _, _ => False
theorem tups_but {D : Addr} {H H' : Hp} (hD : Ch H D) (s : But D H H') : ∀ {ys : List V} {cs : List (Str × Int)}, TupsAt H ys cs → TupsAt H' ys cs
  | [], [], _ => trivial
  | _ :: _, _ :: _, ⟨⟨t, e, h⟩, r⟩ => ⟨⟨t, e, s t _ (fun z => hD.1 _ (z ▸ h)) h⟩, tups_but hD s r⟩
  | [], _ :: _, h => h.elim
  | _ :: _, [], h => h.elim
theorem tups_same {H H' : Hp} (s : Same H H') : ∀ {ys : List V} {cs : List (Str × Int)}, TupsAt H ys cs → TupsAt H' ys cs
  | [], [], _ => trivial
  | _ :: _, _ :: _, ⟨⟨t, e, h⟩, r⟩ => ⟨⟨t, e, s t _ h⟩, tups_same s r⟩
  | [], _ :: _, h => h.elim
  | _ :: _, [], h => h.elim
theorem tups_len {H : Hp} : ∀ {ys : List V} {cs : List (Str × Int)}, TupsAt H ys cs → ys.length = cs.length
  | [], [], _ => rfl
  | _ :: _, _ :: _, ⟨_, r⟩ => congrArg (· + 1) (tups_len r)
  | [], _ :: _, h => h.elim
  | _ :: _, [], h => h.elim
theorem tups_snoc {H : Hp} {t : Addr} {c : Str × Int} (ht : H t = some (.tup [.str c.1, .int c.2])) : ∀ {ys : List V} {cs : List (Str × Int)}, TupsAt H ys cs → TupsAt H (ys ++ [.ref t]) (cs ++ [c])
  | [], [], _ => ⟨⟨t, rfl, ht⟩, trivial⟩
  | _ :: _, _ :: _, ⟨h, r⟩ => ⟨h, tups_snoc ht r⟩
  | [], _ :: _, h => h.elim
  | _ :: _, [], h => h.elim
theorem tups_get {H : Hp} : ∀ {ys : List V} {cs : List (Str × Int)} {i : Nat} {y : V}, TupsAt H ys cs → ys[i]? = some y → ∃ c t, cs[i]? = some c ∧ y = .ref t ∧ H t = some (.tup [.str c.1, .int c.2])
  | [], [], i, y, _, e => by simp at e
  | _ :: _, c :: _, 0, y, ⟨⟨t, e, h⟩, r⟩, z => by
    cases (Option.some.inj z)
    exact ⟨c, t, rfl, e, h⟩
  | _ :: _, _ :: _, i + 1, y, ⟨h, r⟩, z => tups_get (i := i) r z
  | [], _ :: _, _, _, h, _ => h.elim
  | _ :: _, [], _, _, h, _ => h.elim
theorem take_more {α : Type} {l : List α} {i : Nat} {x : α} (h : l[i]? = some x) : l.take (i + 1) = l.take i ++ [x] := by
  rw [List.take_add_one, h]
  rfl
theorem range_more (j : Nat) : List.range (j + 1) = List.range j ++ [j] := List.range_succ
/-- all but the dict of a name -/
theorem codes_get {K : PySem.W.Frag} {H : Hp} : ∀ {kvs : List (Key × V)} {ds : List (Str × Int × List Row)} {d : Str × Int × List Row}, CodesR K H kvs ds → (ds.map (·.1)).Nodup → d ∈ ds → ∃ v, valV kvs (Sum.inr d.1 : Key) = some v ∧ Dp K H v (codeD d.2.2)
  | [], [], d, _, _, h => by cases h
  | (k, v) :: r, e :: ds, d, h, n, hd => by
    obtain ⟨rfl, hv, hr⟩ := h
    rw [List.map_cons, List.nodup_cons] at n
    by_cases q : e.1 = d.1
    · have : d = e := by
        rcases List.mem_cons.mp hd with z | z
        · exact z
        · exact absurd (q ▸ List.mem_map.mpr ⟨d, z, rfl⟩) n.1
      subst this
      refine ⟨v, ?_, hv⟩
      unfold valV
      rw [List.find?_cons_of_pos (by simp)]
      rfl
    · have hd' : d ∈ ds := by
        rcases List.mem_cons.mp hd with z | z
        · exact absurd (by rw [z]) q
        · exact z
      obtain ⟨u, hu, hw⟩ := codes_get hr n.2 hd'
      refine ⟨u, ?_, hw⟩
      unfold valV at hu ⊢
      rw [List.find?_cons_of_neg (by simp [q])]
      exact hu
  | [], _ :: _, _, h, _, _ => h.elim
  | _ :: _, [], _, h, _, _ => h.elim
/-! ### no lists within -/
theorem Exp.noL : ∀ e : Exp, NoL e.d
  | .num n => .int n
  | .reg r => .str r
  | .op s a b => .tup fun d h => by
    rcases List.mem_cons.mp h with rfl | h
    · exact .str s
    rcases List.mem_cons.mp h with rfl | h
    · exact a.noL
    rcases List.mem_cons.mp h with rfl | h
    · exact b.noL
    cases h
mutual
theorem Row.noL : ∀ r : Row, NoL r.d
  | .read r c => .tup (by intro d h; simp at h; rcases h with rfl | rfl | rfl <;> constructor)
  | .set c e => .tup (by intro d h; simp at h; rcases h with rfl | rfl | rfl <;> first | exact e.noL | constructor)
  | .swap r c e f => .tup (by intro d h; simp at h; rcases h with rfl | rfl | rfl | rfl | rfl <;> first | exact e.noL | exact f.noL | constructor)
  | .keep r e => .tup (by intro d h; simp at h; rcases h with rfl | rfl | rfl <;> first | exact e.noL | constructor)
  | .coin r => .tup (by intro d h; simp at h; rcases h with rfl | rfl <;> constructor)
  | .iff e a b => .tup (by intro d h; simp at h; rcases h with rfl | rfl | rfl | rfl <;> first | exact e.noL | exact .tup (rows_noL a) | exact .tup (rows_noL b) | constructor)
  | .times e a => .tup (by intro d h; simp at h; rcases h with rfl | rfl | rfl <;> first | exact e.noL | exact .tup (rows_noL a) | constructor)
  | .ans e => .tup (by intro d h; simp at h; rcases h with rfl | rfl <;> first | exact e.noL | constructor)
theorem rows_noL : ∀ rs : List Row, ∀ d ∈ rowsD rs, NoL d
  | [], d, h => by cases h
  | r :: rs, d, h => by
    rcases List.mem_cons.mp h with rfl | h
    · exact r.noL
    · exact rows_noL rs d h
end
theorem FR.noL : ∀ r : FR, NoL r.d
  | .row r => r.noL
  | .unless e p => .tup (by intro d h; simp at h; rcases h with rfl | rfl | rfl <;> first | exact e.noL | constructor)
  | .on p => .tup (by intro d h; simp at h; rcases h with rfl | rfl <;> constructor)
  | .rounds e => .tup (by intro d h; simp at h; rcases h with rfl | rfl <;> first | exact e.noL | constructor)
  | .round p => .tup (by intro d h; simp at h; rcases h with rfl | rfl <;> constructor)
  | .hole => .tup (by intro d h; cases h)
theorem code_noL (rs : List Row) : NoL (codeD rs) := .tup fun d h => by
  obtain ⟨r, _, rfl⟩ := List.mem_map.mp h
  exact r.noL
section
variable {P : Program} {w : World} {K : PySem.W.Frag} {mg : Str → Option Value} {base : Heap}
def spCalls (K : PySem.W.Frag) : Sp := fun vs H Q _ => ∃ (p : Addr) (v : Vlt), vs = [.ref p] ∧ VaultAt K H p v ∧ VOk v ∧ ∀ a ys H', Same H H' → H' a = some (.lst ys) → TupsAt H' ys v.calls → Q (.ref a) H'
theorem me_Vault_calls (T : Txt w K mg) : Me P w K mg base 1 (He.ga K "Vault") "calls" (spCalls K) := by
  refine me_of (N := ["self", "name", "choices", "_", "argument"]) (ps := ["self"]) T.f_Vault_calls T.c_Vault T.m_Vault_calls ⟨rfl, rfl, rfl, by decide +kernel, rfl, by decide +kernel, by decide +kernel⟩ (fun _ _ _ _ _ _ us hl => match us, hl with | [_], _ => rfl)
    (fun vs H Q E h => by obtain ⟨p, v, rfl, hv, ok, q⟩ := h; rfl) (fun cdv A outer s H vs Q E hr h => ?_)
  have nd : (["self", "name", "choices", "_", "argument"] : List Str).Nodup := by decide +kernel
  obtain ⟨p, v, rfl, hv, ok, q⟩ := h
  obtain ⟨dx, a, d, c, b, kvs, h1, h2, h3, h4, h5⟩ := hv.ob
  obtain ⟨d, xs, ea, hx, hxs⟩ := dp_tup h3
  cases ea
  refine ⟨_, pss_one (ps_ret (pe_lc2 (own := [("name", 1), ("choices", 2), ("_", 3), ("argument", 4)]) (vs1 := [4]) (tt := tYes) (tt1 := tYes) rfl nd (pi_tup (pe_fld (pv 0) rfl)) (blkOk_by (N := ["self", "name", "choices", "_", "argument"]) (sc := defScope s_Vault_calls) (by decide +kernel)) (by decide)
    (fun _ _ _ _ _ => pg_three K 1 2 3 rfl rfl nd rfl rfl rfl (.inl rfl) (.inl rfl) (.inl rfl) (.inr rfl) (.inr rfl) (.inr rfl)) (fun _ _ _ _ _ => pts_nil) (fun _ _ _ _ _ => pi_range1 rfl T.b_range (pa_cons (pv 2) pa_nil)) (fun _ _ _ _ _ => pg_name (i := 4) nd rfl (.inl rfl)) (fun _ _ _ _ _ => pts_nil)
    (fun _ _ _ _ _ => pe_tup (pa_cons (pv 1) (pa_cons (pv 4) pa_nil))))), ?_⟩
  have el : xs.length = v.deeds.length := by rw [dps_len hxs, List.length_map]
  refine ⟨_, rfl, p, _, _, _, _, rfl, h1, T.c_Vault, T.n_Vault_deeds, vf_deeds .., d, rfl, ⟨_, hx⟩, fun D hD => ?_⟩
  let F : List (Str × Int × List Row) → List (Str × Int) := fun l => l.flatMap fun d => (List.range d.2.1.toNat).map fun (j : Nat) => (d.1, (j : Int))
  have FS : ∀ l d, F (l ++ [d]) = F l ++ (List.range d.2.1.toNat).map fun (j : Nat) => (d.1, (j : Int)) := fun l d => by simp [F]
  have bnd : ∀ l, (∀ d ∈ l, d.2.1 ≤ 9) → (F l).length ≤ 9 * l.length := by
    intro l
    induction l with
    | nil => intro _; simp [F]
    | cons d r ih =>
      intro h
      have e : F (d :: r) = ((List.range d.2.1.toNat).map fun (j : Nat) => (d.1, (j : Int))) ++ F r := by simp [F]
      have h1 := h d List.mem_cons_self
      have h2 := ih fun d hd => h d (List.mem_cons_of_mem _ hd)
      rw [e, List.length_append, List.length_map, List.length_range, List.length_cons]
      omega
  refine it_any (n := xs.length) walk_tup (fun i H' => ∃ ys, Same H H' ∧ H' D = some (.lst ys) ∧ TupsAt H' ys (F (v.deeds.take i))) ⟨[], same_new hD, upd_same, trivial⟩ (fun i H' _ ⟨_, s, _⟩ => same_t s hx) ?_ ?_
  · rintro i x H' H2 hi ⟨ys, s, eD, hy⟩ ⟨rfl, ex⟩
    obtain ⟨dd, ed, hdd⟩ := dps_get hxs ex
    obtain ⟨cc, ec, rfl⟩ := get_mapA ed
    obtain ⟨t, x1, x2, x3, rfl, ht, e1, e2, e3⟩ := dp3 (dp_same s hdd)
    cases dp_str e1
    cases dp_int e2
    have hc := ok.ch cc (List.mem_of_getElem? ec)
    refine ⟨t, _, rfl, ht, rfl, _, _, rfl, _, _, rfl, _, _, rfl, rfl, rfl, ?_⟩
    refine ⟨_, rfl, cc.2.1, rfl, by omega, by omega, ?_⟩
    refine it_any (n := cc.2.1.toNat) walk_range (fun j H' => ∃ ys, Same H H' ∧ H' D = some (.lst ys) ∧ TupsAt H' ys (F (v.deeds.take i) ++ (List.range j).map fun (j : Nat) => (cc.1, (j : Int)))) ⟨ys, s, eD, by simpa using hy⟩ (fun _ _ _ _ => trivial) ?_ ?_
    · rintro j x H3 H4 hj ⟨zs, s3, eD3, hz⟩ ⟨rfl, rfl⟩
      refine ⟨rfl, _, rfl, _, rfl, (by show 2 ≤ sizeLine; decide), fun t ht => ?_⟩
      have ntD : D ≠ t := ne_of_none eD3 ht
      have hlz := tups_len hz
      have hb := bnd (v.deeds.take i) fun d hd => (ok.ch d (List.mem_of_mem_take hd)).2
      have hl8 : (v.deeds.take i).length ≤ 8 := by rw [List.length_take]; have := ok.d1; omega
      rw [List.length_append, List.length_map, List.length_range] at hlz
      refine ⟨zs, by rw [upd_ne ntD]; exact eD3, by rw [sizeLine_eq]; omega, zs ++ [.ref t], fun b o e => ?_, upd_same, ?_⟩
      · rw [upd_ne (ne_of_none e hD), upd_ne (ne_of_none (s3 b o e) ht)]
        exact s3 b o e
      · rw [range_more, List.map_append, ← List.append_assoc]
        refine tups_snoc ?_ (tups_but (D := D) (H := upd H4 t (.tup [.str cc.1, .int (0 + (j : Int))])) (.lst (l := zs) (by rw [upd_ne ntD]; exact eD3)) But.upd (tups_same (same_new ht) hz))
        rw [upd_ne (Ne.symm ntD), upd_same]
        simp
    · rintro H3 ⟨zs, s3, eD3, hz⟩
      refine ⟨zs, s3, eD3, ?_⟩
      rw [take_more ec, FS]
      exact hz
  · rintro H' ⟨ys, s, eD, hy⟩
    refine q D ys H' s eD ?_
    rw [el, List.take_length] at hy
    exact hy
end

end M

set_option Elab.async false
set_option linter.all false
set_option maxRecDepth 100000
set_option maxHeartbeats 2000000
namespace M
open PySem PySem.Spec PyProof.Rows L2

/-! ### pastless.bodies: what a body may be -/
def regs4 : List Str := ["a", "b", "c", "d"]
def regs5 : List Str := ["a", "b", "c", "d", "x"]
def signs : List Str := ["+", "-", "*", "=", "<"]
def Exp.ok : Exp → Prop
  | .num n => 0 ≤ n ∧ n ≤ 9
  | .reg r => r ∈ regs5
  | .op s a b => s ∈ signs ∧ a.ok ∧ b.ok
def Exp.dep : Exp → Nat
  | .op _ a b => Nat.max a.dep b.dep + 1
  | _ => 0
/-- a part of a row -/
inductive Prt where
  | reg (r : Str) | cell (k : Int) | ex (e : Exp) | rows (rs : List Row)
def Prt.d : Prt → PyData
  | .reg r => .str r
  | .cell k => .int k
  | .ex e => e.d
  | .rows rs => .tuple (rowsD rs)
def Prt.kind : Prt → Str
  | .reg _ => "REG"
  | .cell _ => "CELL"
  | .ex _ => "E"
  | .rows _ => "ROWS"
def Row.word : Row → Str
  | .read .. => "read" | .set .. => "set" | .swap .. => "swap" | .keep .. => "keep" | .coin .. => "coin" | .iff .. => "if" | .times .. => "times" | .ans .. => "answer"
def Row.prts : Row → List Prt
  | .read r c => [.reg r, .cell c]
  | .set c e => [.cell c, .ex e]
  | .swap r c e f => [.reg r, .cell c, .ex e, .ex f]
  | .keep r e => [.reg r, .ex e]
  | .coin r => [.reg r]
  | .iff e a b => [.ex e, .rows a, .rows b]
  | .times e a => [.ex e, .rows a]
  | .ans e => [.ex e]
theorem row_d (r : Row) : r.d = .tuple (.str r.word :: r.prts.map Prt.d) := by cases r <;> rfl
theorem rowsD_map : ∀ rs : List Row, rowsD rs = rs.map Row.d
  | [] => rfl
  | r :: rs => congrArg (r.d :: ·) (rowsD_map rs)
mutual
/-- rows in all, rows "coin" -/
def Row.cl : Row → Nat
  | .iff _ a b => 1 + (rowsCl a + rowsCl b)
  | .times _ a => 1 + rowsCl a
  | _ => 1
def rowsCl : List Row → Nat
  | [] => 0
  | r :: rs => r.cl + rowsCl rs
end
mutual
def Row.cc : Row → Nat
  | .iff _ a b => rowsCc a + rowsCc b
  | .times _ a => rowsCc a
  | .coin _ => 1
  | _ => 0
def rowsCc : List Row → Nat
  | [] => 0
  | r :: rs => r.cc + rowsCc rs
end
def Prt.cl : Prt → Nat
  | .rows rs => rowsCl rs
  | _ => 0
def Prt.cc : Prt → Nat
  | .rows rs => rowsCc rs
  | _ => 0
def sumN : List Nat → Nat
  | [] => 0
  | n :: r => n + sumN r
def Exp.good (e : Exp) : Prop := e.ok ∧ e.dep ≤ 6
mutual
def Row.ok (c : Int) (deep loops : Nat) : Row → Prop
  | .read r k => r ∈ regs4 ∧ 0 ≤ k ∧ k < c
  | .set k e => (0 ≤ k ∧ k < c) ∧ e.good
  | .swap r k e f => r ∈ regs4 ∧ (0 ≤ k ∧ k < c) ∧ e.good ∧ f.good
  | .keep r e => r ∈ regs4 ∧ e.good
  | .coin r => r ∈ regs4 ∧ loops = 0
  | .iff e a b => e.good ∧ rowsOk c (deep + 1) loops a ∧ rowsOk c (deep + 1) loops b
  | .times e a => e.good ∧ loops < 2 ∧ rowsOk c (deep + 1) (loops + 1) a
  | .ans e => e.good
def rowsOk (c : Int) (deep loops : Nat) : List Row → Prop
  | [] => True
  | r :: rs => deep ≤ 12 ∧ r.ok c deep loops ∧ rowsOk c deep loops rs
end
def Prt.ok (c : Int) (deep loops : Nat) : Prt → Prop
  | .reg r => r ∈ regs4
  | .cell k => 0 ≤ k ∧ k < c
  | .ex e => e.good
  | .rows rs => rowsOk c (deep + 1) loops rs
/-- the loops within which the parts of a row stand -/
def Row.lp (loops : Nat) : Row → Nat
  | .times .. => loops + 1
  | _ => loops
theorem row_prts {c : Int} {deep loops : Nat} {r : Row} (h : r.ok c deep loops) : ∀ p ∈ r.prts, p.ok c deep (r.lp loops) := by
  intro p hp
  cases r with
  | read r k => simp [Row.prts] at hp; simp [Row.ok] at h; rcases hp with rfl | rfl; exact h.1; exact h.2
  | set k e => simp [Row.prts] at hp; simp only [Row.ok] at h; rcases hp with rfl | rfl; exact h.1; exact h.2
  | swap r k e f => simp [Row.prts] at hp; simp only [Row.ok] at h; rcases hp with rfl | rfl | rfl | rfl; exact h.1; exact h.2.1; exact h.2.2.1; exact h.2.2.2
  | keep r e => simp [Row.prts] at hp; simp only [Row.ok] at h; rcases hp with rfl | rfl; exact h.1; exact h.2
  | coin r => simp [Row.prts] at hp; simp only [Row.ok] at h; subst hp; exact h.1
  | iff e a b => simp [Row.prts] at hp; simp only [Row.ok] at h; rcases hp with rfl | rfl | rfl; exact h.1; exact h.2.1; exact h.2.2
  | times e a => simp [Row.prts] at hp; simp only [Row.ok] at h; rcases hp with rfl | rfl; exact h.1; exact h.2.2
  | ans e => simp [Row.prts] at hp; simp only [Row.ok] at h; subst hp; exact h
theorem row_cl (r : Row) : r.cl = 1 + sumN (r.prts.map Prt.cl) := by cases r <;> simp [Row.cl, Row.prts, sumN, Prt.cl]
def Row.co : Row → Nat
  | .coin _ => 1
  | _ => 0
theorem row_cc (r : Row) : r.cc = r.co + sumN (r.prts.map Prt.cc) := by cases r <;> simp [Row.cc, Row.co, Row.prts, sumN, Prt.cc]
theorem sumN_take {l : List Nat} {i : Nat} {x : Nat} (h : l[i]? = some x) : sumN (l.take (i + 1)) = sumN (l.take i) + x := by
  induction l generalizing i with
  | nil => simp at h
  | cons a r ih =>
    cases i with
    | zero =>
      cases (Option.some.inj h)
      simp [sumN]
    | succ i =>
      have := ih (i := i) h
      show a + sumN (r.take (i + 1)) = a + sumN (r.take i) + x
      omega
theorem sumN_le (l : List Nat) (i : Nat) : sumN (l.take i) ≤ sumN l := by
  induction l generalizing i with
  | nil => simp [sumN]
  | cons a r ih =>
    cases i with
    | zero => simp [sumN]
    | succ i =>
      have := ih i
      show a + sumN (r.take i) ≤ a + sumN r
      omega
/-! ### what the module has written -/
section
variable {P : Program} {w : World} {K : PySem.W.Frag} {mg : Str → Option Value} {base : Heap}
theorem sq_HELD (T : Txt w K mg) (H : Hp) : SqT K H (He.ga K "HELD") (regs5.map V.str) := He.tupB_ok T.e_HELD H
theorem sq_SIGNS (T : Txt w K mg) (H : Hp) : SqT K H (He.ga K "SIGNS") (signs.map V.str) := He.tupB_ok T.e_SIGNS H
theorem sq_CHANGED (T : Txt w K mg) (H : Hp) : SqT K H (He.ga K "CHANGED") (regs4.map V.str) := He.tupB_ok T.e_CHANGED H
theorem in_regs5 : ∀ r ∈ regs5, inV (.str r) (regs5.map V.str) = true := by
  intro r h
  rw [show regs5 = (["a", "b", "c", "d", "x"] : List Str) from rfl] at h
  simp only [List.mem_cons, List.not_mem_nil, or_false] at h
  rcases h with rfl | rfl | rfl | rfl | rfl <;> decide +kernel
theorem in_regs4 : ∀ r ∈ regs4, inV (.str r) (regs4.map V.str) = true := by
  intro r h
  rw [show regs4 = (["a", "b", "c", "d"] : List Str) from rfl] at h
  simp only [List.mem_cons, List.not_mem_nil, or_false] at h
  rcases h with rfl | rfl | rfl | rfl <;> decide +kernel
theorem in_signs : ∀ r ∈ signs, inV (.str r) (signs.map V.str) = true := by
  intro r h
  rw [show signs = (["+", "-", "*", "=", "<"] : List Str) from rfl] at h
  simp only [List.mem_cons, List.not_mem_nil, or_false] at h
  rcases h with rfl | rfl | rfl | rfl | rfl <;> decide +kernel
/-- a def that promises nothing -/
theorem ca_false {x : Str} {st : Stmt} {ps : List Str} {k : Nat} (F : ∃ fd, FunD K x x (defArgs st) (defBody st) (defScope st) [] [] (He.fAd K (x, none)) fd) (g : mg x = some (.ref (He.ga K x))) (hb : BindsH x x st ps) : Ca P w K mg base k x (fun _ _ _ _ => False) := by
  obtain ⟨fd, F⟩ := F
  exact ⟨_, fd, ps, ⟨fun _ _ _ _ h => h.elim, fun _ _ _ _ _ _ _ _ _ _ _ _ _ h => h.elim⟩, g, F.kp, F.bindsN hb⟩
/-- is_expression, n tuples deep at most but one -/
def spE (K : PySem.W.Frag) : Nat → Sp
  | 0 => fun _ _ _ _ => False
  | n + 1 => fun vs H Q _ => ∃ (v : V) (e : Exp) (deep : Nat), vs = [v, .int deep] ∧ Dp K H v e.d ∧ e.ok ∧ e.dep ≤ n ∧ deep + e.dep ≤ 6 ∧ Q (.bl true) H
theorem ca_is_expression (T : Txt w K mg) : ∀ n : Nat, Ca P w K mg base (n + 2) "is_expression" (spE K n)
  | 0 => ca_false (ps := ["value", "deep"]) T.f_is_expression T.g_is_expression (fun _ _ _ _ _ _ us hl => match us, hl with | [_, _], _ => rfl)
  | n + 1 => by
    have ih := ca_is_expression T n
    refine ca_of (N := ["value", "deep", "sign", "one", "other"]) (ps := ["value", "deep"]) T.f_is_expression T.g_is_expression ⟨rfl, rfl, rfl, by decide +kernel, rfl, by decide +kernel, by decide +kernel⟩ (fun _ _ _ _ _ _ us hl => match us, hl with | [_, _], _ => rfl)
      (fun vs H Q E h => by obtain ⟨v, e, deep, rfl, hv, ok, hd, h6, q⟩ := h; rfl) (fun cdv A outer s H vs Q E hr h => ?_)
    have nd : (["value", "deep", "sign", "one", "other"] : List Str).Nodup := by decide +kernel
    obtain ⟨v, e, deep, rfl, hv, ok, hd, h6, q⟩ := h
    refine ⟨_, pss_cons (ps_if (pt_val (pe_ca (ca_is_integer T) hr (pa_cons (pv 0) pa_nil) (by omega))) (pss_one (ps_ret (pe_chain op_le op_le pe_int (pv 0) pe_int))) pss_nil)
      (pss_cons (ps_if (pt_val (pe_is .str T.b_isinstance (pv 0) T.b_str boot_str)) (pss_one (ps_ret (pe_cmpR op_in_seq (pv 0) (pe_gr T.g_HELD) (by rfl)))) pss_nil)
      (pss_cons (ps_if (PW.pt (pw_or (pt_not (pt_val (pe_ca (ca_is_tuple T) hr (pa_cons (pv 0) (pa_cons pe_int pa_nil)) (by omega)))) (pw_or1 (pt_cmpR op_eq (pv 1) (pe_gi T.i_DEEPEST_EXPRESSION) (nomark _))))) (pss_one (ps_ret pe_bl)) pss_nil)
      (pss_cons (ps_asg (pv 0) (pg_three K 2 3 4 rfl rfl nd rfl rfl rfl (.inl rfl) (.inl rfl) (.inl rfl) (.inr rfl) (.inr rfl) (.inr rfl)))
      (pss_one (ps_ret (pe_and (pe_cmpR op_in_seq (pv 2) (pe_gr T.g_SIGNS) (by rfl)) (pe_and (pe_ca ih hr (pa_cons (pv 3) (pa_cons (pe_op op_add (pv 1) pe_int) pa_nil)) (by omega)) (pe_one (pe_ca ih hr (pa_cons (pv 4) (pa_cons (pe_op op_add (pv 1) pe_int) pa_nil)) (by omega)))))))))), ?_⟩
    cases e with
    | num m =>
      cases dp_int hv
      refine ⟨_, rfl, _, _, rfl, .int m, _, rfl, iteT ?_⟩
      refine ⟨_, rfl, _, _, rfl, rfl, _, rfl, ?_⟩
      rw [decide_eq_true ok.1]
      refine iteT ⟨_, _, rfl, rfl, ?_⟩
      show Q (.bl (decide (m ≤ 9))) H
      rw [decide_eq_true ok.2]
      exact q
    | reg r =>
      cases dp_str hv
      refine ⟨_, rfl, _, _, rfl, .str r, _, rfl, iteF ?_⟩
      refine ⟨_, rfl, _, _, rfl, .str r, _, rfl, iteT ?_⟩
      refine ⟨_, rfl, _, _, rfl, .inr (sq_HELD T H), rfl, by decide +kernel, ?_⟩
      show Q (.bl (inV (.str r) (regs5.map V.str))) H
      rw [in_regs5 r ok]
      exact q
    | op s a b =>
      obtain ⟨p, x, y, z, rfl, hp, hx, hy, hz⟩ := dp3 hv
      cases dp_str hx
      have hn : 1 ≤ n := by have : Nat.max a.dep b.dep + 1 ≤ n := hd; omega
      obtain ⟨m, rfl⟩ : ∃ m, n = m + 1 := ⟨n - 1, by omega⟩
      have hd' : Nat.max a.dep b.dep + 1 ≤ m + 1 := hd
      have h6' : deep + (Nat.max a.dep b.dep + 1) ≤ 6 := h6
      have ha : a.dep ≤ Nat.max a.dep b.dep := Nat.le_max_left ..
      have hb : b.dep ≤ Nat.max a.dep b.dep := Nat.le_max_right ..
      refine ⟨_, rfl, _, _, rfl, .tuple hp, _, rfl, iteF ?_⟩
      refine ⟨_, rfl, _, _, rfl, .tuple hp, _, rfl, iteF ?_⟩
      refine ⟨_, rfl, p, _, _, rfl, hp, _, rfl, iteF ?_⟩
      refine ⟨_, rfl, rfl, _, rfl, ?_⟩
      rw [decide_eq_false (show ¬ V.int (deep : Int) = V.int 6 from fun e => by have := V.int.inj e; omega)]
      refine iteF ?_
      refine ⟨_, rfl, p, _, rfl, hp, rfl, _, _, rfl, _, _, rfl, _, _, rfl, rfl, ?_⟩
      refine ⟨_, rfl, _, _, rfl, .inr (sq_SIGNS T H), rfl, by decide +kernel, _, rfl, ?_⟩
      rw [show inV (.str s) (signs.map V.str) = true from in_signs s ok.1]
      refine iteT ?_
      refine ⟨_, rfl, _, rfl, _, _, rfl, rfl, y, a, deep + 1, by simp, hy, ok.2.1, by omega, by omega, _, rfl, iteT ?_⟩
      exact ⟨_, rfl, _, rfl, _, _, rfl, rfl, z, b, deep + 1, by simp, hz, ok.2.2, by omega, by omega, q⟩
end

end M

set_option Elab.async false
set_option linter.all false
set_option maxRecDepth 100000
set_option maxHeartbeats 2000000
namespace M
open PySem PySem.Spec PyProof.Rows L2

theorem at0 {a : V} {xs : List V} : atI (a :: xs) 0 = some a := atI_nat (xs := a :: xs) (j := 0) rfl
theorem at1 {a b : V} {xs : List V} : atI (a :: b :: xs) 1 = some b := atI_nat (xs := a :: b :: xs) (j := 1) rfl
theorem at2 {a b c : V} {xs : List V} : atI (a :: b :: c :: xs) 2 = some c := atI_nat (xs := a :: b :: c :: xs) (j := 2) rfl
theorem at3 {a b c d : V} {xs : List V} : atI (a :: b :: c :: d :: xs) 3 = some d := atI_nat (xs := a :: b :: c :: d :: xs) (j := 3) rfl
theorem at4 {a b c d e : V} {xs : List V} : atI (a :: b :: c :: d :: e :: xs) 4 = some e := atI_nat (xs := a :: b :: c :: d :: e :: xs) (j := 4) rfl
/-! ### d.get(x) of a written dict -/
section
variable {X : Cx} {d : Addr} {es : Array DictEntry} {n : Nat} {o e : Expr} {apos cpos : Pos} {to te : TE}
/-- what d.get(x) gives: what is written at x -/
def tKGet (K : PySem.W.Frag) (d : Addr) (to te : TE) : TE := fun σ H Q => to σ H fun x H1 => x = .ref d ∧ te σ H1 fun y H2 => ∃ (z : Str) (u0 : Value) (v0 : V), y = .str z ∧ PySem.W.nsIn K d z = some (some u0) ∧ RelV v0 u0 ∧ Q v0 H2
theorem pe_kget (D : KDict X.K X.w d es n) (ho : PE X o to) (he : PE X e te) (m : M1 X o "get" apos e cpos) : PE X (.Call (.Attribute o "get" apos) [e] [] cpos) (tKGet X.K d to te) := by
  refine ⟨fun pins s σ H Q I h => ?_⟩
  refine wpAny_Call_method m.base m.few m.line PySem.F.plainAttrs_dict PySem.F.slot_dict_get PySem.F.type_dict_get (thn (ho.run pins s σ H _ I h) fun u s1 hu => ?_)
  obtain ⟨x, H1, I1, rx, ex, q1⟩ := hu
  subst ex
  cases rx
  have M1 : s1.heap.MapOf (strKind X.prog X.w) d _ := PySem.W.mapOf_K (prog := X.prog) I1.kIn D.at_ D.lit
  refine ⟨M1.typeIs, M1.noDict, ?_⟩
  rw [m.trees]
  refine Calls.callWith_builtin rfl (Calls.evalArgs_plain (Calls.spliced_cons (thn (he.run pins s1 σ H1 _ I1 q1) fun iv s2 hv => Calls.spliced_nil ?_)))
  obtain ⟨y, H2, I2, ry, z, u0, v0, ey, hz, r0, q2⟩ := hv
  subst ey
  obtain ⟨t, et⟩ := ry
  subst et
  have M2 : s2.heap.MapOf (strKind X.prog X.w) d _ := PySem.W.mapOf_K (prog := X.prog) I2.kIn D.at_ D.lit
  refine call_meetsIn PySem.F.slot_dict_get M2.typeIs PySem.F.entry_dict_get (PySem.F.args_dict_get_2 _ _) (meets_dict_get (strKind X.prog X.w) d (PySem.strKind_is X.prog X.w z t) D.low) ⟨_, M2, ?_⟩
  rw [PySem.W.find_K D.at_ hz]
  exact ⟨v0, H2, I2.tok _, r0, q2⟩
end
/-! ### the tally of a body -/
def tfl (c co li : Int) : List (Str × V) := putF "lines" (.int li) (putF "coins" (.int co) (putF "cells" (.int c) []))
theorem t1 : ¬ (("cells" : Str) = "coins") := by decide +kernel
theorem t2 : ¬ (("cells" : Str) = "lines") := by decide +kernel
theorem t3 : ¬ (("coins" : Str) = "lines") := by decide +kernel
theorem tfl_eq (c co li : Int) : tfl c co li = ([("cells", V.int c), ("coins", V.int co), ("lines", V.int li)] : List (Str × V)) := by
  unfold tfl
  simp only [putF, if_neg t1, if_neg t2, if_neg t3]
theorem tf_cells (c co li : Int) : (tfl c co li).lookup ("cells" : Str) = some (.int c) := by
  unfold tfl
  rw [lookup_putF, if_neg t2, lookup_putF, if_neg t1, lookup_putF, if_pos rfl]
theorem tf_coins (c co li : Int) : (tfl c co li).lookup ("coins" : Str) = some (.int co) := by
  unfold tfl
  rw [lookup_putF, if_neg t3, lookup_putF, if_pos rfl]
theorem tf_lines (c co li : Int) : (tfl c co li).lookup ("lines" : Str) = some (.int li) := by
  unfold tfl
  rw [lookup_putF, if_pos rfl]
theorem tf_putL (c co li y : Int) : putF "lines" (.int y) (tfl c co li) = tfl c co y := by
  rw [tfl_eq, tfl_eq]
  simp only [putF]
  rw [if_neg t2, if_neg t3, if_pos trivial]
theorem tf_putC (c co li y : Int) : putF "coins" (.int y) (tfl c co li) = tfl c y li := by
  rw [tfl_eq, tfl_eq]
  simp only [putF]
  rw [if_neg t1, if_pos trivial]
def TallyAt (K : PySem.W.Frag) (H : Hp) (t : Addr) (c co li : Int) : Prop := ∃ dx, H t = some (.ins (He.ga K "Tally") dx (tfl c co li))
theorem forms_of {K : PySem.W.Frag} {a : Addr} {kvs : List (Str × List Str)} (h : formsB K a kvs = true) {q : Str × List Str} (hq : q ∈ kvs) (H : Hp) : ∃ t, PySem.W.nsIn K a q.1 = some (some (.ref t)) ∧ SqT K H t (q.2.map V.str) := by
  have z := List.all_eq_true.mp h q hq
  split at z
  · rename_i t e
    split at z
    · rename_i c its n sl e2
      obtain ⟨h1, z⟩ := He.ba z
      obtain ⟨h2, h3⟩ := He.ba z
      have h1 := of_decide_eq_true h1
      subst h1
      refine ⟨t, e, .inr ⟨_, its, n, e2, rfl, rfl, of_decide_eq_true h2, He.relAll_ok h3⟩⟩
    · cases z
  · cases z
/-- the forms as the module has written them -/
def forms : List (Str × List Str) := [("read", ["REG", "CELL"]), ("set", ["CELL", "E"]), ("swap", ["REG", "CELL", "E", "E"]), ("keep", ["REG", "E"]), ("coin", ["REG"]), ("if", ["E", "ROWS", "ROWS"]), ("times", ["E", "ROWS"]), ("answer", ["E"])]
theorem row_form (r : Row) : (r.word, r.prts.map Prt.kind) ∈ forms := by
  unfold forms
  cases r <;> simp [Row.word, Row.prts, Prt.kind]
section
variable {P : Program} {w : World} {K : PySem.W.Frag} {mg : Str → Option Value} {base : Heap}
theorem form_at (T : Txt w K mg) (r : Row) (H : Hp) : ∃ t, PySem.W.nsIn K (He.ga K "FORMS") r.word = some (some (.ref t)) ∧ SqT K H t ((r.prts.map Prt.kind).map V.str) := forms_of (kvs := forms) T.e_FORMS (row_form r) H
def spTally (K : PySem.W.Frag) : Sp := fun vs H Q _ => ∃ (p dx : Addr) (c : Int), vs = [.ref p, .int c] ∧ H p = some (.ins (He.ga K "Tally") dx []) ∧ Q .non (upd H p (.ins (He.ga K "Tally") dx (tfl c 0 0)))
theorem ma_Tally (T : Txt w K mg) : Ma P w K mg base 1 "Tally" (He.ga K "Tally") (spTally K) := by
  refine ma_of (N := ["self", "cells"]) (ps := ["self", "cells"]) T.f_Tally_init T.g_Tally T.k_Tally ⟨rfl, rfl, rfl, by decide +kernel, rfl, by decide +kernel, by decide +kernel⟩ (fun _ _ _ _ _ _ us hl => match us, hl with | [_, _], _ => rfl)
    (fun vs H Q E h => by obtain ⟨p, dx, c, rfl, hp, q⟩ := h; rfl) (fun cdv A outer s H vs Q E hr h => ?_)
  have nd : (["self", "cells"] : List Str).Nodup := by decide +kernel
  obtain ⟨p, dx, c, rfl, hp, q⟩ := h
  refine ⟨_, pss_cons (ps_fld (pv 0) (pv 1) rfl) (pss_cons (ps_fld (pv 0) pe_int rfl) (pss_one (ps_fld (pv 0) pe_int rfl))), ?_⟩
  refine ⟨_, rfl, _, rfl, p, _, dx, _, rfl, hp, T.c_Tally, T.n_Tally_cells, (by show 0 < 1000; decide), ?_⟩
  refine ⟨_, rfl, p, _, dx, _, rfl, upd_same, T.c_Tally, T.n_Tally_coins, (by show 1 < 1000; decide), ?_⟩
  refine ⟨_, rfl, p, _, dx, _, rfl, upd_same, T.c_Tally, T.n_Tally_lines, (by show 2 < 1000; decide), ?_⟩
  rw [upd_upd, upd_upd]
  exact q
/-! ### the rows of a body, n ifs and times deep at most but one -/
def spRows (K : PySem.W.Frag) : Nat → Sp
  | 0 => fun _ _ _ _ => False
  | n + 1 => fun vs H Q _ => ∃ (v : V) (rs : List Row) (deep loops : Nat) (t : Addr) (c : Int) (co li : Nat), vs = [v, .int deep, .int loops, .ref t] ∧ Dp K H v (.tuple (rowsD rs)) ∧ TallyAt K H t c co li ∧ rowsOk c deep loops rs ∧ 14 ≤ deep + (n + 1) ∧ co + rowsCc rs ≤ 4 ∧ li + rowsCl rs ≤ 2000 ∧
    ∀ H', But t H H' → TallyAt K H' t c ((co + rowsCc rs : Nat) : Int) ((li + rowsCl rs : Nat) : Int) → Q (.bl true) H'
def spPart (K : PySem.W.Frag) (n : Nat) : Sp := fun vs H Q _ => ∃ (v : V) (p : Prt) (deep loops : Nat) (t : Addr) (c : Int) (co li : Nat), vs = [.str p.kind, v, .int deep, .int loops, .ref t] ∧ Dp K H v p.d ∧ TallyAt K H t c co li ∧ p.ok c deep loops ∧ (14 ≤ deep + (n + 1) ∧ deep ≤ 12) ∧ co + p.cc ≤ 4 ∧ li + p.cl ≤ 2000 ∧
    ∀ H', But t H H' → TallyAt K H' t c ((co + p.cc : Nat) : Int) ((li + p.cl : Nat) : Int) → Q (.bl true) H'
theorem ca_is_part {n : Nat} (R : Ca P w K mg base (3 * n + 10) "are_body_rows" (spRows K n)) (T : Txt w K mg) : Ca P w K mg base (3 * n + 11) "is_part" (spPart K n) := by
    refine ca_of (N := ["kind", "value", "deep", "loops", "tally"]) (ps := ["kind", "value", "deep", "loops", "tally"]) T.f_is_part T.g_is_part ⟨rfl, rfl, rfl, by decide +kernel, rfl, by decide +kernel, by decide +kernel⟩ (fun _ _ _ _ _ _ us hl => match us, hl with | [_, _, _, _, _], _ => rfl)
      (fun vs H Q E h => by obtain ⟨v, p, deep, loops, t, c, co, li, rfl, hv, ht, ok, hd, hc, hl, q⟩ := h; rfl) (fun cdv A outer s H vs Q E hr h => ?_)
    have nd : (["kind", "value", "deep", "loops", "tally"] : List Str).Nodup := by decide +kernel
    obtain ⟨v, p, deep, loops, t, c, co, li, rfl, hv, ht, ok, hd, hc, hl, q⟩ := h
    refine ⟨_, pss_cons (ps_if (pt_cmpR op_eq (pv 0) pe_str (nomark _)) (pss_one (ps_ret (pe_cmpR op_in_seq (pv 1) (pe_gr T.g_CHANGED) (by rfl)))) pss_nil)
      (pss_cons (ps_if (pt_cmpR op_eq (pv 0) pe_str (nomark _)) (pss_one (ps_ret (pe_ca (ca_is_within T) hr (pa_cons (pv 1) (pa_cons pe_int (pa_cons (pe_op op_sub (pe_fld (pv 4) rfl) pe_int) pa_nil))) (by omega)))) pss_nil)
      (pss_cons (ps_if (pt_cmpR op_eq (pv 0) pe_str (nomark _)) (pss_one (ps_ret (pe_ca (ca_is_expression T 7) hr (pa_cons (pv 1) (pa_cons pe_int pa_nil)) (by omega)))) pss_nil)
      (pss_one (ps_ret (pe_ca R hr (pa_cons (pv 1) (pa_cons (pe_op op_add (pv 2) pe_int) (pa_cons (pv 3) (pa_cons (pv 4) pa_nil)))) (by omega)))))), ?_⟩
    obtain ⟨dx, ht'⟩ := id ht
    cases p with
    | reg r =>
      cases dp_str hv
      refine ⟨_, rfl, rfl, _, rfl, iteT ?_⟩
      refine ⟨_, rfl, _, _, rfl, .inr (sq_CHANGED T H), rfl, by decide +kernel, ?_⟩
      show Q (.bl (inV (.str r) (regs4.map V.str))) H
      rw [in_regs4 r ok]
      exact q H (fun b o _ e => e) ht
    | cell k =>
      cases dp_int hv
      refine ⟨_, rfl, rfl, _, rfl, iteF ?_⟩
      refine ⟨_, rfl, rfl, _, rfl, iteT ?_⟩
      refine ⟨_, rfl, _, rfl, t, _, dx, _, _, rfl, ht', T.c_Tally, T.n_Tally_cells, tf_cells .., _, _, rfl, rfl, k, 0, c - 1, rfl, ?_⟩
      rw [within_t ⟨ok.1, by have := ok.2; omega⟩]
      exact q H (fun b o _ e => e) ht
    | ex e =>
      refine ⟨_, rfl, rfl, _, rfl, iteF ?_⟩
      refine ⟨_, rfl, rfl, _, rfl, iteF ?_⟩
      refine ⟨_, rfl, rfl, _, rfl, iteT ?_⟩
      exact ⟨_, rfl, v, e, 0, rfl, hv, ok.1, ok.2, by have := ok.2; omega, q H (fun b o _ e => e) ht⟩
    | rows rs =>
      refine ⟨_, rfl, rfl, _, rfl, iteF ?_⟩
      refine ⟨_, rfl, rfl, _, rfl, iteF ?_⟩
      refine ⟨_, rfl, rfl, _, rfl, iteF ?_⟩
      obtain ⟨m, rfl⟩ : ∃ m, n = m + 1 := ⟨n - 1, by omega⟩
      exact ⟨_, rfl, _, rfl, _, _, rfl, rfl, _, rfl, _, rfl, v, rs, deep + 1, loops, t, c, co, li, by simp, hv, ht, ok, by omega, hc, hl, q⟩
end

end M

set_option Elab.async false
set_option linter.all false
set_option maxRecDepth 100000
set_option maxHeartbeats 2000000
namespace M
open PySem PySem.Spec PyProof.Rows L2

theorem cut1 (x : V) (xs : List V) : cutV (x :: xs) (some 1) none = xs := by
  unfold cutV
  rw [show (some (1 : Int)) = some ((1 : Nat) : Int) from rfl, HT.sIx_nat, HT.sIx_none, show min 1 (x :: xs).length = 1 from by simp]
  simp
theorem cut1_not (x : V) (xs : List V) : ¬ (HT.sIx (x :: xs).length 0 (some 1) = 0 ∧ HT.sIx (x :: xs).length (x :: xs).length none = (x :: xs).length) := by
  rw [show (some (1 : Int)) = some ((1 : Nat) : Int) from rfl, HT.sIx_nat, show min 1 (x :: xs).length = 1 from by simp]
  intro h
  exact absurd h.1 (by decide)
theorem word_coin {r : Row} (h : r.word = "coin") : ∃ x, r = .coin x := by
  cases r with
  | read r c => exact absurd (show ("read" : Str) = "coin" from h) (by decide +kernel)
  | set c e => exact absurd (show ("set" : Str) = "coin" from h) (by decide +kernel)
  | swap r c e f => exact absurd (show ("swap" : Str) = "coin" from h) (by decide +kernel)
  | keep r e => exact absurd (show ("keep" : Str) = "coin" from h) (by decide +kernel)
  | coin r => exact ⟨r, rfl⟩
  | iff e a b => exact absurd (show ("if" : Str) = "coin" from h) (by decide +kernel)
  | times e a => exact absurd (show ("times" : Str) = "coin" from h) (by decide +kernel)
  | ans e => exact absurd (show ("answer" : Str) = "coin" from h) (by decide +kernel)
theorem word_times {r : Row} (h : r.word = "times") : ∃ e a, r = .times e a := by
  cases r with
  | read r c => exact absurd (show ("read" : Str) = "times" from h) (by decide +kernel)
  | set c e => exact absurd (show ("set" : Str) = "times" from h) (by decide +kernel)
  | swap r c e f => exact absurd (show ("swap" : Str) = "times" from h) (by decide +kernel)
  | keep r e => exact absurd (show ("keep" : Str) = "times" from h) (by decide +kernel)
  | coin r => exact absurd (show ("coin" : Str) = "times" from h) (by decide +kernel)
  | iff e a b => exact absurd (show ("if" : Str) = "times" from h) (by decide +kernel)
  | times e a => exact ⟨e, a, rfl⟩
  | ans e => exact absurd (show ("answer" : Str) = "times" from h) (by decide +kernel)
theorem lp_eq {loops : Nat} {r : Row} (h : r.word ≠ "times") : r.lp loops = loops := by
  cases r <;> first | rfl | exact absurd rfl h
theorem co_eq {r : Row} (h : r.word ≠ "coin") : r.co = 0 := by
  cases r <;> first | rfl | exact absurd rfl h
section
variable {P : Program} {w : World} {K : PySem.W.Frag} {mg : Str → Option Value} {base : Heap}
def spRow (K : PySem.W.Frag) (n : Nat) : Sp := fun vs H Q _ => ∃ (v : V) (r : Row) (deep loops : Nat) (t : Addr) (c : Int) (co li : Nat), vs = [v, .int deep, .int loops, .ref t] ∧ Dp K H v r.d ∧ TallyAt K H t c co li ∧ r.ok c deep loops ∧ (14 ≤ deep + (n + 1) ∧ deep ≤ 12) ∧ co + r.cc ≤ 4 ∧ li + sumN (r.prts.map Prt.cl) ≤ 2000 ∧
    ∀ H', But t H H' → TallyAt K H' t c ((co + r.cc : Nat) : Int) ((li + sumN (r.prts.map Prt.cl) : Nat) : Int) → Q (.bl true) H'
theorem ca_is_body_row {n : Nat} (R : Ca P w K mg base (3 * n + 11) "is_part" (spPart K n)) (T : Txt w K mg) : Ca P w K mg base (3 * n + 12) "is_body_row" (spRow K n) := by
    refine ca_of (N := ["row", "deep", "loops", "tally", "form", "kind", "part"]) (ps := ["row", "deep", "loops", "tally"]) T.f_is_body_row T.g_is_body_row ⟨rfl, rfl, rfl, by decide +kernel, rfl, by decide +kernel, by decide +kernel⟩ (fun _ _ _ _ _ _ us hl => match us, hl with | [_, _, _, _], _ => rfl)
      (fun vs H Q E h => by obtain ⟨v, r, deep, loops, t, c, co, li, rfl, hv, ht, ok, hd, hc, hl, q⟩ := h; rfl) (fun cdv A outer s H vs Q E hr h => ?_)
    have nd : (["row", "deep", "loops", "tally", "form", "kind", "part"] : List Str).Nodup := by decide +kernel
    obtain ⟨v, r, deep, loops, t, c, co, li, rfl, hv, ht, ok, hd, hc, hl, q⟩ := h
    obtain ⟨es, nn, D⟩ := T.t_FORMS
    rw [row_d] at hv
    obtain ⟨a, xs, rfl, ha, hxs⟩ := dp_tup hv
    obtain ⟨y, ys, rfl, hy, hys⟩ : ∃ y ys, xs = y :: ys ∧ Dp K H y (.str r.word) ∧ DpAll K H ys (r.prts.map Prt.d) := by
      cases hxs with | cons h1 h2 => exact ⟨_, _, rfl, h1, h2⟩
    cases dp_str hy
    obtain ⟨f, hf, hfs⟩ := form_at T r H
    refine ⟨_, pss_cons (ps_if (PW.pt (pw_or (pt_not (pt_val (pe_is .tuple T.b_isinstance (pv 0) T.b_tuple boot_tuple))) (pw_or (pt_cmpR op_eq (pe_callB call_len_seq (by rfl) T.b_len PySem.boot_len (pa_cons (pv 0) pa_nil)) pe_int (nomark _)) (pw_or1 (pt_not (pt_val (pe_is .str T.b_isinstance (pe_ix ix_tup (pv 0) pe_int (fun _ _ => rfl)) T.b_str boot_str))))))) (pss_one (ps_ret pe_bl)) pss_nil)
      (pss_cons (ps_set (i := 4) nd rfl (.inl rfl) (pe_kget D (pe_gr T.g_FORMS) (pe_ix ix_tup (pv 0) pe_int (fun _ _ => rfl)) ⟨rfl, rfl, rfl, rfl⟩))
      (pss_cons (ps_if (PW.pt (pw_or (pt_cmp (pc_isN (pv 4))) (pw_or1 (pt_cmpR op_ne (pe_callB call_len_seq (by rfl) T.b_len PySem.boot_len (pa_cons (pv 0) pa_nil)) (pe_op op_add pe_int (pe_callB call_len_seq (by rfl) T.b_len PySem.boot_len (pa_cons (pv 4) pa_nil))) (nomark _))))) (pss_one (ps_ret pe_bl)) pss_nil)
      (C8.pss_cut (ps_if (pt_cmpR op_eq (pe_ix ix_tup (pv 0) pe_int (fun _ _ => rfl)) pe_str (nomark _)) (pss_cons (ps_fldaug (pv 3) pe_int in_add) (pss_one (ps_if (PW.pt (pw_or (pt_cmpR op_gt (pv 2) pe_int (nomark _)) (pw_or1 (pt_cmpR op_gt (pe_fld (pv 3) rfl) (pe_gi T.i_MOST_COINS) (nomark _))))) (pss_one (ps_ret pe_bl)) pss_nil))) pss_nil)
      (C8.pss_cut (ps_if (pt_cmpR op_eq (pe_ix ix_tup (pv 0) pe_int (fun _ _ => rfl)) pe_str (nomark _)) (pss_cons (ps_aug (i := 2) nd rfl (.inl rfl) pe_int ip_add) (pss_one (ps_if (pt_cmpR op_gt (pv 2) (pe_gi T.i_DEEPEST_TIMES) (nomark _)) (pss_one (ps_ret pe_bl)) pss_nil))) pss_nil)
      (pss_cons (ps_for PassesOwn.never rfl (RZ.pi_zipA (by rfl) T.b_zip (pa_cons (pv 4) (pa_cons (pe_slice sl_tup (pv 0) (po_some pe_int) po_none) pa_nil))) (pg_two K 5 6 rfl rfl nd rfl rfl (.inl rfl) (.inl rfl) (.inr rfl) (.inr rfl))
        (pss_one (ps_if (pt_not (pt_val (pe_ca R hr (pa_cons (pv 5) (pa_cons (pv 6) (pa_cons (pv 1) (pa_cons (pv 2) (pa_cons (pv 3) pa_nil)))))  (by omega)))) (pss_one (ps_ret pe_bl)) pss_nil)))
      (pss_one (ps_ret pe_bl))))))), ?_⟩
    have lxs : ys.length = r.prts.length := by rw [dps_len hys, List.length_map]
    -- a tuple of a word and more
    refine ⟨_, rfl, _, _, rfl, .tuple ha, _, rfl, iteF ?_⟩
    refine ⟨_, rfl, _, _, rfl, .inr ha, rfl, _, rfl, ?_⟩
    rw [decide_eq_false (show ¬ V.int (((.str r.word :: ys : List V).length : Nat) : Int) = V.int 0 from fun e => by have := V.int.inj e; simp at this; omega)]
    refine iteF ?_
    refine ⟨_, rfl, _, _, _, _, rfl, rfl, ha, at0, _, _, rfl, .str _, _, rfl, iteF ?_⟩
    -- its form
    refine ⟨rfl, _, rfl, _, _, _, _, rfl, rfl, ha, at0, r.word, _, .ref f, rfl, hf, rfl, ?_⟩
    refine ⟨_, rfl, _, rfl, iteF ?_⟩
    refine ⟨_, rfl, _, _, rfl, .inr ha, _, rfl, _, _, rfl, .inr hfs, _, _, rfl, rfl, rfl, _, rfl, ?_⟩
    refine iteNS (by rw [List.length_cons, lxs, List.length_map, List.length_map]; congr 1; omega) ?_
    -- the coins
    refine ⟨fun σ' H' => σ' = [some (.ref a), some (.int deep), some (.int loops), some (.ref t), some (.ref f), none, none] ∧ But t H H' ∧ TallyAt K H' t c ((co + r.co : Nat) : Int) li, ?_, ?_⟩
    · refine ⟨_, rfl, _, _, _, _, rfl, rfl, ha, at0, rfl, _, rfl, ?_⟩
      by_cases e : r.word = "coin"
      · rw [e]
        refine iteT ?_
        obtain ⟨dx, ht'⟩ := ht
        refine ⟨_, rfl, t, _, dx, _, _, rfl, ht', T.c_Tally, T.n_Tally_coins, tf_coins .., _, _, rfl, rfl, dx, _, ht', (by rw [tfl_eq]; show 3 < 1000; decide), ?_⟩
        rw [tf_putC]
        obtain ⟨x, rfl⟩ := word_coin e
        have e1 : (Row.coin x).co = 1 := rfl
        have e2 : loops = 0 := ok.2
        have e3 := row_cc (.coin x)
        refine ⟨_, rfl, _, _, rfl, rfl, _, rfl, ?_⟩
        rw [decide_eq_false (show ¬ (0 : Int) < (loops : Int) from by omega)]
        refine iteF ⟨_, rfl, t, _, dx, _, _, rfl, upd_same, T.c_Tally, T.n_Tally_coins, tf_coins .., _, _, rfl, rfl, _, rfl, ?_⟩
        rw [decide_eq_false (show ¬ (4 : Int) < (co : Int) + 1 from by omega)]
        refine iteF ⟨rfl, But.upd, dx, ?_⟩
        rw [upd_same, e1]
        rfl
      · rw [decide_eq_false (show ¬ V.str r.word = V.str "coin" from fun z => e (V.str.inj z))]
        refine iteF ⟨rfl, fun b o _ z => z, ?_⟩
        rw [co_eq e]
        exact ht
    rintro σ1 H1 ⟨rfl, b1, ht1⟩
    -- the times
    have ch : Ch H t := by obtain ⟨dx, z⟩ := ht; exact .ins z
    have ch1 : Ch H1 t := by obtain ⟨dx, z⟩ := ht1; exact .ins z
    have ha1 := sqT_but ch b1 ha
    refine ⟨fun σ' H' => σ' = [some (.ref a), some (.int deep), some (.int ((r.lp loops : Nat) : Int)), some (.ref t), some (.ref f), none, none] ∧ H' = H1, ?_, ?_⟩
    · refine ⟨_, rfl, _, _, _, _, rfl, rfl, ha1, at0, rfl, _, rfl, ?_⟩
      by_cases e : r.word = "times"
      · rw [e]
        refine iteT ?_
        have ⟨e1, e2⟩ : r.lp loops = loops + 1 ∧ loops < 2 := by
          obtain ⟨x, y, rfl⟩ := word_times e
          exact ⟨rfl, ok.2.1⟩
        refine ⟨_, rfl, _, _, rfl, rfl, ?_⟩
        refine ⟨_, rfl, _, _, rfl, rfl, _, rfl, ?_⟩
        rw [decide_eq_false (show ¬ (2 : Int) < (loops : Int) + 1 from by omega)]
        refine iteF ⟨?_, rfl⟩
        rw [e1]
        rfl
      · rw [decide_eq_false (show ¬ V.str r.word = V.str "times" from fun z => e (V.str.inj z))]
        refine iteF ⟨?_, rfl⟩
        rw [lp_eq e]
    rintro σ2 H2 ⟨rfl, rfl⟩
    -- the parts
    refine ⟨_, rfl, _, rfl, _, rfl, a, _, rfl, ha1, cut1_not _ _, fun p np => ?_⟩
    rw [cut1]
    have hfs1 : SqT K H2 f ((r.prts.map Prt.kind).map V.str) := sqT_but ch b1 hfs
    have ntp : t ≠ p := fun z => by obtain ⟨dx, y⟩ := ht1; rw [z, np] at y; cases y
    have sn : Same H2 (upd H2 p (.tup ys)) := same_new np
    refine ⟨f, p, _, _, rfl, .inr ⟨same_t sn hfs1, .of upd_same, RZ.for_zipT (xs := (r.prts.map Prt.kind).map V.str) (ys := ys) (by simp [lxs]) (fun i σ' H' => ∃ x y, σ' = [some (.ref a), some (.int deep), some (.int ((r.lp loops : Nat) : Int)), some (.ref t), some (.ref f), x, y] ∧ But t (upd H2 p (.tup ys)) H' ∧ TallyAt K H' t c ((co + r.co + sumN ((r.prts.map Prt.cc).take i) : Nat) : Int) ((li + sumN ((r.prts.map Prt.cl).take i) : Nat) : Int))
      ⟨none, none, rfl, fun b o _ z => z, by obtain ⟨dx, y⟩ := ht1; exact ⟨dx, sn _ _ y⟩⟩ (fun i σ' H' ⟨_, _, _, bt, _⟩ => ⟨sqT_but (H := upd H2 p (.tup ys)) (by obtain ⟨dx, y⟩ := ht1; exact .ins (sn _ _ y)) bt (same_t sn hfs1), sqT_but (H := upd H2 p (.tup ys)) (by obtain ⟨dx, y⟩ := ht1; exact .ins (sn _ _ y)) bt (.of upd_same)⟩) ?_ ?_⟩⟩
    · rintro i x y tt σ' H' hx hy' ⟨_, _, rfl, bt, hta⟩ ntt
      obtain ⟨kk, hk, rfl⟩ := get_mapA hx
      obtain ⟨pp, hp, rfl⟩ := get_mapA hk
      obtain ⟨dd, hdd, hyd⟩ := dps_get hys hy'
      obtain ⟨pp', hp', rfl⟩ := get_mapA hdd
      rw [hp] at hp'
      cases hp'
      have okp := row_prts ok pp (List.mem_of_getElem? hp)
      have nl : NoL pp.d := by
        have := r.noL
        rw [row_d] at this
        cases this with
        | tup h => exact h _ (List.mem_cons_of_mem _ (List.mem_map.mpr ⟨pp, List.mem_of_getElem? hp, rfl⟩))
      have chp : Ch (upd H2 p (.tup ys)) t := by obtain ⟨dx, y⟩ := ht1; exact .ins (sn _ _ y)
      have hy2 : Dp K H' y pp.d := dp_but chp bt (dp_same sn (dp_but ch b1 hyd nl)) nl
      have sn2 : Same H' (upd H' tt (.tup [.str pp.kind, y])) := same_new ntt
      have ntt' : t ≠ tt := fun z => by obtain ⟨dx, y⟩ := hta; rw [z, ntt] at y; cases y
      have ec : ((r.prts.map Prt.cc)[i]?) = some pp.cc := by rw [List.getElem?_map, hp]; rfl
      have el : ((r.prts.map Prt.cl)[i]?) = some pp.cl := by rw [List.getElem?_map, hp]; rfl
      have sc := sumN_take ec
      have sl := sumN_take el
      have lc := sumN_le (r.prts.map Prt.cc) (i + 1)
      have ll := sumN_le (r.prts.map Prt.cl) (i + 1)
      have rc := row_cc r
      refine ⟨tt, _, rfl, SqT.of upd_same, rfl, _, _, rfl, _, _, rfl, rfl, ?_⟩
      refine ⟨_, rfl, _, rfl, _, rfl, _, rfl, _, rfl, y, pp, deep, r.lp loops, t, c, co + r.co + sumN ((r.prts.map Prt.cc).take i), li + sumN ((r.prts.map Prt.cl).take i), rfl, dp_same sn2 hy2, by obtain ⟨dx, z⟩ := hta; exact ⟨dx, sn2 _ _ z⟩, okp, hd, by omega, by omega, fun H3 b3 ht3 => ⟨_, rfl, iteF ⟨_, _, rfl, ?_, ?_⟩⟩⟩
      · exact fun b o hb z => b3 b o hb (sn2 b o (bt b o hb z))
      · rw [sc, sl, ← Nat.add_assoc, ← Nat.add_assoc]
        exact ht3
    · rintro σ' H' ⟨_, _, rfl, bt, hta⟩
      have rc := row_cc r
      refine q H' (fun b o hb z => bt b o hb (sn b o (b1 b o hb z))) ?_
      rw [List.length_map, List.length_map, List.take_of_length_le (by simp), List.take_of_length_le (by simp)] at hta
      rw [rc, ← Nat.add_assoc]
      exact hta
end

end M

set_option Elab.async false
set_option linter.all false
set_option maxRecDepth 100000
set_option maxHeartbeats 2000000
namespace M
open PySem PySem.Spec PyProof.Rows L2

def rowsOkAt {c : Int} {deep loops : Nat} : ∀ {rs : List Row}, rowsOk c deep loops rs → ∀ r ∈ rs, deep ≤ 12 ∧ r.ok c deep loops
  | [], _, r, h => by cases h
  | a :: rs, h, r, hr => by
    have h : deep ≤ 12 ∧ a.ok c deep loops ∧ rowsOk c deep loops rs := h
    rcases List.mem_cons.mp hr with rfl | hr
    · exact ⟨h.1, h.2.1⟩
    · exact rowsOkAt h.2.2 r hr
theorem rowsCl_sum : ∀ rs : List Row, rowsCl rs = sumN (rs.map Row.cl)
  | [] => rfl
  | r :: rs => by rw [rowsCl, rowsCl_sum rs]; rfl
theorem rowsCc_sum : ∀ rs : List Row, rowsCc rs = sumN (rs.map Row.cc)
  | [] => rfl
  | r :: rs => by rw [rowsCc, rowsCc_sum rs]; rfl
section
variable {P : Program} {w : World} {K : PySem.W.Frag} {mg : Str → Option Value} {base : Heap}
theorem ca_are_body_rows {n : Nat} (R : Ca P w K mg base (3 * n + 12) "is_body_row" (spRow K n)) (T : Txt w K mg) : Ca P w K mg base (3 * n + 13) "are_body_rows" (spRows K (n + 1)) := by
    refine ca_of (N := ["rows", "deep", "loops", "tally", "row"]) (ps := ["rows", "deep", "loops", "tally"]) T.f_are_body_rows T.g_are_body_rows ⟨rfl, rfl, rfl, by decide +kernel, rfl, by decide +kernel, by decide +kernel⟩ (fun _ _ _ _ _ _ us hl => match us, hl with | [_, _, _, _], _ => rfl)
      (fun vs H Q E h => by obtain ⟨v, rs, deep, loops, t, c, co, li, rfl, hv, ht, ok, hd, hc, hl, q⟩ := h; rfl) (fun cdv A outer s H vs Q E hr h => ?_)
    have nd : (["rows", "deep", "loops", "tally", "row"] : List Str).Nodup := by decide +kernel
    obtain ⟨v, rs, deep, loops, t, c, co, li, rfl, hv, ht, ok, hd, hc, hl, q⟩ := h
    obtain ⟨a, xs, rfl, ha, hxs⟩ := dp_tup hv
    have lxs : xs.length = rs.length := by rw [dps_len hxs, rowsD_map, List.length_map]
    have ch : Ch H t := by obtain ⟨dx, z⟩ := ht; exact .ins z
    refine ⟨_, (pss_cons (ps_if (pt_not (pt_val (pe_is .tuple T.b_isinstance (pv 0) T.b_tuple boot_tuple))) (pss_one (ps_ret pe_bl)) pss_nil)
      (pss_cons (ps_for PassesOwn.never rfl (pi_tup (pv 0)) (pg_name (i := 4) nd rfl (.inl rfl)) (pss_cons (ps_fldaug (pv 3) pe_int in_add)
      (pss_one (ps_if (PW.pt (pw_or (pt_cmpR op_gt (pv 1) (pe_gi T.i_DEEPEST_ROW) (nomark _)) (pw_or (pt_cmpR op_gt (pe_fld (pv 3) rfl) (pe_gi T.i_MOST_ROWS) (nomark _)) (pw_or1 (pt_not (pt_val (pe_ca R hr (pa_cons (pv 4) (pa_cons (pv 1) (pa_cons (pv 2) (pa_cons (pv 3) pa_nil)))) (by omega)))))))) (pss_one (ps_ret pe_bl)) pss_nil))))
      (pss_one (ps_ret pe_bl)))), ?_⟩
    refine ⟨_, rfl, _, _, rfl, .tuple ha, _, rfl, iteF ?_⟩
    refine ⟨_, rfl, a, rfl, ⟨_, ha⟩, for_tup (xs := xs) (fun i σ' H' => ∃ x, σ' = [some (.ref a), some (.int deep), some (.int loops), some (.ref t), x] ∧ But t H H' ∧ TallyAt K H' t c ((co + sumN ((rs.map Row.cc).take i) : Nat) : Int) ((li + sumN ((rs.map Row.cl).take i) : Nat) : Int))
      ⟨none, rfl, fun b o _ z => z, ht⟩ (fun i σ' H' _ ⟨_, _, bt, _⟩ => sqT_but ch bt ha) ?_ ?_⟩
    · rintro i x σ' H' hx ⟨_, rfl, bt, hta⟩
      obtain ⟨dd, hdd, hxd⟩ := dps_get hxs hx
      rw [rowsD_map] at hdd
      obtain ⟨r, hr', rfl⟩ := get_mapA hdd
      have okr := rowsOkAt ok r (List.mem_of_getElem? hr')
      have ec : ((rs.map Row.cc)[i]?) = some r.cc := by rw [List.getElem?_map, hr']; rfl
      have el : ((rs.map Row.cl)[i]?) = some r.cl := by rw [List.getElem?_map, hr']; rfl
      have sc := sumN_take ec
      have sl := sumN_take el
      have lc := sumN_le (rs.map Row.cc) (i + 1)
      have ll := sumN_le (rs.map Row.cl) (i + 1)
      have rl := row_cl r
      have s1 := rowsCl_sum rs
      have s2 := rowsCc_sum rs
      have hx2 : Dp K H' x r.d := dp_but ch bt hxd r.noL
      obtain ⟨dx, hta'⟩ := id hta
      refine ⟨_, rfl, t, _, dx, _, _, rfl, hta', T.c_Tally, T.n_Tally_lines, tf_lines .., _, _, rfl, rfl, dx, _, hta', (by rw [tfl_eq]; show 3 < 1000; decide), ?_⟩
      rw [tf_putL]
      refine ⟨_, rfl, _, _, rfl, rfl, _, rfl, ?_⟩
      rw [decide_eq_false (show ¬ (12 : Int) < (deep : Int) from by omega)]
      refine iteF ⟨_, rfl, t, _, dx, _, _, rfl, upd_same, T.c_Tally, T.n_Tally_lines, tf_lines .., _, _, rfl, rfl, _, rfl, ?_⟩
      rw [decide_eq_false (show ¬ (2000 : Int) < ((li + sumN ((rs.map Row.cl).take i) : Nat) : Int) + 1 from by omega)]
      have ch' : Ch H' t := .ins hta'
      refine iteF ⟨_, rfl, _, rfl, _, rfl, _, rfl, x, r, deep, loops, t, c, co + sumN ((rs.map Row.cc).take i), li + sumN ((rs.map Row.cl).take i) + 1, rfl, dp_but ch' But.upd hx2 r.noL, ⟨dx, by rw [upd_same]; rfl⟩, okr.2, ⟨by omega, okr.1⟩, by omega, by omega, fun H3 b3 ht3 => ⟨_, rfl, iteF ⟨_, rfl, ?_, ?_⟩⟩⟩
      · exact fun b o hb z => b3 b o hb (by rw [upd_ne hb]; exact bt b o hb z)
      · rw [sc, sl, ← Nat.add_assoc, show li + (sumN ((rs.map Row.cl).take i) + r.cl) = li + sumN ((rs.map Row.cl).take i) + 1 + sumN (r.prts.map Prt.cl) from by omega]
        exact ht3
    · rintro σ' H' ⟨_, rfl, bt, hta⟩
      refine q H' bt ?_
      rw [lxs, List.take_of_length_le (by simp), List.take_of_length_le (by simp)] at hta
      rw [rowsCl_sum, rowsCc_sum]
      exact hta
theorem ca_rows (T : Txt w K mg) : ∀ n, Ca P w K mg base (3 * n + 10) "are_body_rows" (spRows K n)
  | 0 => ca_false (ps := ["rows", "deep", "loops", "tally"]) T.f_are_body_rows T.g_are_body_rows (fun _ _ _ _ _ _ us hl => match us, hl with | [_, _, _, _], _ => rfl)
  | n + 1 => ca_are_body_rows (ca_is_body_row (ca_is_part (ca_rows T n) T) T) T
def spBody (K : PySem.W.Frag) : Sp := fun vs H Q _ => ∃ (v : V) (rs : List Row) (c : Int), vs = [v, .int c] ∧ Dp K H v (.tuple (rowsD rs)) ∧ rowsOk c 1 0 rs ∧ rowsCc rs ≤ 4 ∧ rowsCl rs ≤ 2000 ∧ ∀ H', Same H H' → Q (.bl true) H'
theorem ca_is_body (T : Txt w K mg) : Ca P w K mg base 50 "is_body" (spBody K) := by
  refine ca_of (N := ["rows", "cells"]) (ps := ["rows", "cells"]) T.f_is_body T.g_is_body ⟨rfl, rfl, rfl, by decide +kernel, rfl, by decide +kernel, by decide +kernel⟩ (fun _ _ _ _ _ _ us hl => match us, hl with | [_, _], _ => rfl)
    (fun vs H Q E h => by obtain ⟨v, rs, c, rfl, hv, ok, hc, hl, q⟩ := h; rfl) (fun cdv A outer s H vs Q E hr h => ?_)
  have nd : (["rows", "cells"] : List Str).Nodup := by decide +kernel
  obtain ⟨v, rs, c, rfl, hv, ok, hc, hl, q⟩ := h
  refine ⟨_, pss_one (ps_ret (pe_ca (ca_rows T 13) hr (pa_cons (pv 0) (pa_cons pe_int (pa_cons pe_int (pa_cons (pe_ma (ma_Tally T) hr (pa_cons (pv 1) pa_nil)) pa_nil)))))), ?_⟩
  refine ⟨_, rfl, _, rfl, fun t dx nt nd ndt => ?_⟩
  have s0 : ∀ o : HO, Same H (upd (upd H dx (.own t)) t o) := fun o b u e => by
    rw [upd_ne (ne_of_none e nt), upd_ne (ne_of_none e nd)]
    exact e
  refine ⟨t, dx, c, rfl, upd_same, rfl, v, rs, 1, 0, t, c, 0, 0, rfl, ?_, ⟨dx, upd_same⟩, ok, (by decide), by omega, by omega, fun H' bt _ => ?_⟩
  · rw [upd_upd]
    exact dp_same (s0 _) hv
  · rw [upd_upd] at bt
    exact q H' fun b o e => bt b o (ne_of_none e nt) (s0 _ b o e)
end

end M

set_option Elab.async false
set_option linter.all false
set_option maxRecDepth 100000
set_option maxHeartbeats 2000000
namespace M
open PySem PySem.Spec PyProof.Rows L2

def CellOk (c : Int × Int) : Prop := 1 ≤ c.1 ∧ c.1 ≤ 9 ∧ 0 ≤ c.2 ∧ c.2 < c.1
def NameOk (s : Str) : Prop := 1 ≤ s.length ∧ s.length ≤ 8 ∧ ∀ c ∈ s.cps.toList, 97 ≤ c ∧ c ≤ 122
def DeedOk (c : Int) (d : Str × Int × List Row) : Prop := NameOk d.1 ∧ (1 ≤ d.2.1 ∧ d.2.1 ≤ 9) ∧ rowsOk c 1 0 d.2.2 ∧ rowsCc d.2.2 ≤ 4 ∧ rowsCl d.2.2 ≤ 2000
/-- what a vault is -/
structure VGood (v : Vlt) : Prop where
  c0 : 1 ≤ v.cells.length
  c1 : v.cells.length ≤ 6
  cs : ∀ c ∈ v.cells, CellOk c
  d0 : 1 ≤ v.deeds.length
  d1 : v.deeds.length ≤ 8
  ds : ∀ d ∈ v.deeds, DeedOk v.cells.length d
  nd : (v.deeds.map (·.1)).Nodup
theorem VGood.ok {v : Vlt} (g : VGood v) : VOk v := ⟨g.c1, g.d1, fun d hd => (g.ds d hd).2.1, g.nd⟩
theorem deed_noL (d : Str × Int × List Row) : NoL (deedD d) := .tup (by
  intro e h
  simp at h
  rcases h with rfl | rfl | rfl
  · exact .str _
  · exact .int _
  · exact .tup (rows_noL _))
theorem cell_noL (c : Int × Int) : NoL (cellD c) := .tup (by
  intro e h
  simp at h
  rcases h with rfl | rfl <;> constructor)
theorem sign_le {a c : Nat} (h : a ≤ c) : (!decide (([c] : List Nat) < [a])) = true := by
  have : ¬ (([c] : List Nat) < [a]) := by
    rw [List.cons_lt_cons_iff]
    rintro (h1 | ⟨_, h2⟩)
    · omega
    · exact absurd h2 (by simp)
  rw [decide_eq_false this]
  rfl
theorem Ch.ext {H : Hp} {D : Addr} {φ : Heap → Prop} (h : H D = some (.ext φ)) : Ch H D := ⟨fun _ e => (by rw [h] at e; cases e), fun _ _ e => (by rw [h] at e; cases e)⟩
theorem if_true_of {c : Bool} {A B : Prop} (hc : c = true) (h : A) : if c = true then A else B := by
  rw [if_pos hc]
  exact h
theorem if_not_of {c : Bool} {A B : Prop} (hc : c = true) (h : B) : if (!c) = true then A else B := by
  rw [hc]
  exact iteF h
section
variable {P : Program} {w : World} {K : PySem.W.Frag} {mg : Str → Option Value} {base : Heap}
def spCell (K : PySem.W.Frag) : Sp := fun vs H Q _ => ∃ (v : V) (c : Int × Int), vs = [v] ∧ Dp K H v (cellD c) ∧ CellOk c ∧ Q (.bl true) H
theorem ca_is_cell (T : Txt w K mg) : Ca P w K mg base 3 "is_cell" (spCell K) := by
  refine ca_of (N := ["value"]) (ps := ["value"]) T.f_is_cell T.g_is_cell ⟨rfl, rfl, rfl, by decide +kernel, rfl, by decide +kernel, by decide +kernel⟩ (fun _ _ _ _ _ _ us hl => match us, hl with | [_], _ => rfl)
    (fun vs H Q E h => by obtain ⟨v, c, rfl, hv, ok, q⟩ := h; rfl) (fun cdv A outer s H vs Q E hr h => ?_)
  have nd : (["value"] : List Str).Nodup := by decide +kernel
  obtain ⟨v, c, rfl, hv, ok, q⟩ := h
  refine ⟨_, (pss_one (ps_ret (pe_and (pe_ca (ca_is_tuple T) hr (pa_cons (pv 0) (pa_cons pe_int pa_nil))) (pe_and (pe_ca (ca_is_within T) hr (pa_cons (pe_ix ix_tup (pv 0) pe_int (fun _ _ => rfl)) (pa_cons pe_int (pa_cons (pe_gi T.i_GREATEST_SIZE) pa_nil)))) (pe_one (pe_ca (ca_is_within T) hr (pa_cons (pe_ix ix_tup (pv 0) pe_int (fun _ _ => rfl)) (pa_cons pe_int (pa_cons (pe_op op_sub (pe_ix ix_tup (pv 0) pe_int (fun _ _ => rfl)) pe_int) pa_nil))))))))), ?_⟩
  obtain ⟨a, x, y, rfl, ha, hx, hy⟩ := dp2 hv
  cases dp_int hx
  cases dp_int hy
  obtain ⟨o1, o2, o3, o4⟩ := ok
  refine ⟨_, rfl, a, _, _, rfl, ha, _, rfl, iteT ?_⟩
  refine ⟨_, rfl, _, _, _, _, rfl, rfl, ha, at0, c.1, 1, 9, rfl, _, rfl, ?_⟩
  rw [within_t ⟨o1, o2⟩]
  refine iteT ⟨_, rfl, _, _, _, _, rfl, rfl, ha, at1, _, rfl, _, _, _, _, rfl, rfl, ha, at0, _, _, rfl, rfl, c.2, 0, c.1 - 1, rfl, ?_⟩
  rw [within_t ⟨o3, by omega⟩]
  exact q
def spCells (K : PySem.W.Frag) : Sp := fun vs H Q _ => ∃ (a : Addr) (xs : List V) (cs : List (Int × Int)), vs = [.ref a] ∧ SqL K H a xs ∧ DpAll K H xs (cs.map cellD) ∧ 1 ≤ cs.length ∧ cs.length ≤ 6 ∧ (∀ c ∈ cs, CellOk c) ∧ Q (.bl true) H
theorem ca_are_cells (T : Txt w K mg) : Ca P w K mg base 4 "are_cells" (spCells K) := by
  refine ca_of (N := ["cells", "cell"]) (ps := ["cells"]) T.f_are_cells T.g_are_cells ⟨rfl, rfl, rfl, by decide +kernel, rfl, by decide +kernel, by decide +kernel⟩ (fun _ _ _ _ _ _ us hl => match us, hl with | [_], _ => rfl)
    (fun vs H Q E h => by obtain ⟨a, xs, cs, rfl, ha, hxs, h1, h6, ok, q⟩ := h; rfl) (fun cdv A outer s H vs Q E hr h => ?_)
  have nd : (["cells", "cell"] : List Str).Nodup := by decide +kernel
  obtain ⟨a, xs, cs, rfl, ha, hxs, h1, h6, ok, q⟩ := h
  have lx : xs.length = cs.length := by rw [dps_len hxs, List.length_map]
  refine ⟨_, (pss_cons (ps_if (pt_not (pt_chain op_le op_le pe_int (pe_callB call_len_seq (by rfl) T.b_len PySem.boot_len (pa_cons (pv 0) pa_nil)) (pe_gi T.i_MOST_CELLS))) (pss_one (ps_ret pe_bl)) pss_nil)
      (pss_cons (ps_for PassesOwn.never rfl (pi_list (pv 0)) (pg_name (i := 1) nd rfl (.inl rfl)) (pss_one (ps_if (pt_not (pt_val (pe_ca (ca_is_cell T) hr (pa_cons (pv 1) pa_nil)))) (pss_one (ps_ret pe_bl)) pss_nil)))
      (pss_one (ps_ret pe_bl)))), ?_⟩
  refine ⟨_, rfl, _, _, rfl, .inl ha, _, _, rfl, rfl, _, rfl, ?_⟩
  rw [lx, decide_eq_true (show (1 : Int) ≤ (cs.length : Int) from by omega)]
  refine iteT ⟨_, _, rfl, rfl, _, rfl, ?_⟩
  rw [decide_eq_true (show (cs.length : Int) ≤ 6 from by omega)]
  refine iteF ⟨_, rfl, a, rfl, ⟨_, ha⟩, for_list (xs := xs) (fun i σ' H' => ∃ x, σ' = [some (.ref a), x] ∧ H' = H) ⟨none, rfl, rfl⟩ (fun i σ' H' _ ⟨_, _, e⟩ => e ▸ ha) ?_ ?_⟩
  · rintro i x σ' H' hx ⟨_, rfl, rfl⟩
    obtain ⟨d, hd, hxd⟩ := dps_get hxs hx
    obtain ⟨c, hc, rfl⟩ := get_mapA hd
    exact ⟨_, rfl, x, c, rfl, hxd, ok c (List.mem_of_getElem? hc), _, rfl, iteF ⟨_, rfl, rfl⟩⟩
  · rintro σ' H' ⟨_, rfl, rfl⟩
    exact q
def spName : Sp := fun vs H Q _ => ∃ (s : Str), vs = [.str s] ∧ NameOk s ∧ Q (.bl true) H
theorem ca_is_name (T : Txt w K mg) : Ca P w K mg base 1 "is_name" (spName) := by
  refine ca_of (N := ["value", "letter"]) (ps := ["value"]) T.f_is_name T.g_is_name ⟨rfl, rfl, rfl, by decide +kernel, rfl, by decide +kernel, by decide +kernel⟩ (fun _ _ _ _ _ _ us hl => match us, hl with | [_], _ => rfl)
    (fun vs H Q E h => by obtain ⟨s, rfl, ok, q⟩ := h; rfl) (fun cdv A outer s H vs Q E hr h => ?_)
  have nd : (["value", "letter"] : List Str).Nodup := by decide +kernel
  obtain ⟨s, rfl, ok, q⟩ := h
  refine ⟨_, (pss_cons (ps_if (PW.pt (pw_or (pt_not (pt_val (pe_is .str T.b_isinstance (pv 0) T.b_str boot_str))) (pw_or1 (pt_not (pt_chain op_le op_le pe_int (pe_callB call_len_str (by rfl) T.b_len PySem.boot_len (pa_cons (pv 0) pa_nil)) (pe_gi T.i_LONGEST_NAME)))))) (pss_one (ps_ret pe_bl)) pss_nil)
      (pss_cons (ps_for PassesOwn.never rfl (pi_str (pv 0)) (pg_name (i := 1) nd rfl (.inl rfl)) (pss_one (ps_if (pt_not (pt_chain op_le_str op_le_str pe_str (pv 1) pe_str)) (pss_one (ps_ret pe_bl)) pss_nil)))
      (pss_one (ps_ret pe_bl)))), ?_⟩
  refine ⟨_, rfl, _, _, rfl, .str s, _, rfl, iteF ?_⟩
  have l8 := ok.2.1
  refine ⟨_, rfl, _, rfl, by rw [sizeLine_eq]; omega, _, _, rfl, rfl, _, rfl, ?_⟩
  rw [decide_eq_true (show (1 : Int) ≤ (s.length : Int) from by have := ok.1; omega)]
  refine iteT ⟨_, _, rfl, rfl, _, rfl, ?_⟩
  rw [decide_eq_true (show (s.length : Int) ≤ 8 from by omega)]
  refine iteF ⟨_, rfl, _, rfl, for_it (n := s.cps.size) walk_str (fun i σ' H' => ∃ x, σ' = [some (.str s), x] ∧ H' = H) ⟨none, rfl, rfl⟩ (fun _ _ _ _ _ => trivial) ?_ ?_⟩
  · rintro i x σ' H' H2 hi ⟨_, rfl, rfl⟩ ⟨rfl, c, hc, rfl⟩
    have hm : c ∈ s.cps.toList := by
      rw [← Array.getElem?_toList] at hc
      exact List.mem_of_getElem? hc
    have b := ok.2.2 c hm
    refine ⟨_, rfl, _, _, rfl, rfl, _, rfl, ?_⟩
    refine (if_true_of (sign_le b.1) ?_)
    refine ⟨_, _, rfl, rfl, _, rfl, ?_⟩
    refine if_not_of (sign_le b.2) ⟨_, rfl, rfl⟩
  · rintro σ' H' ⟨_, rfl, rfl⟩
    exact q
theorem cut2 (x y z : V) : cutV [x, y, z] none (some 2) = [x, y] := by
  unfold cutV
  rw [show (some (2 : Int)) = some ((2 : Nat) : Int) from rfl, HT.sIx_nat, HT.sIx_none]
  rfl
theorem cut2_not (x y z : V) : ¬ (HT.sIx [x, y, z].length 0 none = 0 ∧ HT.sIx [x, y, z].length [x, y, z].length (some 2) = [x, y, z].length) := by
  rw [show (some (2 : Int)) = some ((2 : Nat) : Int) from rfl, HT.sIx_nat]
  intro h
  exact absurd h.2 (by show ¬ (min 2 3 = 3); decide)
def spHead (K : PySem.W.Frag) : Sp := fun vs H Q _ => ∃ (v : V) (nm : Str) (ch : Int), vs = [v] ∧ Dp K H v (.tuple [.str nm, .int ch]) ∧ NameOk nm ∧ (1 ≤ ch ∧ ch ≤ 9) ∧ Q (.bl true) H
theorem ca_is_deed_head (T : Txt w K mg) : Ca P w K mg base 3 "is_deed_head" (spHead K) := by
  refine ca_of (N := ["value"]) (ps := ["value"]) T.f_is_deed_head T.g_is_deed_head ⟨rfl, rfl, rfl, by decide +kernel, rfl, by decide +kernel, by decide +kernel⟩ (fun _ _ _ _ _ _ us hl => match us, hl with | [_], _ => rfl)
    (fun vs H Q E h => by obtain ⟨v, nm, ch, rfl, hv, o1, o2, q⟩ := h; rfl) (fun cdv A outer s H vs Q E hr h => ?_)
  have nd : (["value"] : List Str).Nodup := by decide +kernel
  obtain ⟨v, nm, ch, rfl, hv, o1, o2, q⟩ := h
  refine ⟨_, (pss_one (ps_ret (pe_and (pe_ca (ca_is_tuple T) hr (pa_cons (pv 0) (pa_cons pe_int pa_nil))) (pe_and (pe_ca (ca_is_name T) hr (pa_cons (pe_ix ix_tup (pv 0) pe_int (fun _ _ => rfl)) pa_nil)) (pe_one (pe_ca (ca_is_within T) hr (pa_cons (pe_ix ix_tup (pv 0) pe_int (fun _ _ => rfl)) (pa_cons pe_int (pa_cons (pe_gi T.i_MOST_CHOICES) pa_nil))))))))), ?_⟩
  obtain ⟨a, x, y, rfl, ha, hx, hy⟩ := dp2 hv
  cases dp_str hx
  cases dp_int hy
  refine ⟨_, rfl, a, _, _, rfl, ha, _, rfl, iteT ?_⟩
  refine ⟨_, rfl, _, _, _, _, rfl, rfl, ha, at0, nm, rfl, o1, _, rfl, iteT ?_⟩
  refine ⟨_, rfl, _, _, _, _, rfl, rfl, ha, at1, ch, 1, 9, rfl, ?_⟩
  rw [within_t o2]
  exact q
def spDeed (K : PySem.W.Frag) : Sp := fun vs H Q _ => ∃ (v : V) (d : Str × Int × List Row) (c : Int), vs = [v, .int c] ∧ Dp K H v (deedD d) ∧ DeedOk c d ∧ ∀ H', Same H H' → Q (.bl true) H'
theorem ca_is_deed (T : Txt w K mg) : Ca P w K mg base 51 "is_deed" (spDeed K) := by
  refine ca_of (N := ["value", "cells"]) (ps := ["value", "cells"]) T.f_is_deed T.g_is_deed ⟨rfl, rfl, rfl, by decide +kernel, rfl, by decide +kernel, by decide +kernel⟩ (fun _ _ _ _ _ _ us hl => match us, hl with | [_, _], _ => rfl)
    (fun vs H Q E h => by obtain ⟨v, d, c, rfl, hv, ok, q⟩ := h; rfl) (fun cdv A outer s H vs Q E hr h => ?_)
  have nd : (["value", "cells"] : List Str).Nodup := by decide +kernel
  obtain ⟨v, d, c, rfl, hv, ok, q⟩ := h
  refine ⟨_, (pss_one (ps_ret (pe_and (pe_ca (ca_is_tuple T) hr (pa_cons (pv 0) (pa_cons pe_int pa_nil))) (pe_and (pe_ca (ca_is_deed_head T) hr (pa_cons (pe_slice sl_tup (pv 0) po_none (po_some pe_int)) pa_nil)) (pe_one (pe_ca (ca_is_body T) hr (pa_cons (pe_ix ix_tup (pv 0) pe_int (fun _ _ => rfl)) (pa_cons (pv 1) pa_nil)))))))), ?_⟩
  obtain ⟨a, x, y, z, rfl, ha, hx, hy, hz⟩ := dp3 hv
  cases dp_str hx
  cases dp_int hy
  obtain ⟨o1, o2, o3, o4, o5⟩ := ok
  refine ⟨_, rfl, a, _, _, rfl, ha, _, rfl, iteT ?_⟩
  refine ⟨_, rfl, _, rfl, a, _, rfl, ha, cut2_not _ _ _, fun p np => ?_⟩
  rw [cut2]
  have s1 := same_new (o := .tup [.str d.1, .int d.2.1]) np
  refine ⟨_, d.1, d.2.1, rfl, .tup (.of upd_same) (.cons (.str _) (.cons (.int _) .nil)), o1, o2, _, rfl, iteT ?_⟩
  exact ⟨_, rfl, _, _, _, _, rfl, rfl, same_t s1 ha, at2, _, rfl, z, d.2.2, c, rfl, dp_same s1 hz, o3, o4, o5, fun H2 s2 => q H2 (s1.trans s2)⟩
def spDeeds (K : PySem.W.Frag) : Sp := fun vs H Q _ => ∃ (a : Addr) (xs : List V) (ds : List (Str × Int × List Row)) (c : Int), vs = [.ref a, .int c] ∧ SqL K H a xs ∧ DpAll K H xs (ds.map deedD) ∧ 1 ≤ ds.length ∧ ds.length ≤ 8 ∧ (∀ d ∈ ds, DeedOk c d) ∧ (ds.map (·.1)).Nodup ∧ ∀ H', Same H H' → Q (.bl true) H'
theorem ca_are_deeds (T : Txt w K mg) : Ca P w K mg base 52 "are_deeds" (spDeeds K) := by
  refine ca_of (N := ["deeds", "cells", "taken", "deed"]) (ps := ["deeds", "cells"]) T.f_are_deeds T.g_are_deeds ⟨rfl, rfl, rfl, by decide +kernel, rfl, by decide +kernel, by decide +kernel⟩ (fun _ _ _ _ _ _ us hl => match us, hl with | [_, _], _ => rfl)
    (fun vs H Q E h => by obtain ⟨a, xs, ds, c, rfl, ha, hxs, h1, h8, ok, nds, q⟩ := h; rfl) (fun cdv A outer s H vs Q E hr h => ?_)
  have nd : (["deeds", "cells", "taken", "deed"] : List Str).Nodup := by decide +kernel
  obtain ⟨a, xs, ds, c, rfl, ha, hxs, h1, h8, ok, nds, q⟩ := h
  have lx : xs.length = ds.length := by rw [dps_len hxs, List.length_map]
  refine ⟨_, (pss_cons (ps_if (pt_not (pt_chain op_le op_le pe_int (pe_callB call_len_seq (by rfl) T.b_len PySem.boot_len (pa_cons (pv 0) pa_nil)) (pe_gi T.i_MOST_DEEDS))) (pss_one (ps_ret pe_bl)) pss_nil)
      (pss_cons (ps_set (i := 2) nd rfl (.inl rfl) (pe_callTy0 cr_set0K (by rfl) T.b_set boot_set))
      (pss_cons (ps_for PassesOwn.never rfl (pi_list (pv 0)) (pg_name (i := 3) nd rfl (.inl rfl)) (pss_cons (ps_if (PW.pt (pw_or (pt_not (pt_val (pe_ca (ca_is_deed T) hr (pa_cons (pv 3) (pa_cons (pv 1) pa_nil))))) (pw_or1 (pt_cmpR or_sinK (pe_ix ix_tup (pv 3) pe_int (fun _ _ => rfl)) (pv 2) (by rfl))))) (pss_one (ps_ret pe_bl)) pss_nil)
      (pss_one (ps_expr (pe_saddK (pv 2) (pa_cons (pe_ix ix_tup (pv 3) pe_int (fun _ _ => rfl)) pa_nil))))))
      (pss_one (ps_ret pe_bl))))), ?_⟩
  refine ⟨_, rfl, _, _, rfl, .inl ha, _, _, rfl, rfl, _, rfl, ?_⟩
  rw [lx, decide_eq_true (show (1 : Int) ≤ (ds.length : Int) from by omega)]
  refine iteT ⟨_, _, rfl, rfl, _, rfl, ?_⟩
  rw [decide_eq_true (show (ds.length : Int) ≤ 8 from by omega)]
  refine iteF ⟨rfl, fun p np => ?_⟩
  have s0 : Same H (upd H p (SetK P w p (fun _ => false) 0)) := same_new np
  have mem : ∀ (i : Nat) (H' : Hp), But p (upd H p (SetK P w p (fun _ => false) 0)) H' → SqL K H' a xs := fun i H' bt => (show Same H H' from fun b o e => bt b o (ne_of_none e np) (s0 b o e)).seq ha
  refine ⟨_, rfl, a, rfl, ⟨_, s0.seq ha⟩, for_list (xs := xs) (fun i σ' H' => ∃ (x : Option V) (S : L2.Key → Bool) (n : Nat), σ' = [some (.ref a), some (.int c), some (.ref p), x] ∧ But p (upd H p (SetK P w p (fun _ => false) 0)) H' ∧ H' p = some (SetK P w p S n) ∧ n ≤ i ∧ ∀ k, S k = true → ∃ d ∈ ds.take i, k = Sum.inr d.1)
    ⟨none, fun _ => false, 0, rfl, fun b o _ z => z, upd_same, Nat.le_refl _, fun k e => by cases e⟩ (fun i σ' H' _ ⟨_, _, _, _, bt, _⟩ => mem i H' bt) ?_ ?_⟩
  · rintro i x σ' H' hx ⟨_, S, n, rfl, bt, hp, hn, hS⟩
    have sH : Same H H' := fun b o e => bt b o (ne_of_none e np) (s0 b o e)
    obtain ⟨d, hd, hxd⟩ := dps_get hxs hx
    obtain ⟨dd, hdd, rfl⟩ := get_mapA hd
    have hi : i < ds.length := (List.getElem?_eq_some_iff.mp hdd).1
    refine ⟨_, rfl, _, rfl, x, dd, c, rfl, dp_same sH hxd, ok dd (List.mem_of_getElem? hdd), fun H2 s2 => ⟨_, rfl, iteF ?_⟩⟩
    obtain ⟨t, y1, y2, y3, rfl, ht, e1, e2, e3⟩ := dp3 (dp_same (sH.trans s2) hxd)
    cases dp_str e1
    have hSf : S (Sum.inr dd.1) = false := by
      cases e : S (Sum.inr dd.1) with
      | false => rfl
      | true =>
        obtain ⟨d', hd', ed⟩ := hS _ e
        obtain ⟨j, hj, ej⟩ := List.mem_iff_getElem.mp hd'
        rw [List.length_take] at hj
        rw [List.getElem_take] at ej
        have n1 : (ds.map (·.1))[i]? = some dd.1 := by rw [List.getElem?_map, hdd]; rfl
        have n2 : (ds.map (·.1))[j]? = some dd.1 := by
          rw [List.getElem?_map, List.getElem?_eq_getElem (by omega : j < ds.length), ej]
          exact congrArg some (Sum.inr.inj ed).symm
        have := nd_ix nds n1 n2
        omega
    refine ⟨_, rfl, _, _, _, _, rfl, rfl, ht, at0, _, rfl, Sum.inr dd.1, p, S, n, rfl, rfl, s2 _ _ hp, _, rfl, ?_⟩
    rw [hSf]
    refine iteF ⟨_, rfl, ⟨p, S, n, rfl, s2 _ _ hp⟩, _, rfl, _, _, _, _, rfl, rfl, ht, at0, p, Sum.inr dd.1, S, n, rfl, rfl, s2 _ _ hp, (by show n + 1 < 4096; omega), ?_⟩
    refine ⟨_, _, _, rfl, fun b o hb z => ?_, upd_same, ?_, fun k e => ?_⟩
    · rw [upd_ne hb]
      exact s2 b o (bt b o hb z)
    · rw [hSf]
      show n + 1 ≤ i + 1
      omega
    · rw [take_more hdd]
      rcases Bool.or_eq_true_iff.mp e with h | h
      · obtain ⟨d', hd', e'⟩ := hS k h
        exact ⟨d', List.mem_append_left _ hd', e'⟩
      · exact ⟨dd, List.mem_append_right _ List.mem_cons_self, of_decide_eq_true h⟩
  · rintro σ' H' ⟨_, S, n, rfl, bt, hp, _⟩
    exact q H' fun b o e => bt b o (ne_of_none e np) (s0 b o e)
end

end M

set_option Elab.async false
set_option linter.all false
set_option maxRecDepth 100000
set_option maxHeartbeats 2000000
namespace M
open PySem PySem.Spec PyProof.Rows L2

/-! ### codes: no hole is left, their size -/
def FR.hd : FR → Option Str
  | .row r => some r.word
  | .unless _ _ => some "unless"
  | .on _ => some "on"
  | .rounds _ => some "rounds"
  | .round _ => some "round"
  | .hole => none
def FR.tl : FR → List PyData
  | .row r => r.prts.map Prt.d
  | .unless e p => [e.d, .int p]
  | .on p => [.int p]
  | .rounds e => [e.d]
  | .round p => [.int p]
  | .hole => []
theorem fr_d : ∀ {f : FR} {s : Str}, f.hd = some s → f.d = .tuple (.str s :: f.tl)
  | .row r, s, h => by
    cases (Option.some.inj h)
    exact row_d r
  | .hole, s, h => by cases h
  | .unless e p, s, h => by
    cases (Option.some.inj h)
    rfl
  | .on p, s, h => by
    cases (Option.some.inj h)
    rfl
  | .rounds e, s, h => by
    cases (Option.some.inj h)
    rfl
  | .round p, s, h => by
    cases (Option.some.inj h)
    rfl
/-- c' goes on from c, nothing new is a hole, n more at most -/
structure Goes (c c' : List FR) (n : Nat) : Prop where
  le : c.length ≤ c'.length
  old : ∀ i, i < c.length → c'[i]? = c[i]?
  new : ∀ i f, c.length ≤ i → c'[i]? = some f → f.hd ≠ none
  sz : c'.length ≤ c.length + n
theorem goes_one {c : List FR} {f : FR} {n : Nat} (h : f.hd ≠ none) (hn : 1 ≤ n) : Goes c (c ++ [f]) n := by
  refine ⟨by simp, fun i hi => List.getElem?_append_left hi, fun i g hi e => ?_, by simp; omega⟩
  rw [List.getElem?_append_right hi] at e
  cases q : i - c.length with
  | zero =>
    rw [q] at e
    cases (Option.some.inj e)
    exact h
  | succ m =>
    rw [q] at e
    simp at e
mutual
theorem putRow_goes : ∀ (r : Row) (c : List FR), Goes c (putRow r c) (3 * r.cl)
  | .read r k, c => goes_one (by simp [FR.hd]) (by simp [Row.cl])
  | .set k e, c => goes_one (by simp [FR.hd]) (by simp [Row.cl])
  | .swap r k e f, c => goes_one (by simp [FR.hd]) (by simp [Row.cl])
  | .keep r e, c => goes_one (by simp [FR.hd]) (by simp [Row.cl])
  | .coin r, c => goes_one (by simp [FR.hd]) (by simp [Row.cl])
  | .ans e, c => goes_one (by simp [FR.hd]) (by simp [Row.cl])
  | .iff e a b, c => by
    have g1 := putRows_goes a (c ++ [FR.hole])
    generalize h1 : putRows a (c ++ [FR.hole]) = c1 at g1
    have g2 := putRows_goes b ((c1 ++ [FR.hole]).set c.length (FR.unless e (c1.length + 1)))
    generalize h2 : putRows b ((c1 ++ [FR.hole]).set c.length (FR.unless e (c1.length + 1))) = c2 at g2
    have e0 : putRow (.iff e a b) c = c2.set c1.length (FR.on c2.length) := by
      show (putRows b (((putRows a (c ++ [FR.hole])) ++ [FR.hole]).set c.length (FR.unless e ((putRows a (c ++ [FR.hole])).length + 1)))).set (putRows a (c ++ [FR.hole])).length (FR.on (putRows b (((putRows a (c ++ [FR.hole])) ++ [FR.hole]).set c.length (FR.unless e ((putRows a (c ++ [FR.hole])).length + 1)))).length) = _
      rw [h1, h2]
    rw [e0]
    have l1 := g1.le
    have z1 := g1.sz
    have l2 := g2.le
    have z2 := g2.sz
    simp only [List.length_append, List.length_set, List.length_cons, List.length_nil] at l1 z1 l2 z2
    have ecl : Row.cl (.iff e a b) = 1 + (rowsCl a + rowsCl b) := rfl
    refine ⟨by rw [List.length_set]; omega, fun i hi => ?_, fun i f hi ef => ?_, by rw [List.length_set, ecl]; omega⟩
    · rw [List.getElem?_set_ne (by omega), g2.old i (by simp; omega), List.getElem?_set_ne (by omega), List.getElem?_append_left (by omega), g1.old i (by simp; omega), List.getElem?_append_left hi]
    · by_cases q : i = c1.length
      · subst q
        rw [List.getElem?_set_self (by omega)] at ef
        cases (Option.some.inj ef)
        simp [FR.hd]
      · rw [List.getElem?_set_ne (by omega)] at ef
        by_cases q2 : i < c1.length + 1
        · rw [g2.old i (by simp; omega)] at ef
          by_cases q3 : i = c.length
          · subst q3
            rw [List.getElem?_set_self (by simp; omega)] at ef
            cases (Option.some.inj ef)
            simp [FR.hd]
          · rw [List.getElem?_set_ne (by omega), List.getElem?_append_left (by omega)] at ef
            exact g1.new i f (by simp; omega) ef
        · exact g2.new i f (by simp; omega) ef
  | .times e a, c => by
    have g1 := putRows_goes a (c ++ [FR.rounds e, FR.hole])
    generalize h1 : putRows a (c ++ [FR.rounds e, FR.hole]) = c1 at g1
    have e0 : putRow (.times e a) c = (c1 ++ [FR.on (c.length + 1)]).set (c.length + 1) (FR.round (c1.length + 1)) := by
      show ((putRows a (c ++ [FR.rounds e, FR.hole])) ++ [FR.on (c.length + 1)]).set (c.length + 1) (FR.round ((putRows a (c ++ [FR.rounds e, FR.hole])).length + 1)) = _
      rw [h1]
    rw [e0]
    have l1 := g1.le
    have z1 := g1.sz
    simp only [List.length_append, List.length_set, List.length_cons, List.length_nil] at l1 z1
    have ecl : Row.cl (.times e a) = 1 + rowsCl a := rfl
    refine ⟨by simp; omega, fun i hi => ?_, fun i f hi ef => ?_, by simp [ecl]; omega⟩
    · rw [List.getElem?_set_ne (by omega), List.getElem?_append_left (by omega), g1.old i (by simp; omega), List.getElem?_append_left hi]
    · by_cases q : i = c.length + 1
      · subst q
        rw [List.getElem?_set_self (by simp; omega)] at ef
        cases (Option.some.inj ef)
        simp [FR.hd]
      · rw [List.getElem?_set_ne (by omega)] at ef
        by_cases q2 : i < c1.length
        · rw [List.getElem?_append_left q2] at ef
          by_cases q3 : i = c.length
          · subst q3
            rw [g1.old _ (by simp), List.getElem?_append_right (Nat.le_refl _), Nat.sub_self] at ef
            cases (Option.some.inj ef)
            simp [FR.hd]
          · exact g1.new i f (by simp; omega) ef
        · rw [List.getElem?_append_right (by omega)] at ef
          cases q4 : i - c1.length with
          | zero =>
            rw [q4] at ef
            cases (Option.some.inj ef)
            simp [FR.hd]
          | succ m =>
            rw [q4] at ef
            simp at ef
theorem putRows_goes : ∀ (rs : List Row) (c : List FR), Goes c (putRows rs c) (3 * rowsCl rs)
  | [], c => ⟨Nat.le_refl _, fun _ _ => rfl, fun i f hi e => by
    have := (List.getElem?_eq_some_iff.mp e).1
    change i < c.length at this
    omega, Nat.le_add_right _ _⟩
  | r :: rs, c => by
    have g1 := putRow_goes r c
    have g2 := putRows_goes rs (putRow r c)
    have ecl : rowsCl (r :: rs) = r.cl + rowsCl rs := rfl
    have l1 := g1.le
    have z1 := g1.sz
    have l2 := g2.le
    have z2 := g2.sz
    refine ⟨by show c.length ≤ (putRows rs (putRow r c)).length; omega, fun i hi => ?_, fun i f hi e => ?_, by show (putRows rs (putRow r c)).length ≤ _; rw [ecl]; omega⟩
    · show (putRows rs (putRow r c))[i]? = _
      rw [g2.old i (by omega), g1.old i hi]
    · change (putRows rs (putRow r c))[i]? = some f at e
      by_cases q : i < (putRow r c).length
      · rw [g2.old i q] at e
        exact g1.new i f hi e
      · exact g2.new i f (by omega) e
end
theorem code_hd {rows : List Row} {f : FR} (h : f ∈ codeOf rows) : ∃ s, f.hd = some s := by
  have g := putRows_goes rows []
  have : f.hd ≠ none := by
    rcases List.mem_append.mp h with h | h
    · obtain ⟨i, hi, e⟩ := List.mem_iff_getElem.mp h
      exact g.new i f (Nat.zero_le _) (by rw [List.getElem?_eq_getElem hi, e])
    · rw [List.mem_singleton.mp h]
      simp [FR.hd]
  cases q : f.hd with
  | none => exact absurd q this
  | some s => exact ⟨s, rfl⟩
theorem code_len (rows : List Row) : (codeOf rows).length ≤ 3 * rowsCl rows + 1 := by
  have g := (putRows_goes rows []).sz
  simp [codeOf] at g ⊢
  omega

end M

set_option Elab.async false
set_option linter.all false
set_option maxRecDepth 100000
set_option maxHeartbeats 2000000
namespace M
open PySem PySem.Spec PyProof.Rows L2

theorem putRows_snoc : ∀ (as : List Row) (r : Row) (c : List FR), putRows (as ++ [r]) c = putRow r (putRows as c)
  | [], r, c => rfl
  | a :: as, r, c => putRows_snoc as r (putRow a c)
theorem frs_noL (c : List FR) : ∀ d ∈ c.map FR.d, NoL d := fun d h => by
  obtain ⟨f, _, rfl⟩ := List.mem_map.mp h
  exact f.noL
theorem rowsCl_take {rs : List Row} {i : Nat} {r : Row} (h : rs[i]? = some r) : rowsCl (rs.take i) + r.cl ≤ rowsCl rs := by
  rw [rowsCl_sum, rowsCl_sum, List.map_take]
  have e : ((rs.map Row.cl)[i]?) = some r.cl := by rw [List.getElem?_map, h]; rfl
  have := sumN_take e
  have := sumN_le (rs.map Row.cl) (i + 1)
  omega
theorem word_if {r : Row} (h : r.word = "if") : ∃ e a b, r = .iff e a b := by
  cases r with
  | read r c => exact absurd (show ("read" : Str) = "if" from h) (by decide +kernel)
  | set c e => exact absurd (show ("set" : Str) = "if" from h) (by decide +kernel)
  | swap r c e f => exact absurd (show ("swap" : Str) = "if" from h) (by decide +kernel)
  | keep r e => exact absurd (show ("keep" : Str) = "if" from h) (by decide +kernel)
  | coin r => exact absurd (show ("coin" : Str) = "if" from h) (by decide +kernel)
  | iff e a b => exact ⟨e, a, b, rfl⟩
  | times e a => exact absurd (show ("times" : Str) = "if" from h) (by decide +kernel)
  | ans e => exact absurd (show ("answer" : Str) = "if" from h) (by decide +kernel)
theorem putRow_plain {r : Row} (c : List FR) (h1 : r.word ≠ "if") (h2 : r.word ≠ "times") : putRow r c = c ++ [.row r] := by
  cases r <;> first | rfl | exact absurd rfl h1 | exact absurd rfl h2
section
variable {P : Program} {w : World} {K : PySem.W.Frag} {mg : Str → Option Value} {base : Heap}
/-- what put_rows and its kin leave: the list goes on -/
abbrev PutQ (K : PySem.W.Frag) (H : Hp) (l : Addr) (c' : List FR) (Q : VK) : Prop := ∀ H' ys', But l H H' → H' l = some (.lst ys') → DpAll K H' ys' (c'.map FR.d) → Q .non H'
def spPuts (K : PySem.W.Frag) : Nat → Sp
  | 0 => fun _ _ _ _ => False
  | n + 1 => fun vs H Q _ => ∃ (l : Addr) (v : V) (ys : List V) (c : List FR) (rs : List Row) (k : Int) (deep loops : Nat), vs = [.ref l, v] ∧ H l = some (.lst ys) ∧ DpAll K H ys (c.map FR.d) ∧ Dp K H v (.tuple (rowsD rs)) ∧ rowsOk k deep loops rs ∧ 14 ≤ deep + (n + 1) ∧ c.length + 3 * rowsCl rs ≤ 90000 ∧ PutQ K H l (putRows rs c) Q
def spPut1 (K : PySem.W.Frag) (n : Nat) (wd : Str) : Sp := fun vs H Q _ => ∃ (l : Addr) (v : V) (ys : List V) (c : List FR) (r : Row) (k : Int) (deep loops : Nat), vs = [.ref l, v] ∧ H l = some (.lst ys) ∧ DpAll K H ys (c.map FR.d) ∧ Dp K H v r.d ∧ r.word = wd ∧ (r.ok k deep loops ∧ deep ≤ 12) ∧ 14 ≤ deep + (n + 1) ∧ c.length + 3 * r.cl ≤ 90000 ∧ PutQ K H l (putRow r c) Q
theorem ca_put_if {n : Nat} (R : Ca P w K mg base (2 * n + 1) "put_rows" (spPuts K n)) (T : Txt w K mg) : Ca P w K mg base (2 * n + 2) "put_if" (spPut1 K n "if") := by
    refine ca_of (N := ["code", "row", "test", "over"]) (ps := ["code", "row"]) T.f_put_if T.g_put_if ⟨rfl, rfl, rfl, by decide +kernel, rfl, by decide +kernel, by decide +kernel⟩ (fun _ _ _ _ _ _ us hl => match us, hl with | [_, _], _ => rfl)
      (fun vs H Q E h => by obtain ⟨l, v, ys, c, r, k, deep, loops, rfl, hl, hys, hv, hw, ⟨ok, hd⟩, hn, hz, q⟩ := h; rfl) (fun cdv A outer s H vs Q E hr h => ?_)
    have nd : (["code", "row", "test", "over"] : List Str).Nodup := by decide +kernel
    obtain ⟨l, v, ys, c, r, k, deep, loops, rfl, hl, hys, hv, hw, ⟨ok, hd⟩, hn, hz, q⟩ := h
    obtain ⟨e, a, b, rfl⟩ := word_if hw
    obtain ⟨m, rfl⟩ : ∃ m, n = m + 1 := ⟨n - 1, by omega⟩
    have ok : e.good ∧ rowsOk k (deep + 1) loops a ∧ rowsOk k (deep + 1) loops b := ok
    have hz : c.length + 3 * (1 + (rowsCl a + rowsCl b)) ≤ 90000 := hz
    have nl : NoL (Row.iff e a b).d := Row.noL _
    obtain ⟨ra, xs, rfl, hra, hxs⟩ := dp_tup hv
    obtain ⟨x0, x1, x2, x3, rfl, h0, h1, h2, h3⟩ : ∃ x0 x1 x2 x3, xs = [x0, x1, x2, x3] ∧ Dp K H x0 (.str "if") ∧ Dp K H x1 e.d ∧ Dp K H x2 (.tuple (rowsD a)) ∧ Dp K H x3 (.tuple (rowsD b)) := by
      cases hxs with | cons h0 hr => cases hr with | cons h1 hr => cases hr with | cons h2 hr => cases hr with | cons h3 hr => cases hr with | nil => exact ⟨_, _, _, _, rfl, h0, h1, h2, h3⟩
    refine ⟨_, (pss_cons (ps_set (i := 2) nd rfl (.inl rfl) (pe_callB call_len_seq (by rfl) T.b_len PySem.boot_len (pa_cons (pv 0) pa_nil)))
      (pss_cons (ps_expr (pe_bm PySem.F.plainAttrs_list PySem.F.slot_list_append PySem.F.type_list_append mt_append (pv 0) (pa_cons (pe_tup pa_nil) pa_nil)))
      (pss_cons (ps_expr (pe_ca R hr (pa_cons (pv 0) (pa_cons (pe_ix ix_tup (pv 1) pe_int (fun _ _ => rfl)) pa_nil)) (by omega)))
      (pss_cons (ps_set (i := 3) nd rfl (.inl rfl) (pe_callB call_len_seq (by rfl) T.b_len PySem.boot_len (pa_cons (pv 0) pa_nil)))
      (pss_cons (ps_expr (pe_bm PySem.F.plainAttrs_list PySem.F.slot_list_append PySem.F.type_list_append mt_append (pv 0) (pa_cons (pe_tup pa_nil) pa_nil)))
      (pss_cons (ps_asg (pe_tup (pa_cons pe_str (pa_cons (pe_ix ix_tup (pv 1) pe_int (fun _ _ => rfl)) (pa_cons (pe_callB call_len_seq (by rfl) T.b_len PySem.boot_len (pa_cons (pv 0) pa_nil)) pa_nil)))) (pg_sub (pv 0) (pv 2) set_list))
      (pss_cons (ps_expr (pe_ca R hr (pa_cons (pv 0) (pa_cons (pe_ix ix_tup (pv 1) pe_int (fun _ _ => rfl)) pa_nil)) (by omega)))
      (pss_one (ps_asg (pe_tup (pa_cons pe_str (pa_cons (pe_callB call_len_seq (by rfl) T.b_len PySem.boot_len (pa_cons (pv 0) pa_nil)) pa_nil))) (pg_sub (pv 0) (pv 3) set_list)))))))))), ?_⟩
    have lys : ys.length = c.length := by rw [dps_len hys, List.length_map]
    have g1 := putRows_goes a (c ++ [FR.hole])
    have z1 := g1.sz
    simp only [List.length_append, List.length_cons, List.length_nil] at z1
    -- test = len(code); code.append(())
    refine ⟨_, rfl, _, _, rfl, .inl (.of hl), _, rfl, .inl ⟨rfl, _, .of hl⟩, (by show 0 ≤ sizeLine; exact Nat.zero_le _), fun t nt => ?_⟩
    have nlt : l ≠ t := ne_of_none hl nt
    have s1 : Same H (upd H t (.tup [])) := same_new nt
    refine ⟨l, ys, _, rfl, rfl, s1 _ _ hl, by rw [sizeLine_eq]; omega, ?_⟩
    -- put_rows(code, row[2])
    have b1 : But l H (upd (upd H t (.tup [])) l (.lst (ys ++ [.ref t]))) := (same_but s1).trans But.upd
    have ch : Ch H l := .lst hl
    have d1 : DpAll K (upd (upd H t (.tup [])) l (.lst (ys ++ [.ref t]))) (ys ++ [.ref t]) ((c ++ [FR.hole]).map FR.d) := by
      rw [List.map_append]
      exact dps_app (dps_but ch b1 hys (frs_noL c)) (.cons (.tup (SqT.of (by rw [upd_ne (Ne.symm nlt), upd_same])) .nil) .nil)
    refine ⟨_, rfl, _, rfl, _, _, _, _, rfl, rfl, sqT_but ch b1 hra, at2, l, x2, _, c ++ [FR.hole], a, k, deep + 1, loops, rfl, upd_same, d1, dp_but ch b1 h2 (.tup (rows_noL a)), ok.2.1, by omega, by simp; omega, fun H2 y2 b2 hl2 d2 => ?_⟩
    generalize ec1 : putRows a (c ++ [FR.hole]) = c1 at g1 z1 d2
    have l1 := g1.le
    simp only [List.length_append, List.length_cons, List.length_nil] at l1
    have ly2 : y2.length = c1.length := by rw [dps_len d2, List.length_map]
    have b02 : But l H H2 := b1.trans b2
    -- over = len(code); code.append(())
    refine ⟨_, rfl, _, _, rfl, .inl (.of hl2), _, rfl, .inl ⟨rfl, _, .of hl2⟩, (by show 0 ≤ sizeLine; exact Nat.zero_le _), fun t2 nt2 => ?_⟩
    have nlt2 : l ≠ t2 := ne_of_none hl2 nt2
    have s3 : Same H2 (upd H2 t2 (.tup [])) := same_new nt2
    refine ⟨l, y2, _, rfl, rfl, s3 _ _ hl2, by rw [sizeLine_eq]; omega, ?_⟩
    have b3 : But l H2 (upd (upd H2 t2 (.tup [])) l (.lst (y2 ++ [.ref t2]))) := (same_but s3).trans But.upd
    have ch2 : Ch H2 l := .lst hl2
    have d3 : DpAll K (upd (upd H2 t2 (.tup [])) l (.lst (y2 ++ [.ref t2]))) (y2 ++ [.ref t2]) ((c1 ++ [FR.hole]).map FR.d) := by
      rw [List.map_append]
      exact dps_app (dps_but ch2 b3 d2 (frs_noL c1)) (.cons (.tup (SqT.of (by rw [upd_ne (Ne.symm nlt2), upd_same])) .nil) .nil)
    have b03 := b02.trans b3
    generalize eH3 : upd (upd H2 t2 (.tup [])) l (.lst (y2 ++ [.ref t2])) = H3 at b3 d3 b03
    have hl3 : H3 l = some (.lst (y2 ++ [.ref t2])) := by rw [← eH3, upd_same]
    -- code[test] = ("unless", row[1], len(code))
    refine ⟨_, rfl, _, _, _, _, rfl, rfl, sqT_but ch b03 hra, at1, _, rfl, _, _, rfl, .inl (.of hl3), (by show 3 ≤ sizeLine; decide), fun t4 nt4 => ?_⟩
    have nlt4 : l ≠ t4 := ne_of_none hl3 nt4
    have s4 : Same H3 (upd H3 t4 (.tup [.str "unless", x1, .int ((y2 ++ [V.ref t2]).length : Nat)])) := same_new nt4
    refine ⟨_, rfl, _, rfl, l, _, _, c.length, rfl, rfl, s4 _ _ hl3, by rw [lys]; exact Evl.ixN_nat (by simp; omega), ?_⟩
    have ch3 : Ch H3 l := .lst hl3
    have b4 := (same_but s4 (D := l)).trans (But.upd (H := upd H3 t4 (.tup [.str "unless", x1, .int ((y2 ++ [V.ref t2]).length : Nat)])) (o := .lst ((y2 ++ [V.ref t2]).set c.length (V.ref t4))))
    have d4 : DpAll K (upd (upd H3 t4 (.tup [.str "unless", x1, .int ((y2 ++ [V.ref t2]).length : Nat)])) l (.lst ((y2 ++ [V.ref t2]).set c.length (V.ref t4)))) ((y2 ++ [V.ref t2]).set c.length (V.ref t4)) (((c1 ++ [FR.hole]).set c.length (FR.unless e (c1.length + 1))).map FR.d) := by
      rw [List.map_set]
      refine dps_set (dps_but ch3 b4 d3 (frs_noL _)) (.tup (SqT.of (by rw [upd_ne (Ne.symm nlt4), upd_same])) (.cons (.str _) (.cons (dp_but ch (b03.trans b4) h1 e.noL) (.cons ?_ .nil))))
      rw [show ((y2 ++ [V.ref t2]).length : Nat) = c1.length + 1 from by simp [ly2]]
      exact .int _
    have b04 := b03.trans b4
    -- put_rows(code, row[3])
    have g2 := putRows_goes b ((c1 ++ [FR.hole]).set c.length (FR.unless e (c1.length + 1)))
    have z2 := g2.sz
    simp only [List.length_append, List.length_set, List.length_cons, List.length_nil] at z2
    refine ⟨_, rfl, _, rfl, _, _, _, _, rfl, rfl, sqT_but ch b04 hra, at3, l, x3, _, (c1 ++ [FR.hole]).set c.length (FR.unless e (c1.length + 1)), b, k, deep + 1, loops, rfl, upd_same, d4, dp_but ch b04 h3 (.tup (rows_noL b)), ok.2.2, by omega, by simp; omega, fun H5 y5 b5 hl5 d5 => ?_⟩
    generalize ec2 : putRows b ((c1 ++ [FR.hole]).set c.length (FR.unless e (c1.length + 1))) = c2 at g2 z2 d5
    have l2 := g2.le
    simp only [List.length_append, List.length_set, List.length_cons, List.length_nil] at l2
    have ly5 : y5.length = c2.length := by rw [dps_len d5, List.length_map]
    have b05 := b04.trans b5
    -- code[over] = ("on", len(code))
    refine ⟨_, rfl, _, _, rfl, .inl (.of hl5), (by show 2 ≤ sizeLine; decide), fun t6 nt6 => ?_⟩
    have nlt6 : l ≠ t6 := ne_of_none hl5 nt6
    have s6 : Same H5 (upd H5 t6 (.tup [.str "on", .int (y5.length : Nat)])) := same_new nt6
    refine ⟨_, rfl, _, rfl, l, _, _, c1.length, rfl, rfl, s6 _ _ hl5, by rw [ly2]; exact Evl.ixN_nat (by omega), ?_⟩
    have b6 := (same_but s6 (D := l)).trans (But.upd (H := upd H5 t6 (.tup [.str "on", .int (y5.length : Nat)])) (o := .lst (y5.set c1.length (.ref t6))))
    refine q _ _ (b05.trans b6) upd_same ?_
    have e0 : putRow (.iff e a b) c = c2.set c1.length (FR.on c2.length) := by
      show (putRows b (((putRows a (c ++ [FR.hole])) ++ [FR.hole]).set c.length (FR.unless e ((putRows a (c ++ [FR.hole])).length + 1)))).set (putRows a (c ++ [FR.hole])).length (FR.on (putRows b (((putRows a (c ++ [FR.hole])) ++ [FR.hole]).set c.length (FR.unless e ((putRows a (c ++ [FR.hole])).length + 1)))).length) = _
      rw [ec1, ec2]
    rw [e0, List.map_set]
    refine dps_set (dps_but (.lst hl5) b6 d5 (frs_noL _)) (.tup (SqT.of (by rw [upd_ne (Ne.symm nlt6), upd_same])) (.cons (.str _) (.cons ?_ .nil)))
    rw [ly5]
    exact .int _
end

end M

set_option Elab.async false
set_option linter.all false
set_option maxRecDepth 100000
set_option maxHeartbeats 2000000
namespace M
open PySem PySem.Spec PyProof.Rows L2

section
variable {P : Program} {w : World} {K : PySem.W.Frag} {mg : Str → Option Value} {base : Heap}
theorem ca_put_times {n : Nat} (R : Ca P w K mg base (2 * n + 1) "put_rows" (spPuts K n)) (T : Txt w K mg) : Ca P w K mg base (2 * n + 2) "put_times" (spPut1 K n "times") := by
    refine ca_of (N := ["code", "row", "top"]) (ps := ["code", "row"]) T.f_put_times T.g_put_times ⟨rfl, rfl, rfl, by decide +kernel, rfl, by decide +kernel, by decide +kernel⟩ (fun _ _ _ _ _ _ us hl => match us, hl with | [_, _], _ => rfl)
      (fun vs H Q E h => by obtain ⟨l, v, ys, c, r, k, deep, loops, rfl, hl, hys, hv, hw, ⟨ok, hd⟩, hn, hz, q⟩ := h; rfl) (fun cdv A outer s H vs Q E hr h => ?_)
    have nd : (["code", "row", "top"] : List Str).Nodup := by decide +kernel
    obtain ⟨l, v, ys, c, r, k, deep, loops, rfl, hl, hys, hv, hw, ⟨ok, hd⟩, hn, hz, q⟩ := h
    obtain ⟨e, a, rfl⟩ := word_times hw
    obtain ⟨m, rfl⟩ : ∃ m, n = m + 1 := ⟨n - 1, by omega⟩
    have ok : e.good ∧ loops < 2 ∧ rowsOk k (deep + 1) (loops + 1) a := ok
    have hz : c.length + 3 * (1 + rowsCl a) ≤ 90000 := hz
    obtain ⟨ra, x0, x1, x2, rfl, hra, h0, h1, h2⟩ := dp3 hv
    refine ⟨_, (pss_cons (ps_expr (pe_bm PySem.F.plainAttrs_list PySem.F.slot_list_append PySem.F.type_list_append mt_append (pv 0) (pa_cons (pe_tup (pa_cons pe_str (pa_cons (pe_ix ix_tup (pv 1) pe_int (fun _ _ => rfl)) pa_nil))) pa_nil)))
      (pss_cons (ps_set (i := 2) nd rfl (.inl rfl) (pe_callB call_len_seq (by rfl) T.b_len PySem.boot_len (pa_cons (pv 0) pa_nil)))
      (pss_cons (ps_expr (pe_bm PySem.F.plainAttrs_list PySem.F.slot_list_append PySem.F.type_list_append mt_append (pv 0) (pa_cons (pe_tup pa_nil) pa_nil)))
      (pss_cons (ps_expr (pe_ca R hr (pa_cons (pv 0) (pa_cons (pe_ix ix_tup (pv 1) pe_int (fun _ _ => rfl)) pa_nil)) (by omega)))
      (pss_cons (ps_expr (pe_bm PySem.F.plainAttrs_list PySem.F.slot_list_append PySem.F.type_list_append mt_append (pv 0) (pa_cons (pe_tup (pa_cons pe_str (pa_cons (pv 2) pa_nil))) pa_nil)))
      (pss_one (ps_asg (pe_tup (pa_cons pe_str (pa_cons (pe_callB call_len_seq (by rfl) T.b_len PySem.boot_len (pa_cons (pv 0) pa_nil)) pa_nil))) (pg_sub (pv 0) (pv 2) set_list)))))))), ?_⟩
    have lys : ys.length = c.length := by rw [dps_len hys, List.length_map]
    have g1 := putRows_goes a (c ++ [FR.rounds e, FR.hole])
    have z1 := g1.sz
    simp only [List.length_append, List.length_cons, List.length_nil] at z1
    have ch : Ch H l := .lst hl
    -- code.append(("rounds", row[1]))
    refine ⟨_, rfl, .inl ⟨rfl, _, .of hl⟩, _, rfl, _, _, _, _, rfl, rfl, hra, at1, (by show 2 ≤ sizeLine; decide), fun t nt => ?_⟩
    have nlt : l ≠ t := ne_of_none hl nt
    have s1 : Same H (upd H t (.tup [.str "rounds", x1])) := same_new nt
    refine ⟨l, ys, _, rfl, rfl, s1 _ _ hl, by rw [sizeLine_eq]; omega, ?_⟩
    have b1 := (same_but s1 (D := l)).trans (But.upd (H := upd H t (.tup [.str "rounds", x1])) (o := .lst (ys ++ [V.ref t])))
    have d1 : DpAll K (upd (upd H t (.tup [.str "rounds", x1])) l (.lst (ys ++ [V.ref t]))) (ys ++ [V.ref t]) ((c ++ [FR.rounds e]).map FR.d) := by
      rw [List.map_append]
      exact dps_app (dps_but ch b1 hys (frs_noL c)) (.cons (.tup (SqT.of (by rw [upd_ne (Ne.symm nlt), upd_same])) (.cons (.str _) (.cons (dp_but ch b1 h1 e.noL) .nil))) .nil)
    generalize eH1 : upd (upd H t (.tup [.str "rounds", x1])) l (.lst (ys ++ [V.ref t])) = H1 at b1 d1
    have hl1 : H1 l = some (.lst (ys ++ [V.ref t])) := by rw [← eH1, upd_same]
    -- top = len(code); code.append(())
    refine ⟨_, rfl, _, _, rfl, .inl (.of hl1), _, rfl, .inl ⟨rfl, _, .of hl1⟩, (by show 0 ≤ sizeLine; exact Nat.zero_le _), fun t2 nt2 => ?_⟩
    have nlt2 : l ≠ t2 := ne_of_none hl1 nt2
    have s2 : Same H1 (upd H1 t2 (.tup [])) := same_new nt2
    refine ⟨l, _, _, rfl, rfl, s2 _ _ hl1, by rw [sizeLine_eq]; simp; omega, ?_⟩
    have b2 := (same_but s2 (D := l)).trans (But.upd (H := upd H1 t2 (.tup [])) (o := .lst (ys ++ [V.ref t] ++ [V.ref t2])))
    have d2 : DpAll K (upd (upd H1 t2 (.tup [])) l (.lst (ys ++ [V.ref t] ++ [V.ref t2]))) (ys ++ [V.ref t] ++ [V.ref t2]) ((c ++ [FR.rounds e, FR.hole]).map FR.d) := by
      rw [show c ++ [FR.rounds e, FR.hole] = (c ++ [FR.rounds e]) ++ [FR.hole] from by simp, List.map_append]
      exact dps_app (dps_but (.lst hl1) b2 d1 (frs_noL _)) (.cons (.tup (SqT.of (by rw [upd_ne (Ne.symm nlt2), upd_same])) .nil) .nil)
    have b02 := b1.trans b2
    -- put_rows(code, row[2])
    refine ⟨_, rfl, _, rfl, _, _, _, _, rfl, rfl, sqT_but ch b02 hra, at2, l, x2, _, c ++ [FR.rounds e, FR.hole], a, k, deep + 1, loops + 1, rfl, upd_same, d2, dp_but ch b02 h2 (.tup (rows_noL a)), ok.2.2, by omega, by simp; omega, fun H3 y3 b3 hl3 d3 => ?_⟩
    generalize ec1 : putRows a (c ++ [FR.rounds e, FR.hole]) = c1 at g1 z1 d3
    have l1 := g1.le
    simp only [List.length_append, List.length_cons, List.length_nil] at l1
    have ly3 : y3.length = c1.length := by rw [dps_len d3, List.length_map]
    have b03 := b02.trans b3
    -- code.append(("on", top))
    refine ⟨_, rfl, .inl ⟨rfl, _, .of hl3⟩, _, rfl, (by show 2 ≤ sizeLine; decide), fun t4 nt4 => ?_⟩
    have nlt4 : l ≠ t4 := ne_of_none hl3 nt4
    have s4 : Same H3 (upd H3 t4 (.tup [.str "on", .int ((ys ++ [V.ref t]).length : Nat)])) := same_new nt4
    refine ⟨l, y3, _, rfl, rfl, s4 _ _ hl3, by rw [sizeLine_eq]; omega, ?_⟩
    have b4 := (same_but s4 (D := l)).trans (But.upd (H := upd H3 t4 (.tup [.str "on", .int ((ys ++ [V.ref t]).length : Nat)])) (o := .lst (y3 ++ [V.ref t4])))
    have d4 : DpAll K (upd (upd H3 t4 (.tup [.str "on", .int ((ys ++ [V.ref t]).length : Nat)])) l (.lst (y3 ++ [V.ref t4]))) (y3 ++ [V.ref t4]) ((c1 ++ [FR.on (c.length + 1)]).map FR.d) := by
      rw [List.map_append]
      refine dps_app (dps_but (.lst hl3) b4 d3 (frs_noL _)) (.cons (.tup (SqT.of (by rw [upd_ne (Ne.symm nlt4), upd_same])) (.cons (.str _) (.cons ?_ .nil))) .nil)
      rw [show ((ys ++ [V.ref t]).length : Nat) = c.length + 1 from by simp [lys]]
      exact .int _
    generalize eH4 : upd (upd H3 t4 (.tup [.str "on", .int ((ys ++ [V.ref t]).length : Nat)])) l (.lst (y3 ++ [V.ref t4])) = H4 at b4 d4
    have hl4 : H4 l = some (.lst (y3 ++ [V.ref t4])) := by rw [← eH4, upd_same]
    have b04 := b03.trans b4
    -- code[top] = ("round", len(code))
    refine ⟨_, rfl, _, _, rfl, .inl (.of hl4), (by show 2 ≤ sizeLine; decide), fun t6 nt6 => ?_⟩
    have nlt6 : l ≠ t6 := ne_of_none hl4 nt6
    have s6 : Same H4 (upd H4 t6 (.tup [.str "round", .int ((y3 ++ [V.ref t4]).length : Nat)])) := same_new nt6
    refine ⟨_, rfl, _, rfl, l, _, _, c.length + 1, rfl, rfl, s6 _ _ hl4, by rw [show ((ys ++ [V.ref t]).length : Nat) = c.length + 1 from by simp [lys]]; exact Evl.ixN_nat (by simp; omega), ?_⟩
    have b6 := (same_but s6 (D := l)).trans (But.upd (H := upd H4 t6 (.tup [.str "round", .int ((y3 ++ [V.ref t4]).length : Nat)])) (o := .lst ((y3 ++ [V.ref t4]).set (c.length + 1) (V.ref t6))))
    refine q _ _ (b04.trans b6) upd_same ?_
    have e0 : putRow (.times e a) c = (c1 ++ [FR.on (c.length + 1)]).set (c.length + 1) (FR.round (c1.length + 1)) := by
      show ((putRows a (c ++ [FR.rounds e, FR.hole])) ++ [FR.on (c.length + 1)]).set (c.length + 1) (FR.round ((putRows a (c ++ [FR.rounds e, FR.hole])).length + 1)) = _
      rw [ec1]
    rw [e0, List.map_set]
    refine dps_set (dps_but (.lst hl4) b6 d4 (frs_noL _)) (.tup (SqT.of (by rw [upd_ne (Ne.symm nlt6), upd_same])) (.cons (.str _) (.cons ?_ .nil)))
    rw [show ((y3 ++ [V.ref t4]).length : Nat) = c1.length + 1 from by simp [ly3]]
    exact .int _
theorem ca_put_rows1 {n : Nat} (RI : Ca P w K mg base (2 * n + 2) "put_if" (spPut1 K n "if")) (RT : Ca P w K mg base (2 * n + 2) "put_times" (spPut1 K n "times")) (T : Txt w K mg) : Ca P w K mg base (2 * n + 3) "put_rows" (spPuts K (n + 1)) := by
    refine ca_of (N := ["code", "rows", "row"]) (ps := ["code", "rows"]) T.f_put_rows T.g_put_rows ⟨rfl, rfl, rfl, by decide +kernel, rfl, by decide +kernel, by decide +kernel⟩ (fun _ _ _ _ _ _ us hl => match us, hl with | [_, _], _ => rfl)
      (fun vs H Q E h => by obtain ⟨l, v, ys, c, rs, k, deep, loops, rfl, hl, hys, hv, ok, hn, hz, q⟩ := h; rfl) (fun cdv A outer s H vs Q E hr h => ?_)
    have nd : (["code", "rows", "row"] : List Str).Nodup := by decide +kernel
    obtain ⟨l, v, ys, c, rs, k, deep, loops, rfl, hl, hys, hv, ok, hn, hz, q⟩ := h
    obtain ⟨a, xs, rfl, ha, hxs⟩ := dp_tup hv
    have lxs : xs.length = rs.length := by rw [dps_len hxs, rowsD_map, List.length_map]
    refine ⟨_, (pss_one (ps_for PassesOwn.never rfl (pi_tup (pv 1)) (pg_name (i := 2) nd rfl (.inl rfl)) (pss_one (ps_if (pt_cmpR op_eq (pe_ix ix_tup (pv 2) pe_int (fun _ _ => rfl)) pe_str (nomark _)) (pss_one (ps_expr (pe_ca RI hr (pa_cons (pv 0) (pa_cons (pv 2) pa_nil)) (by omega)))) (pss_one (ps_if (pt_cmpR op_eq (pe_ix ix_tup (pv 2) pe_int (fun _ _ => rfl)) pe_str (nomark _)) (pss_one (ps_expr (pe_ca RT hr (pa_cons (pv 0) (pa_cons (pv 2) pa_nil)) (by omega)))) (pss_one (ps_expr (pe_bm PySem.F.plainAttrs_list PySem.F.slot_list_append PySem.F.type_list_append mt_append (pv 0) (pa_cons (pv 2) pa_nil)))))))))), ?_⟩
    have ch : Ch H l := .lst hl
    refine ⟨_, rfl, a, rfl, ⟨_, ha⟩, for_tup (xs := xs) (fun i σ' H' => ∃ x y', σ' = [some (.ref l), some (.ref a), x] ∧ But l H H' ∧ H' l = some (.lst y') ∧ DpAll K H' y' ((putRows (rs.take i) c).map FR.d)) ⟨none, ys, rfl, fun b o _ z => z, hl, hys⟩ (fun i σ' H' _ ⟨_, _, _, bt, _⟩ => sqT_but ch bt ha) ?_ ?_⟩
    · rintro i x σ' H' hx ⟨_, y', rfl, bt, hl', hy'⟩
      obtain ⟨dd, hdd, hxd⟩ := dps_get hxs hx
      rw [rowsD_map] at hdd
      obtain ⟨r, hr', rfl⟩ := get_mapA hdd
      have okr := rowsOkAt ok r (List.mem_of_getElem? hr')
      have szt := rowsCl_take hr'
      have gz := (putRows_goes (rs.take i) c).sz
      have ly' : y'.length = (putRows (rs.take i) c).length := by rw [dps_len hy', List.length_map]
      have hx2 : Dp K H' x r.d := dp_but ch bt hxd r.noL
      have r1 : 1 ≤ r.cl := by rw [row_cl]; omega
      have nxt : ∀ H3 y3, But l H' H3 → H3 l = some (.lst y3) → DpAll K H3 y3 ((putRow r (putRows (rs.take i) c)).map FR.d) → ∃ x' y', [some (.ref l), some (.ref a), some x] = [some (.ref l), some (.ref a), x'] ∧ But l H H3 ∧ H3 l = some (.lst y') ∧ DpAll K H3 y' ((putRows (rs.take (i + 1)) c).map FR.d) := fun H3 y3 b3 h3 d3 => ⟨_, y3, rfl, bt.trans b3, h3, by rw [take_more hr', putRows_snoc]; exact d3⟩
      have hv' := hx2
      rw [row_d] at hx2
      obtain ⟨ra, zs, rfl, hra, hzs⟩ := dp_tup hx2
      obtain ⟨z0, zr, rfl, h0, hzr⟩ : ∃ y ys, zs = y :: ys ∧ Dp K H' y (.str r.word) ∧ DpAll K H' ys (r.prts.map Prt.d) := by
        cases hzs with | cons h1 h2 => exact ⟨_, _, rfl, h1, h2⟩
      cases dp_str h0
      refine ⟨_, rfl, _, _, _, _, rfl, rfl, hra, at0, rfl, _, rfl, ?_⟩
      by_cases e1 : r.word = "if"
      · rw [e1]
        exact iteT ⟨_, rfl, _, rfl, l, _, y', _, r, k, deep, loops, rfl, hl', hy', hv', e1, ⟨okr.2, okr.1⟩, hn, by omega, fun H3 y3 b3 h3 d3 => nxt H3 y3 b3 h3 d3⟩
      · rw [decide_eq_false (show ¬ V.str r.word = V.str "if" from fun z => e1 (V.str.inj z))]
        refine iteF ⟨_, rfl, _, _, _, _, rfl, rfl, hra, at0, rfl, _, rfl, ?_⟩
        by_cases e2 : r.word = "times"
        · rw [e2]
          exact iteT ⟨_, rfl, _, rfl, l, _, y', _, r, k, deep, loops, rfl, hl', hy', hv', e2, ⟨okr.2, okr.1⟩, hn, by omega, fun H3 y3 b3 h3 d3 => nxt H3 y3 b3 h3 d3⟩
        · rw [decide_eq_false (show ¬ V.str r.word = V.str "times" from fun z => e2 (V.str.inj z))]
          refine iteF ⟨_, rfl, .inl ⟨rfl, _, .of hl'⟩, _, rfl, l, y', _, rfl, rfl, hl', by rw [sizeLine_eq]; omega, ?_⟩
          refine nxt _ _ But.upd upd_same ?_
          rw [putRow_plain _ e1 e2, List.map_append]
          exact dps_app (dps_but (.lst hl') But.upd hy' (frs_noL _)) (.cons (dp_but (.lst hl') But.upd hv' r.noL) .nil)
    · rintro σ' H' ⟨_, y', rfl, bt, hl', hy'⟩
      rw [lxs, List.take_length] at hy'
      exact q H' y' bt hl' hy'
theorem ca_put_rows (T : Txt w K mg) : ∀ n, Ca P w K mg base (2 * n + 1) "put_rows" (spPuts K n)
  | 0 => ca_false (ps := ["code", "rows"]) T.f_put_rows T.g_put_rows (fun _ _ _ _ _ _ us hl => match us, hl with | [_, _], _ => rfl)
  | n + 1 => ca_put_rows1 (ca_put_if (ca_put_rows T n) T) (ca_put_times (ca_put_rows T n) T) T
def spCode (K : PySem.W.Frag) : Sp := fun vs H Q _ => ∃ (v : V) (rs : List Row) (k : Int), vs = [v] ∧ Dp K H v (.tuple (rowsD rs)) ∧ rowsOk k 1 0 rs ∧ rowsCl rs ≤ 2000 ∧ ∀ H' u, Same H H' → Dp K H' u (codeD rs) → Q u H'
theorem ca_code_of (T : Txt w K mg) : Ca P w K mg base 30 "code_of" (spCode K) := by
  refine ca_of (N := ["body", "code"]) (ps := ["body"]) T.f_code_of T.g_code_of ⟨rfl, rfl, rfl, by decide +kernel, rfl, by decide +kernel, by decide +kernel⟩ (fun _ _ _ _ _ _ us hl => match us, hl with | [_], _ => rfl)
    (fun vs H Q E h => by obtain ⟨v, rs, k, rfl, hv, ok, hc, q⟩ := h; rfl) (fun cdv A outer s H vs Q E hr h => ?_)
  have nd : (["body", "code"] : List Str).Nodup := by decide +kernel
  obtain ⟨v, rs, k, rfl, hv, ok, hc, q⟩ := h
  refine ⟨_, (pss_cons (ps_set (i := 1) nd rfl (.inl rfl) (pe_lst pa_nil))
      (pss_cons (ps_expr (pe_ca (ca_put_rows T 13) hr (pa_cons (pv 1) (pa_cons (pv 0) pa_nil))))
      (pss_cons (ps_expr (pe_bm PySem.F.plainAttrs_list PySem.F.slot_list_append PySem.F.type_list_append mt_append (pv 1) (pa_cons (pe_tup (pa_cons pe_str (pa_cons pe_int pa_nil))) pa_nil)))
      (pss_one (ps_ret (pe_tupleOf (by rfl) T.b_tuple (pv 1))))))), ?_⟩
  refine ⟨(by show 0 ≤ sizeLine; exact Nat.zero_le _), fun l nl => ?_⟩
  have s0 : Same H (upd H l (.lst [])) := same_new nl
  refine ⟨_, rfl, _, rfl, l, v, [], [], rs, k, 1, 0, rfl, upd_same, .nil, dp_same s0 hv, ok, (by decide), by simp; omega, fun H1 y1 b1 h1 d1 => ?_⟩
  have gz := (putRows_goes rs []).sz
  have ly : y1.length = (putRows rs []).length := by rw [dps_len d1, List.length_map]
  refine ⟨_, rfl, .inl ⟨rfl, _, .of h1⟩, (by show 2 ≤ sizeLine; decide), fun t nt => ?_⟩
  have nlt : l ≠ t := ne_of_none h1 nt
  have s1 : Same H1 (upd H1 t (.tup [.str "answer", .int 0])) := same_new nt
  refine ⟨l, y1, _, rfl, rfl, s1 _ _ h1, by rw [sizeLine_eq]; simp at gz; omega, ?_⟩
  have b2 := (same_but s1 (D := l)).trans (But.upd (H := upd H1 t (.tup [.str "answer", .int 0])) (o := .lst (y1 ++ [V.ref t])))
  have d2 : DpAll K (upd (upd H1 t (.tup [.str "answer", .int 0])) l (.lst (y1 ++ [V.ref t]))) (y1 ++ [V.ref t]) ((codeOf rs).map FR.d) := by
    show DpAll _ _ _ ((putRows rs [] ++ [FR.row (.ans (.num 0))]).map FR.d)
    rw [List.map_append]
    exact dps_app (dps_but (.lst h1) b2 d1 (frs_noL _)) (.cons (.tup (SqT.of (by rw [upd_ne (Ne.symm nlt), upd_same])) (.cons (.str _) (.cons (.int 0) .nil))) .nil)
  refine ⟨_, rfl, .inl ⟨l, _, rfl, .of upd_same, fun p np => ?_⟩⟩
  have s3 := same_new (o := .tup (y1 ++ [V.ref t])) np
  refine q _ _ (fun b o e => ?_) (.tup (SqT.of upd_same) (dps_same s3 d2))
  refine s3 b o ?_
  have hb := ne_of_none e nl
  exact b2 b o hb (b1 b o hb (s0 b o e))
end

end M

set_option Elab.async false
set_option linter.all false
set_option maxRecDepth 100000
set_option maxHeartbeats 2000000
namespace M
open PySem PySem.Spec PyProof.Rows L2

theorem upd_id {H : Hp} {d : Addr} {u : HO} (h : H d = some u) : upd H d u = H := by
  funext b
  by_cases e : b = d
  · rw [e, upd_same, h]
  · rw [upd_ne e]
theorem codes_but {K : PySem.W.Frag} {H H' : Hp} {D : Addr} (hD : Ch H D) (s : But D H H') : ∀ {kvs : List (Key × V)} {ds : List (Str × Int × List Row)}, CodesR K H kvs ds → CodesR K H' kvs ds
  | [], [], _ => trivial
  | (_, _) :: _, _ :: _, h => ⟨h.1, dp_but hD s h.2.1 (code_noL _), codes_but hD s h.2.2⟩
  | [], _ :: _, h => h.elim
  | _ :: _, [], h => h.elim
theorem codes_at {K : PySem.W.Frag} {H : Hp} : ∀ {kvs : List (Key × V)} {ds : List (Str × Int × List Row)} {i : Nat} {p : Key × V}, CodesR K H kvs ds → kvs[i]? = some p → ∃ d, ds[i]? = some d ∧ p.1 = Sum.inr d.1 ∧ Dp K H p.2 (codeD d.2.2)
  | [], [], i, p, _, e => by simp at e
  | (k, v) :: r, d :: ds, 0, p, h, e => by
    cases (Option.some.inj e)
    exact ⟨d, rfl, h.1, h.2.1⟩
  | (k, v) :: r, d :: ds, i + 1, p, h, e => codes_at (i := i) h.2.2 e
  | [], _ :: _, _, _, h, _ => h.elim
  | _ :: _, [], _, _, h, _ => h.elim
theorem codes_len {K : PySem.W.Frag} {H : Hp} : ∀ {kvs : List (Key × V)} {ds : List (Str × Int × List Row)}, CodesR K H kvs ds → kvs.length = ds.length
  | [], [], _ => rfl
  | (_, _) :: _, _ :: _, h => congrArg (· + 1) (codes_len h.2.2)
  | [], _ :: _, h => h.elim
  | _ :: _, [], h => h.elim
theorem codes_snoc {K : PySem.W.Frag} {H : Hp} {v : V} {d : Str × Int × List Row} (hv : Dp K H v (codeD d.2.2)) : ∀ {kvs : List (Key × V)} {ds : List (Str × Int × List Row)}, CodesR K H kvs ds → CodesR K H (kvs ++ [(Sum.inr d.1, v)]) (ds ++ [d])
  | [], [], _ => ⟨rfl, hv, trivial⟩
  | (_, _) :: _, _ :: _, h => ⟨h.1, h.2.1, codes_snoc hv h.2.2⟩
  | [], _ :: _, h => h.elim
  | _ :: _, [], h => h.elim
theorem codes_no {K : PySem.W.Frag} {H : Hp} {s : Str} : ∀ {kvs : List (Key × V)} {ds : List (Str × Int × List Row)}, CodesR K H kvs ds → s ∉ ds.map (·.1) → valV kvs (Sum.inr s : Key) = none
  | [], [], _, _ => rfl
  | (k, v) :: r, d :: ds, h, n => by
    obtain ⟨rfl, _, hr⟩ := h
    rw [List.map_cons, List.mem_cons, not_or] at n
    have := codes_no hr n.2
    unfold valV at this ⊢
    rw [List.find?_cons_of_neg (by simp; exact fun e => n.1 e.symm)]
    exact this
  | [], _ :: _, h, _ => h.elim
  | _ :: _, [], h, _ => h.elim
/-- whether a row with this word stands in one of the codes -/
def hasW (ds : List (Str × Int × List Row)) (s : Str) : Bool := ds.any fun d => (codeOf d.2.2).any fun f => decide (f.hd = some s)
section
variable {P : Program} {w : World} {K : PySem.W.Frag} {mg : Str → Option Value} {base : Heap}
def spHasRow (K : PySem.W.Frag) : Sp := fun vs H Q _ => ∃ (d : Addr) (kvs : List (Key × V)) (ds : List (Str × Int × List Row)) (s : Str), vs = [.ref d, .str s] ∧ H d = some (.dK kvs) ∧ CodesR K H kvs ds ∧ Q (.bl (hasW ds s)) H
theorem ca_has_row (T : Txt w K mg) : Ca P w K mg base 1 "has_row" (spHasRow K) := by
  refine ca_of (N := ["codes", "word", "code", "row"]) (ps := ["codes", "word"]) T.f_has_row T.g_has_row ⟨rfl, rfl, rfl, by decide +kernel, rfl, by decide +kernel, by decide +kernel⟩ (fun _ _ _ _ _ _ us hl => match us, hl with | [_, _], _ => rfl)
    (fun vs H Q E h => by obtain ⟨d, kvs, ds, s, rfl, hd, hc, q⟩ := h; rfl) (fun cdv A outer s H vs Q E hr h => ?_)
  have nd : (["codes", "word", "code", "row"] : List Str).Nodup := by decide +kernel
  obtain ⟨d, kvs, ds, s, rfl, hd, hc, q⟩ := h
  refine ⟨_, pss_cons (ps_lock (ps_for PassesOwn.never rfl (pi_values (pv 0)) (pg_name (i := 2) nd rfl (.inl rfl))
    (pss_one (ps_for PassesOwn.never rfl (pi_tup (pv 2)) (pg_name (i := 3) nd rfl (.inl rfl)) (pss_one (ps_if (pt_cmpR op_eq (pe_ix ix_tup (pv 3) pe_int (fun _ _ => rfl)) (pv 1) (nomark _)) (pss_one (ps_ret pe_bl)) pss_nil))))))
    (pss_one (ps_ret pe_bl)), ?_⟩
  refine ⟨d, _, hd, True.intro, fun od => ?_⟩
  have ch : Ch H d := .dK hd
  have hcf : CodesR K (upd H d (.frz od (.dK kvs))) kvs ds := codes_but ch But.upd hc
  have back : upd (upd H d (.frz od (.dK kvs))) d (.dK kvs) = H := by rw [upd_upd, upd_id hd]
  have ret : ∀ b, b = hasW ds s → Q (.bl b) (upd (upd H d (.frz od (.dK kvs))) d (.dK kvs)) := fun b e => by rw [back, e]; exact q
  refine ⟨_, rfl, d, od, kvs, rfl, upd_same, for_it (n := kvs.length) walk_values (fun i σ' H' => ∃ x y, σ' = [some (.ref d), some (.str s), x, y] ∧ H' = upd H d (.frz od (.dK kvs)) ∧ hasW (ds.take i) s = false) ⟨none, none, rfl, rfl, rfl⟩ (fun i σ' H' _ ⟨_, _, _, e, _⟩ => by rw [e, upd_same]) ?_ ?_⟩
  · rintro i x σ' H' H2 hi ⟨_, _, rfl, rfl, hw⟩ ⟨rfl, k, hk⟩
    obtain ⟨dd, hdd, _, hcode⟩ := codes_at hcf hk
    obtain ⟨ra, xs, e0, hra, hxs⟩ := dp_tup hcode
    have e0 : x = .ref ra := e0
    subst e0
    have hin : dd ∈ ds := List.mem_of_getElem? hdd
    refine ⟨_, rfl, ra, rfl, ⟨_, hra⟩, for_tup (xs := xs) (fun j σ' H' => ∃ y, σ' = [some (.ref d), some (.str s), some (.ref ra), y] ∧ H' = upd H d (.frz od (.dK kvs)) ∧ ((codeOf dd.2.2).take j).any (fun f => decide (f.hd = some s)) = false) ⟨_, rfl, rfl, rfl⟩ (fun j σ' H' _ ⟨_, _, e, _⟩ => by rw [e]; exact hra) ?_ ?_⟩
    · rintro j y σ' H' hy ⟨_, rfl, rfl, hf⟩
      obtain ⟨de, hde, hyd⟩ := dps_get hxs hy
      obtain ⟨f, hf', rfl⟩ := get_mapA hde
      obtain ⟨wd, hwd⟩ := code_hd (List.mem_of_getElem? hf')
      rw [fr_d hwd] at hyd
      obtain ⟨rb, zs, rfl, hrb, hzs⟩ := dp_tup hyd
      obtain ⟨z0, zr, rfl, hz0⟩ : ∃ z0 zr, zs = z0 :: zr ∧ Dp K (upd H d (.frz od (.dK kvs))) z0 (.str wd) := by
        cases hzs with | cons h1 h2 => exact ⟨_, _, rfl, h1⟩
      cases dp_str hz0
      refine ⟨_, rfl, _, _, _, _, rfl, rfl, hrb, at0, _, rfl, rfl, _, rfl, ?_⟩
      by_cases e : wd = s
      · rw [decide_eq_true (show V.str wd = V.str s from congrArg V.str e)]
        refine iteT ⟨upd_same, ret _ ?_⟩
        refine (List.any_eq_true.mpr ⟨dd, hin, List.any_eq_true.mpr ⟨f, List.mem_of_getElem? hf', ?_⟩⟩).symm
        rw [hwd, e]
        exact decide_eq_true rfl
      · rw [decide_eq_false (show ¬ V.str wd = V.str s from fun z => e (V.str.inj z))]
        refine iteF ⟨_, rfl, rfl, ?_⟩
        rw [take_more hf', List.any_append, hf]
        simp [hwd, e]
    · rintro σ' H' ⟨_, rfl, rfl, hf⟩
      refine ⟨_, _, rfl, rfl, ?_⟩
      have lx : xs.length = (codeOf dd.2.2).length := by rw [dps_len hxs, List.length_map]
      rw [lx, List.take_length] at hf
      rw [take_more hdd]
      unfold hasW at hw ⊢
      rw [List.any_append, hw]
      simp [hf]
  · rintro σ' H' ⟨_, _, rfl, rfl, hw⟩
    rw [codes_len hc, List.take_length] at hw
    exact ⟨upd_same, ret _ hw.symm⟩
end

end M

set_option Elab.async false
set_option linter.all false
set_option maxRecDepth 100000
set_option maxHeartbeats 2000000
namespace M
open PySem PySem.Spec PyProof.Rows L2

/-- what stands at D is no list -/
def NoLst (H : Hp) (D : Addr) : Prop := (∀ xs, H D ≠ some (.lst xs)) ∧ ∀ o u, H D ≠ some (.frz o u)
theorem NoLst.ins {H : Hp} {D C dx : Addr} {l : List (Str × V)} (h : H D = some (.ins C dx l)) : NoLst H D := ⟨fun _ e => (by rw [h] at e; cases e), fun _ _ e => (by rw [h] at e; cases e)⟩
theorem NoLst.dT {H : Hp} {D : Addr} {l : List (List Key × V)} (h : H D = some (.dT l)) : NoLst H D := ⟨fun _ e => (by rw [h] at e; cases e), fun _ _ e => (by rw [h] at e; cases e)⟩
theorem NoLst.dK {H : Hp} {D : Addr} {l : List (Key × V)} (h : H D = some (.dK l)) : NoLst H D := ⟨fun _ e => (by rw [h] at e; cases e), fun _ _ e => (by rw [h] at e; cases e)⟩
theorem sqL_but {K : PySem.W.Frag} {H H' : Hp} {D : Addr} (hD : NoLst H D) (s : But D H H') {a : Addr} {xs : List V} (h : SqL K H a xs) : SqL K H' a xs := by
  rcases h with (h | ⟨o, h⟩) | h
  · exact .inl (.inl (s _ _ (fun e => hD.1 _ (e ▸ h)) h))
  · exact .inl (.inr ⟨o, s _ _ (fun e => hD.2 _ _ (e ▸ h)) h⟩)
  · exact .inr h
theorem cells_but {K : PySem.W.Frag} {H H' : Hp} {D : Addr} (hD : Ch H D) (s : But D H H') {xs : List V} {cs : List (Int × Int)} (h : DpAll K H xs (cs.map cellD)) : DpAll K H' xs (cs.map cellD) :=
  dps_but hD s h fun d hd => by
    obtain ⟨c, _, rfl⟩ := List.mem_map.mp hd
    exact cell_noL c
theorem deeds_but {K : PySem.W.Frag} {H H' : Hp} {D : Addr} (hD : Ch H D) (s : But D H H') {xs : List V} {cs : List (Str × Int × List Row)} (h : DpAll K H xs (cs.map deedD)) : DpAll K H' xs (cs.map deedD) :=
  dps_but hD s h fun d hd => by
    obtain ⟨c, _, rfl⟩ := List.mem_map.mp hd
    exact deed_noL c
theorem vf_codes0 (a d c : Addr) : (putF "_codes" (V.ref c) (putF "_deeds" (.ref d) (putF "_cells" (.ref a) []))).lookup ("_codes" : Str) = some (.ref c) := by
  rw [lookup_putF, if_pos rfl]
section
variable {P : Program} {w : World} {K : PySem.W.Frag} {mg : Str → Option Value} {base : Heap}
def spVault (K : PySem.W.Frag) : Sp := fun vs H Q _ => ∃ (p dx a b : Addr) (xs ys : List V) (v : Vlt), vs = [.ref p, .ref a, .ref b] ∧ H p = some (.ins (He.ga K "Vault") dx []) ∧ SqL K H a xs ∧ DpAll K H xs (v.cells.map cellD) ∧ SqL K H b ys ∧ DpAll K H ys (v.deeds.map deedD) ∧ VGood v ∧ ∀ H', But p H H' → VaultAt K H' p v → Q .non H'
theorem ma_Vault (T : Txt w K mg) : Ma P w K mg base 53 "Vault" (He.ga K "Vault") (spVault K) := by
  refine ma_of (N := ["self", "cells", "deeds", "name", "_", "body"]) (ps := ["self", "cells", "deeds"]) T.f_Vault_init T.g_Vault T.k_Vault ⟨rfl, rfl, rfl, by decide +kernel, rfl, by decide +kernel, by decide +kernel⟩ (fun _ _ _ _ _ _ us hl => match us, hl with | [_, _, _], _ => rfl)
    (fun vs H Q E h => by obtain ⟨p, dx, a, b, xs, ys, v, rfl, hp, ha, hxs, hb, hys, g, q⟩ := h; rfl) (fun cdv A outer s H vs Q E hr h => ?_)
  have nd : (["self", "cells", "deeds", "name", "_", "body"] : List Str).Nodup := by decide +kernel
  obtain ⟨p, dx, a, b, xs, ys, v, rfl, hp, ha, hxs, hb, hys, g, q⟩ := h
  refine ⟨_, (pss_cons (ps_if (PW.pt (pw_or (pt_not (pt_val (pe_is .list T.b_isinstance (pv 1) T.b_list boot_list))) (pw_or1 (pt_not (pt_val (pe_ca (ca_are_cells T) hr (pa_cons (pv 1) pa_nil))))))) (pss_one ps_never) pss_nil)
      (pss_cons (ps_if (PW.pt (pw_or (pt_not (pt_val (pe_is .list T.b_isinstance (pv 2) T.b_list boot_list))) (pw_or1 (pt_not (pt_val (pe_ca (ca_are_deeds T) hr (pa_cons (pv 2) (pa_cons (pe_callB call_len_seq (by rfl) T.b_len PySem.boot_len (pa_cons (pv 1) pa_nil)) pa_nil)))))))) (pss_one ps_never) pss_nil)
      (pss_cons (ps_fld (pv 0) (pe_tupleOf (by rfl) T.b_tuple (pv 1)) rfl)
      (pss_cons (ps_fld (pv 0) (pe_tupleOf (by rfl) T.b_tuple (pv 2)) rfl)
      (pss_cons (ps_fld (pv 0) (pe_dc (own := [("name", 3), ("_", 4), ("body", 5)]) (tt := tYes) rfl nd (pi_list (pv 2)) (blkOk_by (N := ["self", "cells", "deeds", "name", "_", "body"]) (sc := defScope s_Vault_init) (by decide +kernel)) (fun _ _ _ _ _ => pg_three K 3 4 5 rfl rfl nd rfl rfl rfl (.inl rfl) (.inl rfl) (.inl rfl) (.inr rfl) (.inr rfl) (.inr rfl)) (fun _ _ _ _ _ => pts_nil) (fun _ _ _ _ _ => pv 3) (fun _ _ _ _ _ => pe_ca (ca_code_of T) hr (pa_cons (pv 5) pa_nil))) rfl)
      (pss_one (ps_fld (pv 0) (pe_ca (ca_has_row T) hr (pa_cons (pe_fld (pv 0) rfl) (pa_cons pe_str pa_nil))) rfl))))))), ?_⟩
  refine ⟨_, rfl, _, _, rfl, .list ha, _, rfl, iteF ?_⟩
  refine ⟨_, rfl, a, xs, v.cells, rfl, ha, hxs, g.c0, g.c1, g.cs, _, rfl, iteF ?_⟩
  refine ⟨_, rfl, _, _, rfl, .list hb, _, rfl, iteF ?_⟩
  have lx : xs.length = v.cells.length := by rw [dps_len hxs, List.length_map]
  have ly : ys.length = v.deeds.length := by rw [dps_len hys, List.length_map]
  refine ⟨_, rfl, _, rfl, _, _, rfl, .inl ha, b, ys, v.deeds, v.cells.length, by rw [lx]; rfl, hb, hys, g.d0, g.d1, g.ds, g.nd, fun H1 s1 => ⟨_, rfl, iteF ?_⟩⟩
  refine ⟨_, rfl, .inl ⟨a, xs, rfl, s1.seq ha, fun t1 nt1 => ?_⟩⟩
  have hp1 := s1 _ _ hp
  have nt1p : t1 ≠ p := fun e => by rw [e, hp1] at nt1; cases nt1
  have s2 : Same H (upd H1 t1 (.tup xs)) := s1.trans (same_new nt1)
  refine ⟨_, rfl, p, _, dx, _, rfl, s2 _ _ hp, T.c_Vault, T.n_Vault_cells, (by show 0 < 1000; decide), ?_⟩
  have np2 : NoLst (upd H1 t1 (.tup xs)) p := .ins (s2 _ _ hp)
  have cp2 : Ch (upd H1 t1 (.tup xs)) p := .ins (s2 _ _ hp)
  generalize eH2 : upd H1 t1 (.tup xs) = H2 at s2 np2 cp2
  have at2 : H2 t1 = some (.tup xs) := by rw [← eH2, upd_same]
  generalize eH3 : upd H2 p (.ins (He.ga K "Vault") dx (putF "_cells" (.ref t1) [])) = H3
  have b3 : But p H2 H3 := eH3 ▸ But.upd
  have hp3 : H3 p = some (.ins (He.ga K "Vault") dx (putF "_cells" (.ref t1) [])) := by rw [← eH3, upd_same]
  have hb3 : SqL K H3 b ys := sqL_but np2 b3 (s2.seq hb)
  refine ⟨_, rfl, .inl ⟨b, ys, rfl, hb3, fun t2 nt2 => ?_⟩⟩
  have s4 : Same H3 (upd H3 t2 (.tup ys)) := same_new nt2
  refine ⟨_, rfl, p, _, dx, _, rfl, s4 _ _ hp3, T.c_Vault, T.n_Vault_deeds, (by show 1 < 1000; decide), ?_⟩
  generalize eH4 : upd H3 t2 (.tup ys) = H4 at s4
  have at4 : H4 t2 = some (.tup ys) := by rw [← eH4, upd_same]
  have hp4 := s4 _ _ hp3
  have np4 : NoLst H4 p := .ins hp4
  have cp4 : Ch H4 p := .ins hp4
  generalize eH5 : upd H4 p (.ins (He.ga K "Vault") dx (putF "_deeds" (.ref t2) (putF "_cells" (.ref t1) []))) = H5
  have b5 : But p H4 H5 := eH5 ▸ But.upd
  have hp5 : H5 p = some (.ins (He.ga K "Vault") dx (putF "_deeds" (.ref t2) (putF "_cells" (.ref t1) []))) := by rw [← eH5, upd_same]
  have hb5 : SqL K H5 b ys := sqL_but np4 b5 (s4.seq hb3)
  have b25 : But p H2 H5 := (b3.trans (same_but s4)).trans b5
  have at5 : H5 t1 = some (.tup xs) := b25 _ _ nt1p at2
  have nt2p : t2 ≠ p := fun e => by rw [e, hp3] at nt2; cases nt2
  have at52 : H5 t2 = some (.tup ys) := b5 _ _ nt2p at4
  have hxs5 : DpAll K H5 xs (v.cells.map cellD) := cells_but cp2 b25 (dps_same s2 hxs)
  have hys5 : DpAll K H5 ys (v.deeds.map deedD) := deeds_but cp2 b25 (dps_same s2 hys)
  refine ⟨_, rfl, b, rfl, ⟨_, hb5⟩, fun D hD => ?_⟩
  refine it_any (n := ys.length) walk_list (fun i H' => ∃ kvs, Same H5 H' ∧ H' D = some (.dK kvs) ∧ CodesR K H' kvs (v.deeds.take i)) ⟨[], same_new hD, upd_same, trivial⟩ (fun i H' _ ⟨_, s, _⟩ => s.seq hb5) ?_ ?_
  · rintro i x H' H6 hi ⟨kvs, s, eD, hc⟩ ⟨rfl, ex⟩
    obtain ⟨dd, ed, hdd⟩ := dps_get hys5 ex
    obtain ⟨d, ec, rfl⟩ := get_mapA ed
    obtain ⟨t, x1, x2, x3, rfl, ht, e1, e2, e3⟩ := dp3 (dp_same s hdd)
    cases dp_str e1
    have ok := g.ds d (List.mem_of_getElem? ec)
    refine ⟨t, _, rfl, ht, rfl, _, _, rfl, _, _, rfl, _, _, rfl, rfl, rfl, ?_⟩
    refine ⟨_, rfl, _, rfl, x3, d.2.2, v.cells.length, rfl, e3, ok.2.2.1, ok.2.2.2.2, fun H7 u s7 hu => ?_⟩
    have nn : d.1 ∉ (v.deeds.take i).map (·.1) := fun hm => by
      obtain ⟨d', hd', ed'⟩ := List.mem_map.mp hm
      obtain ⟨j, hj, ej⟩ := List.mem_iff_getElem.mp hd'
      rw [List.length_take] at hj
      rw [List.getElem_take] at ej
      have n1 : (v.deeds.map (·.1))[i]? = some d.1 := by rw [List.getElem?_map, ec]; rfl
      have n2 : (v.deeds.map (·.1))[j]? = some d.1 := by
        rw [List.getElem?_map, List.getElem?_eq_getElem (by omega : j < v.deeds.length), ej]
        exact congrArg some ed'
      have := nd_ix g.nd n1 n2
      omega
    have hl : kvs.length = (v.deeds.take i).length := codes_len hc
    have hl8 : (v.deeds.take i).length ≤ 8 := by rw [List.length_take]; have := g.d1; omega
    refine ⟨kvs, Sum.inr d.1, rfl, s7 _ _ eD, by rw [sizeLine_eq]; omega, _, ?_, upd_same, ?_⟩
    · exact fun b' o e => by
        rw [upd_ne (ne_of_none e hD)]
        exact s7 _ _ (s _ _ e)
    · rw [putK_new u (codes_no hc nn), take_more ec]
      exact codes_snoc (dp_but (.dK (s7 _ _ eD)) But.upd hu (code_noL _)) (codes_but (.dK (s7 _ _ eD)) But.upd (codes_same s7 hc))
  · rintro H6 ⟨kvs, s6, eD, hc⟩
    rw [ly, List.take_length] at hc
    have hp6 := s6 _ _ hp5
    refine ⟨_, rfl, p, _, dx, _, rfl, hp6, T.c_Vault, T.n_Vault_codes, (by show 2 < 1000; decide), ?_⟩
    have cp6 : Ch H6 p := .ins hp6
    have nDp : D ≠ p := fun e => by rw [e, hp5] at hD; cases hD
    generalize eH7 : upd H6 p (.ins (He.ga K "Vault") dx (putF "_codes" (.ref D) (putF "_deeds" (.ref t2) (putF "_cells" (.ref t1) [])))) = H7
    have b7 : But p H6 H7 := eH7 ▸ But.upd
    have hp7 : H7 p = some (.ins (He.ga K "Vault") dx (putF "_codes" (.ref D) (putF "_deeds" (.ref t2) (putF "_cells" (.ref t1) [])))) := by rw [← eH7, upd_same]
    have eD7 := b7 _ _ nDp eD
    have hc7 := codes_but cp6 b7 hc
    refine ⟨_, rfl, p, _, dx, _, _, rfl, hp7, T.c_Vault, T.n_Vault_codes, vf_codes0 .., D, kvs, v.deeds, "coin", rfl, eD7, hc7, ?_⟩
    refine ⟨_, rfl, p, _, dx, _, rfl, hp7, T.c_Vault, T.n_Vault_coins, (by show 3 < 1000; decide), ?_⟩
    generalize eH8 : upd H7 p (.ins (He.ga K "Vault") dx (putF "_coins" (.bl (hasW v.deeds "coin")) (putF "_codes" (.ref D) (putF "_deeds" (.ref t2) (putF "_cells" (.ref t1) []))))) = H8
    have b8 : But p H7 H8 := eH8 ▸ But.upd
    have hp8 : H8 p = some (.ins (He.ga K "Vault") dx (putF "_coins" (.bl (hasW v.deeds "coin")) (putF "_codes" (.ref D) (putF "_deeds" (.ref t2) (putF "_cells" (.ref t1) []))))) := by rw [← eH8, upd_same]
    have b58 : But p H5 H8 := ((same_but s6).trans b7).trans b8
    have cp5 : Ch H5 p := .ins hp5
    refine q H8 ((same_but s2).trans (b25.trans b58)) ⟨dx, t1, t2, D, hasW v.deeds "coin", kvs, hp8, ?_, ?_, b8 _ _ nDp eD7, codes_but (.ins hp7) b8 hc7⟩
    · exact .tup (.of (b58 _ _ nt1p at5)) (cells_but cp5 b58 hxs5)
    · exact .tup (.of (b58 _ _ nt2p at52)) (deeds_but cp5 b58 hys5)
end

end M

set_option Elab.async false
set_option linter.all false
set_option maxRecDepth 100000
set_option maxHeartbeats 2000000
namespace M
open PySem PySem.Spec PyProof.Rows L2

/-! ### a dict comprehension whose keys are tuples -/
/-- the new pair is put -/
theorem set_t {X : Cx} {pins : List (Addr × Obj)} {σ : L2.St} {H : Hp} {s : Shared} {E : Value → Shared → Prop} {D b : Addr} {kvs : List (List Key × V)} {k : List Key} {v : V} {r : Value} {Q : Unit → Shared → Prop} (hu : X.A.units + 1 < cLine) (I : Inv X pins σ H s) (e : H D = some (.dT kvs)) (eb : H b = some (.tup (k.map kV))) (lt : kvs.length < sizeLine)
    (rv : RelV v r) (go : ∀ s', Inv X pins σ (upd H D (.dT (putK kvs k v))) s' → Q () s') : wpAny (model X.prog X.w) X.A (dictSet D (.ref b) r) Q E s := by
  obtain ⟨z0, nd, zs, kt, dd⟩ := dt_of I.hok e
  have zl : zs.length ≤ sizeLine := (Paired.length kt) ▸ z0
  refine wpAny_dictSet_heap (show X.A.units < cLine from by omega) (key_of I.hok eb) dd (fun g' ⟨u0, es, ep, g1, g2, g3, g4, _, g5⟩ same => go _ ?_) zl
  refine d_write I (by rw [e]; exact True.intro) same ⟨u0, g1⟩ ⟨by have := length_putK kvs k v; omega, nd, _, (kt.put k eb rv).keeps fun c ys ec => ?_, u0, es, ep, g1, g2, g3, g4, g5⟩
  rw [upd_ne (ne_of ec e (fun j => nomatch j))]; exact ec
/-- D the new dict, its keys tuples -/
def tDcT (wi : TI) (g : TG) (tk tv : TE) (vs : List Nat) : TE := fun σ H Q => wi σ H fun J H1 => ∀ D, H1 D = none → ∃ W : Nat → Nat → Hp → Prop, (∃ m, W 0 m (upd H1 D (.dT []))) ∧ ∀ i m H', W i m H' → (J.stop i H' ∧ Q (.ref D) H') ∨
  (J.go i H' ∧ ∃ Nx : Hp → Prop, (∀ G, Nx G → ∃ m', m' < m ∧ W (i + 1) m' G) ∧ ∀ x G, J.yld i H' x G → g x (wipe σ vs) G fun σ2 G2 => wipe σ2 vs = wipe σ vs ∧ tk σ2 G2 fun y G3 => tv σ2 G3 fun z G4 =>
    ∃ kvs k b, y = .ref b ∧ G4 b = some (.tup (List.map kV k)) ∧ G4 D = some (.dT kvs) ∧ kvs.length < sizeLine ∧ Nx (upd G4 D (.dT (putK kvs k z))))
theorem pe_dcT {X : Cx} {kx vx tg iter : Expr} {scope : Scope} {own : List (Str × Nat)} {pos : Pos} {wi : TI} {g : TG} {tk tv : TE} (hu : X.A.units + 1 < cLine) (calm : X.calm = true) (nd : X.N.Nodup) (pi : PI X tg iter wi) (bk : BlkOk X.N X.env.scope scope own)
    (fg : ∀ (s : Shared) (H : Hp) (C : Addr) (cl : List (Str × Addr)) (fp : List Addr), PG (X.blk s H scope (compEnvC scope cl C X.env) fp) tg g)
    (fk : ∀ (s : Shared) (H : Hp) (C : Addr) (cl : List (Str × Addr)) (fp : List Addr), PE (X.blk s H scope (compEnvC scope cl C X.env) fp) kx tk)
    (fv : ∀ (s : Shared) (H : Hp) (C : Addr) (cl : List (Str × Addr)) (fp : List Addr), PE (X.blk s H scope (compEnvC scope cl C X.env) fp) vx tv) (fs : ∀ x, foldedSetIterable iter X.env x = pure x := by intro _; rfl) :
    PE X (.DictComp kx vx [⟨tg, iter, [], 0⟩] scope pos) (tDcT wi g tk tv (own.map (·.2))) := by
  refine ⟨fun pins s σ H Q I h => ?_⟩
  rw [arm_eval_DictComp]
  have fr : ∀ y ∈ scope.names, y.2 = .free → ∃ c, X.env.cells.lookup y.1 = some c := fun y hy e =>
    (bk.free y hy e).elim (fun k => I.ok.has _ (.inl k)) (fun k => I.ok.has _ (.inr k))
  refine wpAny_comprehension_free rfl fs (closure_ok fr) bk.kind (fun y hy e => by rw [bk.uniq y hy, e]) (thn (pi.run pins s σ H _ I h) fun xv s1 hx => thn hx fun itv s2 r2 => ?_)
  obtain ⟨it, fp, tn, J, H2, rfl, I2, T, st2, f2, q⟩ := r2
  refine wpAny_newObj_type (newEnv_comp ?_)
  generalize eD : s2.heap.objs.size = D
  obtain ⟨W, ⟨m0, w0⟩, turn⟩ := q D (I2.hok.fresh (Nat.le_of_eq eD))
  generalize e3 : ({ s2 with heap := s2.heap.push { cls := .type "dict", data := .dict #[] } } : Shared) = s3
  have h3 : s3.heap = s2.heap.push { cls := .type "dict", data := .dict #[] } := e3 ▸ rfl
  have I3 : Inv X pins σ (upd H2 D (.dT [])) s3 := by
    rw [← e3]; exact I2.laid (t' := s2.toks) (fun b o e => Heap.get?_push_of_some _ e) (Nat.le_of_eq eD) (eD ▸ dt_empty s2.heap I2.big)
  have small : ∀ b ∈ fp, b < s2.heap.objs.size := fun b hb => Heap.lt_size (T.obj _ _ st2 b hb).choose_spec.1
  have f3 : ∀ b ∈ fp, FpOk X pins (upd H2 D (.dT [])) b ∧ b < s3.heap.objs.size := fun b hb => by
    have lt := small b hb
    exact ⟨⟨(upd_ne (eD ▸ Nat.ne_of_lt lt)).trans (f2 b hb).1, (f2 b hb).2⟩, by rw [h3, Heap.size_push]; exact Nat.lt_succ_of_lt lt⟩
  have st3 : tn 0 s3.heap := T.keep _ _ _ st2 fun b _ o e => h3 ▸ Heap.get?_push_of_some _ e
  have I4 := block_start I3 bk nd f3
  have a1 := fg s3 (upd H2 D (.dT [])) s3.heap.objs.size (cellsFrom (s3.heap.objs.size + 1) scope.names (cloFrom X.env.cells scope.names [])) fp
  have a2 := fk s3 (upd H2 D (.dT [])) s3.heap.objs.size (cellsFrom (s3.heap.objs.size + 1) scope.names (cloFrom X.env.cells scope.names [])) fp
  have a3 := fv s3 (upd H2 D (.dT [])) s3.heap.objs.size (cellsFrom (s3.heap.objs.size + 1) scope.names (cloFrom X.env.cells scope.names [])) fp
  have nf : ∀ b ∈ fp, (upd H2 D (.dT [])) b = none := fun b hb => (f3 b hb).1.1
  show codeAny _ _ (.compStart (.DictComp kx vx [⟨tg, iter, [], 0⟩] scope pos) 0 (.ref it) (.ref D) (compEnvC scope (cellsFrom (s3.heap.objs.size + 1) scope.names (cloFrom X.env.cells scope.names [])) s3.heap.objs.size X.env)) _ { s3 with heap := pushCells (s3.heap.push { cls := .type "dict", data := .dict #[] }) scope.names }
  generalize ec : compEnvC scope (cellsFrom (s3.heap.objs.size + 1) scope.names (cloFrom X.env.cells scope.names [])) s3.heap.objs.size X.env = ce at I4 a1 a2 a3 ⊢
  have cL : ce.locals = s3.heap.objs.size := ec ▸ rfl
  generalize eH : upd H2 D (.dT []) = H3 at I3 I4 a1 a2 a3 w0 nf f3
  generalize e4 : ({ s3 with heap := pushCells (s3.heap.push { cls := .type "dict", data := .dict #[] }) scope.names } : Shared) = s4 at I4 ⊢
  have st4 : tn 0 s4.heap := T.keep _ _ _ st3 fun b _ o e => e4 ▸ pushCells_keeps _ _ _ _ (Heap.get?_push_of_some _ e)
  have fpk : ∀ {σ' : L2.St} {H' : Hp} {s' : Shared}, Inv (X.blk s3 H3 scope ce fp) [] σ' H' s' → (∀ b ∈ fp, H' b = none) → ∀ b ∈ fp, FpOk (X.blk s3 H3 scope ce fp) [] H' b := fun I' hn b hb =>
    ⟨hn b hb, (I'.ok.exf b hb).1, I'.ok.exfs b hb, .inl hb, fun x c e => (I'.ok.exf b hb).2 x c e, fun p hp => nomatch (show p ∈ ([] : List (Addr × Obj)) from hp)⟩
  refine (fun lp => codeAny_compStart_dict lp (T.self X.A 0 _ _ _ st4 lp)) (compLoop_anyD (fun n s' => ∃ i H', Inv (X.blk s3 H3 scope ce fp) [] (wipe σ (own.map (·.2))) H' s' ∧ tn i s'.heap ∧ (∀ b ∈ fp, H' b = none) ∧ W i n H') ?_ m0 ⟨0, H3, I4, st4, nf, w0⟩)
  rintro n s5 ⟨i, H5, I5, st5, n5, w5⟩
  rcases turn i n H5 w5 with ⟨stop, qq⟩ | ⟨go, Nx, less, step⟩
  · refine thnF (T.done (X.blk s3 H3 scope ce fp) rfl rfl rfl calm i [] s5 _ H5 (fun _ _ => False) I5 (fpk I5 n5) st5 stop) fun r s6 ⟨hr, I6⟩ => ?_
    subst hr
    have I7 : Inv X pins σ H5 s6 := I3.call' (ch := fp) I6.os I6.base I6.hok I6.bare fun b hb => ⟨(f3 b hb).1.2.2.2.1, (f3 b hb).1.2.1, (f3 b hb).1.2.2.2.2.1, (f3 b hb).1.2.2.2.2.2⟩
    have nC : H5 s3.heap.objs.size = none := cL ▸ (show H5 ce.locals = none from I6.free)
    obtain ⟨m, hm, _⟩ := I6.loc
    refine ⟨m, cL ▸ (show s6.heap.Ns ce.locals m from hm), fun h'' sb => ?_⟩
    obtain ⟨p0, p1, p2, p3, p4, p5⟩ := I3.fpOk (Nat.le_refl _) nC
    exact ⟨.ref D, H5, I7.turned (t' := s6.toks) (fun b o hb e => (sb.2 b hb).trans e) p0 p1 p3 p4 p5, rfl, qq⟩
  · refine thnF (T.item (X.blk s3 H3 scope ce fp) rfl rfl rfl calm i [] s5 _ H5 (fun _ _ => False) I5 (fpk I5 n5) st5 go) fun r s6 ⟨u, hr, h6⟩ => ?_
    subst hr
    refine thnF h6 fun _ s7 ⟨x, H7, I7, r7, y7, st7, n7⟩ => thnF (a1.run _ s7 _ H7 x u _ (I7.pinned (fpk I7 n7) (T.obj _ _ st7)) r7 (step x H7 y7)) fun _ s8 ⟨σ8, H8, I8, hw8, q8⟩ => ?_
    refine wpAny_pure (show (if true = true then _ else _) from ?_)
    refine thnF (a2.run _ s8 σ8 H8 _ I8 q8) fun k10 s10 ⟨yk, H10, I10, r10, q10⟩ => thnF (a3.run _ s10 σ8 H10 _ I10 q10) fun z2 s11 ⟨yv, H11, I11, r11, kvs, k, b, ek, eb, eD1, lt, nx⟩ => ?_
    subst ek
    cases (show k10 = Value.ref b from r10)
    refine set_t (X := X.blk s3 H3 scope ce fp) hu I11 eD1 eb lt r11 fun s12 I12 => ?_
    obtain ⟨m', hm, w'⟩ := less _ nx
    have pk : ∀ b ∈ fp, ∀ o, s7.heap.get? b = some o → s12.heap.get? b = some o ∧ (upd H11 D (.dT (putK kvs k yv))) b = none := fun b hb o e =>
      have z := I12.pin (b, o) (List.mem_append_right _ (List.mem_append_right _ (mem_pinsAt hb e)))
      ⟨z.1, z.2.1⟩
    refine ⟨m', hm, i + 1, _, (I12.unpinned (pins := [])).weak (by rw [← hw8, wipe_length]) (fun j v e => (wipe_some (hw8 ▸ e)).1), T.keep _ _ _ st7 fun b hb o e => (pk b hb o e).1, fun b hb => ?_, w'⟩
    obtain ⟨o, e, _⟩ := T.obj _ _ st7 b hb
    exact (pk b hb o e).2

end M

set_option Elab.async false
set_option linter.all false
set_option maxRecDepth 100000
set_option maxHeartbeats 2000000
namespace M
open PySem PySem.Spec PyProof.Rows L2

/-! ### calls by their numbers -/
def ckey (c : Str × Int) : List Key := [Sum.inr c.1, Sum.inl c.2]
theorem ckey_inj {c d : Str × Int} (h : ckey c = ckey d) : c = d := by
  unfold ckey at h
  simp at h
  exact Prod.ext h.1 h.2
theorem ckey_v (c : Str × Int) : (ckey c).map kV = [V.str c.1, V.int c.2] := rfl
def numK (cs : List (Str × Int)) : List (List Key × V) := cs.mapIdx fun i c => (ckey c, V.int (i : Nat))
theorem valV_none {kvs : List (List Key × V)} {k : List Key} (h : ∀ p ∈ kvs, p.1 ≠ k) : valV kvs k = none := by
  unfold valV
  have e : kvs.find? (fun kv => decide (kv.1 = k)) = none := List.find?_eq_none.mpr fun p hp => by simpa using h p hp
  rw [e]
  rfl
theorem valV_at : ∀ {kvs : List (List Key × V)} {i : Nat} {k : List Key} {v : V}, kvs[i]? = some (k, v) → (∀ j p, j < i → kvs[j]? = some p → p.1 ≠ k) → valV kvs k = some v
  | [], i, k, v, h, _ => by simp at h
  | p :: r, 0, k, v, h, _ => by
    cases (Option.some.inj h)
    unfold valV
    rw [List.find?_cons_of_pos (by simp)]
    rfl
  | p :: r, i + 1, k, v, h, n => by
    have := valV_at (kvs := r) (i := i) h fun j q hj e => n (j + 1) q (by omega) e
    unfold valV at this ⊢
    rw [List.find?_cons_of_neg (by simpa using n 0 p (by omega) rfl)]
    exact this
theorem numK_snoc (cs : List (Str × Int)) (c : Str × Int) : numK (cs ++ [c]) = numK cs ++ [(ckey c, V.int (cs.length : Nat))] := by
  unfold numK
  rw [List.mapIdx_concat]
theorem numK_at {cs : List (Str × Int)} {i : Nat} {c : Str × Int} (h : cs[i]? = some c) : (numK cs)[i]? = some (ckey c, V.int (i : Nat)) := by
  unfold numK
  rw [List.getElem?_mapIdx, h]
  rfl
theorem numK_of {cs : List (Str × Int)} {i : Nat} {p : List Key × V} (h : (numK cs)[i]? = some p) : ∃ c, cs[i]? = some c ∧ p = (ckey c, V.int (i : Nat)) := by
  unfold numK at h
  rw [List.getElem?_mapIdx] at h
  cases e : cs[i]? with
  | none => rw [e] at h; cases h
  | some c => rw [e] at h; exact ⟨c, rfl, (Option.some.inj h).symm⟩
theorem nd_ixG {α : Type} {l : List α} (n : l.Nodup) {i j : Nat} {x : α} (hi : l[i]? = some x) (hj : l[j]? = some x) : i = j := by
  obtain ⟨li, ei⟩ := List.getElem?_eq_some_iff.mp hi
  obtain ⟨lj, ej⟩ := List.getElem?_eq_some_iff.mp hj
  have p := List.pairwise_iff_getElem.mp n
  rcases Nat.lt_trichotomy i j with h | h | h
  · exact absurd (ei.trans ej.symm) (p i j li lj h)
  · exact h
  · exact absurd (ej.trans ei.symm) (p j i lj li h)
theorem numK_val {cs : List (Str × Int)} {i : Nat} {c : Str × Int} (n : cs.Nodup) (h : cs[i]? = some c) : valV (numK cs) (ckey c) = some (V.int (i : Nat)) := by
  refine valV_at (numK_at h) fun j p hj e q => ?_
  obtain ⟨d, hd, rfl⟩ := numK_of e
  have := ckey_inj q
  subst this
  have := nd_ixG n hd h
  omega
theorem numK_new {cs : List (Str × Int)} {c : Str × Int} (n : c ∉ cs) : valV (numK cs) (ckey c) = none := by
  refine valV_none fun p hp e => ?_
  obtain ⟨i, hi, ei⟩ := List.mem_iff_getElem.mp hp
  obtain ⟨d, hd, rfl⟩ := numK_of (by rw [List.getElem?_eq_getElem hi, ei])
  have := ckey_inj e
  subst this
  exact n (List.mem_of_getElem? hd)
theorem numK_len (cs : List (Str × Int)) : (numK cs).length = cs.length := by simp [numK]
theorem calls_nd {v : Vlt} (n : (v.deeds.map (·.1)).Nodup) : v.calls.Nodup := by
  unfold Vlt.calls List.Nodup
  rw [List.pairwise_flatMap]
  refine ⟨fun d _ => ?_, ?_⟩
  · rw [List.pairwise_map]
    refine List.Pairwise.imp (fun {a b} h e => h ?_) (List.nodup_range (n := d.2.1.toNat))
    have := (Prod.ext_iff.mp e).2
    simp only [] at this
    exact Int.ofNat.inj this
  · have n := List.pairwise_map.mp n
    refine n.imp fun {a b} h x hx y hy e => ?_
    obtain ⟨_, _, rfl⟩ := List.mem_map.mp hx
    obtain ⟨_, _, rfl⟩ := List.mem_map.mp hy
    exact h (Prod.ext_iff.mp e).1
theorem calls_len {v : Vlt} (ok : VOk v) : v.calls.length ≤ 72 := by
  have : ∀ l : List (Str × Int × List Row), (∀ d ∈ l, d.2.1 ≤ 9) → (l.flatMap fun d => (List.range d.2.1.toNat).map fun (j : Nat) => (d.1, (j : Int))).length ≤ 9 * l.length := by
    intro l
    induction l with
    | nil => intro _; simp
    | cons d r ih =>
      intro h
      rw [List.flatMap_cons, List.length_append, List.length_map, List.length_range, List.length_cons]
      have h1 := h d List.mem_cons_self
      have h2 := ih fun d hd => h d (List.mem_cons_of_mem _ hd)
      omega
  have q := this v.deeds fun d hd => (ok.ch d hd).2
  have := ok.d1
  unfold Vlt.calls
  omega
theorem calls_of {v : Vlt} {c : Str × Int} (h : c ∈ v.calls) : ∃ d ∈ v.deeds, d.1 = c.1 := by
  unfold Vlt.calls at h
  obtain ⟨d, hd, hc⟩ := List.mem_flatMap.mp h
  obtain ⟨_, _, rfl⟩ := List.mem_map.mp hc
  exact ⟨d, hd, rfl⟩
theorem tups_at {H : Hp} : ∀ {ys : List V} {cs : List (Str × Int)} {i : Nat} {y : V}, TupsAt H ys cs → ys[i]? = some y → ∃ c t, cs[i]? = some c ∧ y = .ref t ∧ H t = some (.tup [.str c.1, .int c.2])
  | [], [], i, y, _, h => by simp at h
  | _ :: _, c :: _, 0, y, ⟨⟨t, e, h⟩, _⟩, q => by
    cases (Option.some.inj q)
    exact ⟨c, t, rfl, e, h⟩
  | _ :: _, _ :: _, i + 1, y, ⟨_, r⟩, q => tups_at (i := i) r q
  | [], _ :: _, _, _, h, _ => h.elim
  | _ :: _, [], _, _, h, _ => h.elim
/-- the vault's method m is its class's -/
theorem VaultAt.me {K : PySem.W.Frag} {H : Hp} {p : Addr} {v : Vlt} (h : VaultAt K H p v) (m : Str) (h1 : ¬ m = "_cells" := by decide +kernel) (h2 : ¬ m = "_deeds" := by decide +kernel) (h3 : ¬ m = "_codes" := by decide +kernel) (h4 : ¬ m = "_coins" := by decide +kernel) :
    ∃ dx fs, H p = some (.ins (He.ga K "Vault") dx fs) ∧ fs.lookup m = none := by
  obtain ⟨dx, a, d, c, b, kvs, e1, _⟩ := h.ob
  exact ⟨dx, _, e1, vf_no a d c b h1 h2 h3 h4⟩
section
variable {P : Program} {w : World} {K : PySem.W.Frag} {mg : Str → Option Value} {base : Heap}
def spNumbers (K : PySem.W.Frag) : Sp := fun vs H Q _ => ∃ (p : Addr) (v : Vlt), vs = [.ref p] ∧ VaultAt K H p v ∧ VOk v ∧ ∀ d H', Same H H' → H' d = some (.dT (numK v.calls)) → Q (.ref d) H'
theorem ca_call_numbers (T : Txt w K mg) : Ca P w K mg base 2 "call_numbers" (spNumbers K) := by
  refine ca_of (N := ["vault", "number", "call"]) (ps := ["vault"]) T.f_call_numbers T.g_call_numbers ⟨rfl, rfl, rfl, by decide +kernel, rfl, by decide +kernel, by decide +kernel⟩ (fun _ _ _ _ _ _ us hl => match us, hl with | [_], _ => rfl)
    (fun vs H Q E h => by obtain ⟨p, v, rfl, hv, ok, q⟩ := h; rfl) (fun cdv A outer s H vs Q E hr h => ?_)
  have nd : (["vault", "number", "call"] : List Str).Nodup := by decide +kernel
  obtain ⟨p, v, rfl, hv, ok, q⟩ := h
  refine ⟨_, pss_one (ps_ret (pe_dcT (own := [("number", 1), ("call", 2)]) (hu_of hr) rfl nd (pi_enum (by rfl) T.b_enumerate (pa_cons (pe_me0 (me_Vault_calls T) hr (pv 0)) pa_nil)) (blkOk_by (N := ["vault", "number", "call"]) (sc := defScope s_call_numbers) (by decide +kernel))
    (fun _ _ _ _ _ => pg_two K 1 2 rfl rfl nd rfl rfl (.inl rfl) (.inl rfl) (.inr rfl) (.inr rfl)) (fun _ _ _ _ _ => pv 2) (fun _ _ _ _ _ => pv 1))), ?_⟩
  obtain ⟨dx, fs, e1, e2⟩ := hv.me "calls"
  refine ⟨_, rfl, p, dx, fs, rfl, e1, e2, p, v, rfl, hv, ok, fun a ys H1 s1 ha ht => ⟨a, ys, rfl, .of ha, fun D hD => ?_⟩⟩
  have nds := calls_nd ok.nd
  have ly := tups_len ht
  have l72 := calls_len ok
  refine it_any (n := ys.length) walk_enum (fun i H' => Same H1 H' ∧ H' D = some (.dT (numK (v.calls.take i)))) ⟨same_new hD, upd_same⟩ (fun i H' _ ⟨s, _⟩ => s.seq (.of ha)) ?_ ?_
  · rintro i x H' H2 hi ⟨s, eD⟩ ⟨t, x1, x2, rfl, nt, rfl, e1, e2⟩
    cases (Option.some.inj e1)
    obtain ⟨c, u, hc, rfl, hu⟩ := tups_at ht e2
    refine ⟨t, _, rfl, .of upd_same, rfl, _, _, rfl, _, _, rfl, rfl, rfl, ?_⟩
    have ntD : D ≠ t := ne_of_none eD nt
    have hu2 := same_new (o := .tup [.int (i : Nat), .ref u]) nt _ _ (s _ _ hu)
    refine ⟨_, rfl, _, rfl, _, ckey c, u, rfl, hu2, by rw [upd_ne ntD]; exact eD, by rw [numK_len, List.length_take, sizeLine_eq]; omega, fun b o e => ?_, ?_⟩
    · rw [upd_ne (ne_of_none e hD), upd_ne (ne_of_none (s _ _ e) nt)]
      exact s _ _ e
    · rw [upd_same]
      have nn : c ∉ v.calls.take i := fun hm => by
        obtain ⟨j, hj, ej⟩ := List.mem_iff_getElem.mp hm
        rw [List.length_take] at hj
        rw [List.getElem_take] at ej
        have := nd_ixG nds (by rw [List.getElem?_eq_getElem (by omega : j < v.calls.length), ej]) hc
        omega
      rw [putK_new _ (numK_new nn), take_more hc, numK_snoc, List.length_take]
      have : min i v.calls.length = i := by omega
      rw [this]
  · rintro H' ⟨s, eD⟩
    rw [ly, List.take_length] at eD
    exact q D H' (s1.trans s) eD
end

end M

set_option Elab.async false
set_option linter.all false
set_option maxRecDepth 100000
set_option maxHeartbeats 2000000
namespace M
open PySem PySem.Spec PyProof.Rows L2

/-- an attribute, the library told -/
theorem pe_fldK {X : Cx} {e : Expr} {ta : TE} {f : Str} {pos : Pos} (K : PySem.W.Frag) (hK : X.K = K) (he : PE X e ta) (hb : attributeBase e f X.env (eval e X.env) = eval e X.env) : PE X (.Attribute e f pos) (tFld K ta f) := hK ▸ pe_fld he hb
section
variable {P : Program} {w : World} {K : PySem.W.Frag} {mg : Str → Option Value} {base : Heap}
def spNumber : Sp := fun vs H Q _ => ∃ (d t : Addr) (kvs : List (List Key × V)) (c : Str × Int) (i : Int), vs = [.ref d, .ref t] ∧ H d = some (.dT kvs) ∧ H t = some (.tup [.str c.1, .int c.2]) ∧ valV kvs (ckey c) = some (.int i) ∧ Q (.int i) H
theorem ca_call_number (T : Txt w K mg) : Ca P w K mg base 3 "call_number" (spNumber) := by
  refine ca_of (N := ["numbers", "value"]) (ps := ["numbers", "value"]) T.f_call_number T.g_call_number ⟨rfl, rfl, rfl, by decide +kernel, rfl, by decide +kernel, by decide +kernel⟩ (fun _ _ _ _ _ _ us hl => match us, hl with | [_, _], _ => rfl)
    (fun vs H Q E h => by obtain ⟨d, t, kvs, c, i, rfl, hd, ht, hv, q⟩ := h; rfl) (fun cdv A outer s H vs Q E hr h => ?_)
  have nd : (["numbers", "value"] : List Str).Nodup := by decide +kernel
  obtain ⟨d, t, kvs, c, i, rfl, hd, ht, hv, q⟩ := h
  refine ⟨_, (pss_cons (ps_if (PW.pt (pw_or (pt_not (pt_val (pe_ca (ca_is_tuple T) hr (pa_cons (pv 1) (pa_cons pe_int pa_nil))))) (pw_or (pt_not (pt_val (pe_is .str T.b_isinstance (pe_ix ix_tup (pv 1) pe_int (fun _ _ => rfl)) T.b_str boot_str))) (pw_or1 (pt_not (pt_val (pe_ca (ca_is_integer T) hr (pa_cons (pe_ix ix_tup (pv 1) pe_int (fun _ _ => rfl)) pa_nil)))))))) (pss_one (ps_ret (pe_un un_neg pe_int))) pss_nil)
      (pss_one (ps_ret (pe_dget2 (hu_of hr) (pv 0) (pv 1) (pe_un un_neg pe_int) ⟨rfl, rfl, rfl, rfl⟩)))), ?_⟩
  refine ⟨_, rfl, _, _, _, rfl, .of ht, _, rfl, iteF ?_⟩
  refine ⟨_, rfl, _, _, _, _, rfl, rfl, .of ht, at0, _, _, rfl, .str _, _, rfl, iteF ?_⟩
  refine ⟨_, rfl, _, _, _, _, rfl, rfl, .of ht, at1, _, _, rfl, .int _, _, rfl, iteF ?_⟩
  refine ⟨_, rfl, d, rfl, .inr ⟨kvs, .inl hd⟩, _, rfl, _, rfl, _, DGet.t hd (k := ckey c) ht, ?_⟩
  rw [hv]
  exact q
def spFalls (K : PySem.W.Frag) : Sp := fun vs H Q _ => ∃ (a : Addr) (fs : List Int), vs = [.ref a] ∧ SqL K H a (fs.map .int) ∧ (∀ f ∈ fs, 0 ≤ f ∧ f ≤ 1) ∧ Q (.bl true) H
def spChkState (K : PySem.W.Frag) : Sp := fun vs H Q _ => ∃ (p b : Addr) (v : Vlt) (hs : List Int), vs = [.ref p, .ref b] ∧ VaultAt K H p v ∧ VOk v ∧ SqT K H b (hs.map .int) ∧ StateOk (v.cells.map (·.1)) hs ∧ ∀ H', Same H H' → Q .non H'
theorem ca_check_state (T : Txt w K mg) : Ca P w K mg base 4 "check_state" (spChkState K) := by
  refine ca_of (N := ["vault", "state"]) (ps := ["vault", "state"]) T.f_check_state T.g_check_state ⟨rfl, rfl, rfl, by decide +kernel, rfl, by decide +kernel, by decide +kernel⟩ (fun _ _ _ _ _ _ us hl => match us, hl with | [_, _], _ => rfl)
    (fun vs H Q E h => by obtain ⟨p, b, v, hs, rfl, hv, ok, hb, so, q⟩ := h; rfl) (fun cdv A outer s H vs Q E hr h => ?_)
  have nd : (["vault", "state"] : List Str).Nodup := by decide +kernel
  obtain ⟨p, b, v, hs, rfl, hv, ok, hb, so, q⟩ := h
  refine ⟨_, (pss_one (ps_if (pt_not (pt_val (pe_ca (ca_is_state T) hr (pa_cons (pe_me0 (me_Vault_sizes T) hr (pv 0)) (pa_cons (pv 1) pa_nil))))) (pss_one ps_never) pss_nil)), ?_⟩
  obtain ⟨dx, fs, e1, e2⟩ := hv.me "sizes"
  refine ⟨_, rfl, p, dx, fs, rfl, e1, e2, p, v, rfl, hv, ok.c1, fun a H1 s1 ha => ⟨_, rfl, a, b, _, hs, rfl, .of ha, same_t s1 hb, so, fun H2 s2 => ⟨_, rfl, iteF (q H2 (s1.trans s2))⟩⟩⟩
def spChkCall (K : PySem.W.Frag) : Sp := fun vs H Q _ => ∃ (p t : Addr) (v : Vlt) (i : Nat) (c : Str × Int), vs = [.ref p, .ref t] ∧ VaultAt K H p v ∧ VOk v ∧ H t = some (.tup [.str c.1, .int c.2]) ∧ v.calls[i]? = some c ∧ ∀ H', Same H H' → Q .non H'
/-- what a run of the call c begins with -/
def StartAt (K : PySem.W.Frag) (H : Hp) (v : Vlt) (c : Str × Int) (y : V) : Prop := ∃ d ∈ v.deeds, d.1 = c.1 ∧ Dp K H y (.tuple [codeD d.2.2, .int c.2])
theorem StartAt.but {H H' : Hp} {v : Vlt} {c : Str × Int} {y : V} {D : Addr} (hD : Ch H D) (s : But D H H') (h : StartAt K H v c y) : StartAt K H' v c y := by
  obtain ⟨d, hd, e, h⟩ := h
  refine ⟨d, hd, e, dp_but hD s h (.tup fun x hx => ?_)⟩
  rcases List.mem_cons.mp hx with rfl | hx
  · exact code_noL _
  · rw [List.mem_singleton.mp hx]
    exact .int _
def spStarts (K : PySem.W.Frag) : Sp := fun vs H Q _ => ∃ (p : Addr) (v : Vlt), vs = [.ref p] ∧ VaultAt K H p v ∧ VOk v ∧ ∀ (a : Addr) (ys : List V) (H' : Hp), Same H H' → H' a = some (.lst ys) → ys.length = v.calls.length → (∀ (i : Nat) (y : V), ys[i]? = some y → ∃ c, v.calls[i]? = some c ∧ StartAt K H' v c y) → Q (.ref a) H'
theorem me_Vault_starts (T : Txt w K mg) : Me P w K mg base 2 (He.ga K "Vault") "starts" (spStarts K) := by
  refine me_of (N := ["self", "name", "argument"]) (ps := ["self"]) T.f_Vault_starts T.c_Vault T.m_Vault_starts ⟨rfl, rfl, rfl, by decide +kernel, rfl, by decide +kernel, by decide +kernel⟩ (fun _ _ _ _ _ _ us hl => match us, hl with | [_], _ => rfl)
    (fun vs H Q E h => by obtain ⟨p, v, rfl, hv, ok, q⟩ := h; rfl) (fun cdv A outer s H vs Q E hr h => ?_)
  have nd : (["self", "name", "argument"] : List Str).Nodup := by decide +kernel
  obtain ⟨p, v, rfl, hv, ok, q⟩ := h
  obtain ⟨dx, a, d, c, b, kvs, h1, h2, h3, h4, h5⟩ := hv.ob
  refine ⟨_, pss_one (ps_ret (pe_lc (own := [("name", 1), ("argument", 2)]) (tt := tYes) rfl nd (pi_list (pe_me0 (me_Vault_calls T) hr (pv 0))) (blkOk_by (N := ["self", "name", "argument"]) (sc := defScope s_Vault_starts) (by decide +kernel))
    (fun _ _ _ _ _ => pg_two K 1 2 rfl rfl nd rfl rfl (.inl rfl) (.inl rfl) (.inr rfl) (.inr rfl)) (fun _ _ _ _ _ => pts_nil) (fun _ _ _ _ _ => pe_tup (pa_cons (pe_dget (hu_of hr) (pe_fldK K rfl (pv 0) rfl) (pv 1) (fun _ _ => rfl)) (pa_cons (pv 2) pa_nil))))), ?_⟩
  obtain ⟨dx', fs, e1, e2⟩ := hv.me "calls"
  have l72 := calls_len ok
  refine ⟨_, rfl, p, dx', fs, rfl, e1, e2, p, v, rfl, hv, ok, fun l ys H1 s1 hl ht => ⟨l, rfl, ⟨_, .of hl⟩, fun D hD => ?_⟩⟩
  have ly := tups_len ht
  refine lc_out (n := ys.length) walk_list hD (by omega) (fun i y H => ∃ c, v.calls[i]? = some c ∧ StartAt K H v c y) (fun i y H H' hc s ⟨c, e, h⟩ => ⟨c, e, h.but hc s⟩) (fun H' s => s.seq (.of hl)) (fun i x H' H2 N F hi s y k => ?_) (fun H' zs s hD' hl' hr => ?_)
  · obtain ⟨rfl, ex⟩ := y
    obtain ⟨cc, t, hc, rfl, hu⟩ := tups_at ht ex
    obtain ⟨dd, hdd, en⟩ := calls_of (List.mem_of_getElem? hc)
    have sH := s1.trans s
    obtain ⟨u, hu2, hcode⟩ := codes_get (codes_same sH h5) ok.nd hdd
    refine ⟨t, _, rfl, .of (s _ _ hu), rfl, _, _, rfl, _, _, rfl, rfl, rfl, iteT ?_⟩
    refine ⟨_, rfl, p, _, _, _, _, rfl, sH _ _ h1, T.c_Vault, T.n_Vault_codes, vf_codes .., _, rfl, c, u, rfl, ?_, _, rfl, (by show 2 ≤ sizeLine; decide), fun t2 nt2 => k _ _ (same_new nt2) ⟨cc, hc, dd, hdd, en, ?_⟩⟩
    · rw [← en, ← hu2]
      exact DGet.k (k := Sum.inr dd.1) (sH _ _ h4)
    · exact .tup (.of upd_same) (.cons (dp_same (same_new nt2) hcode) (.cons (.int _) .nil))
  · refine q D zs H' (s1.trans s) hD' (by omega) hr
end

end M

set_option Elab.async false
set_option linter.all false
set_option maxRecDepth 100000
set_option maxHeartbeats 2000000
namespace M
open PySem PySem.Spec PyProof.Rows L2

/-! ### the registers -/
def heldK (r : Str → Int) : List (Key × V) := regs5.map fun s => (Sum.inr s, V.int (r s))
def rset (r : Str → Int) (s : Str) (i : Int) : Str → Int := fun t => if t = s then i else r t
theorem valV_map {f : Str → V} {s : Str} : ∀ {l : List Str}, s ∈ l → valV (l.map fun t => ((Sum.inr t : Key), f t)) (Sum.inr s) = some (f s)
  | [], h => by cases h
  | t :: l, h => by
    unfold valV
    by_cases e : t = s
    · subst e
      rw [List.map_cons, List.find?_cons_of_pos (by simp)]
      rfl
    · have hs : s ∈ l := by
        rcases List.mem_cons.mp h with z | z
        · exact absurd z.symm e
        · exact z
      have := valV_map (f := f) hs
      unfold valV at this
      rw [List.map_cons, List.find?_cons_of_neg (by simp [e])]
      exact this
theorem held_get {r : Str → Int} {s : Str} (h : s ∈ regs5) : valV (heldK r) (Sum.inr s) = some (.int (r s)) := valV_map (f := fun s => V.int (r s)) h
theorem held_put {r : Str → Int} {s : Str} {i : Int} (h : s ∈ regs5) : putK (heldK r) (Sum.inr s) (.int i) = heldK (rset r s i) := by
  unfold putK
  rw [valV_any, held_get h, if_pos (show (some (V.int (r s))).isSome = true from rfl)]
  unfold heldK
  rw [List.map_map]
  refine List.map_congr_left fun t _ => ?_
  show (if (Sum.inr t : Key) = Sum.inr s then ((Sum.inr t : Key), V.int i) else ((Sum.inr t : Key), V.int (r t))) = _
  unfold rset
  by_cases e : t = s
  · rw [if_pos (by rw [e]), if_pos e]
  · rw [if_neg (fun z => e (Sum.inr.inj z)), if_neg e]
theorem in45 {s : Str} (h : s ∈ regs4) : s ∈ regs5 := by
  unfold regs4 at h
  unfold regs5
  simp at h ⊢
  rcases h with h | h | h | h
  · exact .inl h
  · exact .inr (.inl h)
  · exact .inr (.inr (.inl h))
  · exact .inr (.inr (.inr (.inl h)))
def r0 (x : Int) : Str → Int := fun s => if s = "x" then x else 0
abbrev kS (s : Str) (v : V) : Key × V := (Sum.inr s, v)
theorem held_r0 (x : Int) : heldK (r0 x) = [kS "a" (.int 0), kS "b" (.int 0), kS "c" (.int 0), kS "d" (.int 0), kS "x" (.int x)] := by
  have e1 : ¬ (("a" : Str) = "x") := by decide +kernel
  have e2 : ¬ (("b" : Str) = "x") := by decide +kernel
  have e3 : ¬ (("c" : Str) = "x") := by decide +kernel
  have e4 : ¬ (("d" : Str) = "x") := by decide +kernel
  unfold heldK regs5 r0
  simp only [List.map_cons, List.map_nil]
  rw [if_neg e1, if_neg e2, if_neg e3, if_neg e4, if_pos trivial]
theorem held_disp (x : Int) : mergeK [] [kS "a" (.int 0), kS "b" (.int 0), kS "c" (.int 0), kS "d" (.int 0), kS "x" (.int x)] = heldK (r0 x) := by
  rw [held_r0]
  kernel_rfl
/-! ### the value of an expression -/
def opv (s : Str) (l r : Int) : Int := if s = "+" then (l + r) % 10 else if s = "-" then (l - r) % 10 else if s = "*" then (l * r) % 10 else if s = "=" then (if l = r then 1 else 0) else if l < r then 1 else 0
def Exp.ev (r : Str → Int) : Exp → Int
  | .num n => n
  | .reg s => r s
  | .op s a b => opv s (a.ev r) (b.ev r)
def RegOk (r : Str → Int) : Prop := ∀ s ∈ regs5, 0 ≤ r s ∧ r s ≤ 9
theorem opv_bd (s : Str) (l r : Int) : 0 ≤ opv s l r ∧ opv s l r ≤ 9 := by
  unfold opv
  split
  · omega
  split
  · omega
  split
  · have := Int.emod_nonneg (l * r) (show (10 : Int) ≠ 0 by decide)
    have := Int.emod_lt_of_pos (l * r) (show (0 : Int) < 10 by decide)
    omega
  split
  · split <;> omega
  · split <;> omega
theorem ev_bd {r : Str → Int} (h : RegOk r) : ∀ {e : Exp}, e.ok → 0 ≤ e.ev r ∧ e.ev r ≤ 9
  | .num n, o => o
  | .reg s, o => h s o
  | .op s a b, _ => opv_bd s _ _
theorem rset_ok {r : Str → Int} {s : Str} {i : Int} (h : RegOk r) (hi : 0 ≤ i ∧ i ≤ 9) : RegOk (rset r s i) := fun t ht => by
  unfold rset
  split
  · exact hi
  · exact h t ht
section
variable {P : Program} {w : World} {K : PySem.W.Frag} {mg : Str → Option Value} {base : Heap}
def spValue (K : PySem.W.Frag) (n : Nat) : Sp := fun vs H Q _ => ∃ (v : V) (e : Exp) (h : Addr) (r : Str → Int), vs = [v, .ref h] ∧ Dp K H v e.d ∧ e.ok ∧ e.dep < n ∧ H h = some (.dK (heldK r)) ∧ RegOk r ∧ Q (.int (e.ev r)) H
theorem ca_value_of : ∀ (n : Nat) (T : Txt w K mg), Ca P w K mg base (n + 1) "value_of" (spValue K n)
  | 0, T => by
    refine ca_of (N := ["expression", "held", "sign", "one", "other", "left", "right"]) (ps := ["expression", "held"]) T.f_value_of T.g_value_of ⟨rfl, rfl, rfl, by decide +kernel, rfl, by decide +kernel, by decide +kernel⟩ (fun _ _ _ _ _ _ us hl => match us, hl with | [_, _], _ => rfl)
      (fun vs H Q E h => by obtain ⟨v, e, h, r, rfl, hv, ok, hd, hh, ro, q⟩ := h; rfl) (fun cdv A outer s H vs Q E hr h => ?_)
    have nd : (["expression", "held", "sign", "one", "other", "left", "right"] : List Str).Nodup := by decide +kernel
    obtain ⟨v, e, h, r, rfl, hv, ok, hd, hh, ro, q⟩ := h
    omega
  | n + 1, T => by
    refine ca_of (N := ["expression", "held", "sign", "one", "other", "left", "right"]) (ps := ["expression", "held"]) T.f_value_of T.g_value_of ⟨rfl, rfl, rfl, by decide +kernel, rfl, by decide +kernel, by decide +kernel⟩ (fun _ _ _ _ _ _ us hl => match us, hl with | [_, _], _ => rfl)
      (fun vs H Q E h => by obtain ⟨v, e, h, r, rfl, hv, ok, hd, hh, ro, q⟩ := h; rfl) (fun cdv A outer s H vs Q E hr h => ?_)
    have nd : (["expression", "held", "sign", "one", "other", "left", "right"] : List Str).Nodup := by decide +kernel
    obtain ⟨v, e, h, r, rfl, hv, ok, hd, hh, ro, q⟩ := h
    refine ⟨_, (pss_cons (ps_if (pt_val (pe_is .str T.b_isinstance (pv 0) T.b_str boot_str)) (pss_one (ps_ret (pe_dget (hu_of hr) (pv 1) (pv 0) (fun _ _ => rfl)))) pss_nil)
      (pss_cons (ps_if (pt_val (pe_is .int T.b_isinstance (pv 0) T.b_int boot_int)) (pss_one (ps_ret (pv 0))) pss_nil)
      (pss_cons (ps_asg (pv 0) (pg_three K 2 3 4 rfl rfl nd rfl rfl rfl (.inl rfl) (.inl rfl) (.inl rfl) (.inr rfl) (.inr rfl) (.inr rfl)))
      (pss_cons (ps_set (i := 5) nd rfl (.inl rfl) (pe_ca (ca_value_of n T) hr (pa_cons (pv 3) (pa_cons (pv 1) pa_nil)) (by omega)))
      (pss_cons (ps_set (i := 6) nd rfl (.inl rfl) (pe_ca (ca_value_of n T) hr (pa_cons (pv 4) (pa_cons (pv 1) pa_nil)) (by omega)))
      (pss_cons (ps_if (pt_cmpR op_eq (pv 2) pe_str (nomark _)) (pss_one (ps_ret (pe_op op_mod (pe_op op_add (pv 5) (pv 6)) pe_int))) pss_nil)
      (pss_cons (ps_if (pt_cmpR op_eq (pv 2) pe_str (nomark _)) (pss_one (ps_ret (pe_op op_mod (pe_op op_sub (pv 5) (pv 6)) pe_int))) pss_nil)
      (pss_cons (ps_if (pt_cmpR op_eq (pv 2) pe_str (nomark _)) (pss_one (ps_ret (pe_op op_mod (pe_op op_mul (pv 5) (pv 6)) pe_int))) pss_nil)
      (pss_cons (ps_if (pt_cmpR op_eq (pv 2) pe_str (nomark _)) (pss_one (ps_ret (pe_ifExp (pt_cmpR op_eq (pv 5) (pv 6) (nomark _)) pe_int pe_int))) pss_nil)
      (pss_one (ps_ret (pe_ifExp (pt_cmpR op_lt (pv 5) (pv 6) (nomark _)) pe_int pe_int)))))))))))), ?_⟩
    cases e with
    | num m =>
      cases dp_int hv
      refine ⟨_, rfl, _, _, rfl, .int m, _, rfl, iteF ?_⟩
      exact ⟨_, rfl, _, _, rfl, .int m, _, rfl, iteT ⟨_, rfl, q⟩⟩
    | reg s =>
      cases dp_str hv
      refine ⟨_, rfl, _, _, rfl, .str s, _, rfl, iteT ?_⟩
      refine ⟨_, rfl, _, rfl, h, _, rfl, ?_, q⟩
      show DGet H h (.str s) (some (V.int (r s)))
      rw [← held_get ok]
      exact DGet.k (k := Sum.inr s) hh
    | op s a b =>
      obtain ⟨t, x1, x2, x3, rfl, ht, e1, e2, e3⟩ := dp3 hv
      cases dp_str e1
      obtain ⟨o1, o2, o3⟩ := ok
      have hd : Nat.max a.dep b.dep + 1 < n + 1 := hd
      have da : a.dep < n := Nat.lt_of_le_of_lt (Nat.le_max_left _ _) (Nat.lt_of_succ_lt_succ hd)
      have db : b.dep < n := Nat.lt_of_le_of_lt (Nat.le_max_right _ _) (Nat.lt_of_succ_lt_succ hd)
      refine ⟨_, rfl, _, _, rfl, .tuple ht, _, rfl, iteF ?_⟩
      refine ⟨_, rfl, _, _, rfl, .tuple ht, _, rfl, iteF ?_⟩
      refine ⟨_, rfl, t, _, rfl, ht, rfl, _, _, rfl, _, _, rfl, _, _, rfl, rfl, ?_⟩
      refine ⟨_, rfl, _, rfl, x2, a, h, r, rfl, e2, o2, da, hh, ro, ?_⟩
      refine ⟨_, rfl, _, rfl, x3, b, h, r, rfl, e3, o3, db, hh, ro, ?_⟩
      have ba := ev_bd ro o2
      have bb := ev_bd ro o3
      have q : Q (.int (opv s (a.ev r) (b.ev r))) H := q
      generalize a.ev r = l at q ba
      generalize b.ev r = m at q bb
      have n1 : ¬ (("-" : Str) = "+") := by decide +kernel
      have n2 : ¬ (("*" : Str) = "+") := by decide +kernel
      have n3 : ¬ (("*" : Str) = "-") := by decide +kernel
      have n4 : ¬ (("=" : Str) = "+") := by decide +kernel
      have n5 : ¬ (("=" : Str) = "-") := by decide +kernel
      have n6 : ¬ (("=" : Str) = "*") := by decide +kernel
      have n7 : ¬ (("<" : Str) = "+") := by decide +kernel
      have n8 : ¬ (("<" : Str) = "-") := by decide +kernel
      have n9 : ¬ (("<" : Str) = "*") := by decide +kernel
      have n10 : ¬ (("<" : Str) = "=") := by decide +kernel
      unfold signs at o1
      simp only [List.mem_cons, List.not_mem_nil, or_false] at o1
      rcases o1 with rfl | rfl | rfl | rfl | rfl
      · refine ⟨_, rfl, rfl, _, rfl, iteT ?_⟩
        refine ⟨_, rfl, _, rfl, _, _, rfl, rfl, _, _, rfl, rfl, (by show (0 : Int) < 10; decide), ?_⟩
        unfold opv at q
        rw [if_pos rfl] at q
        exact q
      · refine ⟨_, rfl, rfl, _, rfl, iteF ⟨_, rfl, rfl, _, rfl, iteT ?_⟩⟩
        refine ⟨_, rfl, _, rfl, _, _, rfl, rfl, _, _, rfl, rfl, (by show (0 : Int) < 10; decide), ?_⟩
        unfold opv at q
        rw [if_neg n1, if_pos rfl] at q
        exact q
      · refine ⟨_, rfl, rfl, _, rfl, iteF ⟨_, rfl, rfl, _, rfl, iteF ⟨_, rfl, rfl, _, rfl, iteT ?_⟩⟩⟩
        refine ⟨_, rfl, _, rfl, _, _, rfl, rfl, .inl (by omega), _, _, rfl, rfl, (by show (0 : Int) < 10; decide), ?_⟩
        unfold opv at q
        rw [if_neg n2, if_neg n3, if_pos rfl] at q
        exact q
      · refine ⟨_, rfl, rfl, _, rfl, iteF ⟨_, rfl, rfl, _, rfl, iteF ⟨_, rfl, rfl, _, rfl, iteF ⟨_, rfl, rfl, _, rfl, iteT ?_⟩⟩⟩⟩
        refine ⟨_, rfl, _, rfl, rfl, _, rfl, ?_⟩
        unfold opv at q
        rw [if_neg n4, if_neg n5, if_neg n6, if_pos rfl] at q
        by_cases c : l = m
        · rw [if_pos c] at q
          rw [decide_eq_true (show V.int l = V.int m from congrArg V.int c)]
          exact iteT q
        · rw [if_neg c] at q
          rw [decide_eq_false (show ¬ V.int l = V.int m from fun z => c (V.int.inj z))]
          exact iteF q
      · refine ⟨_, rfl, rfl, _, rfl, iteF ⟨_, rfl, rfl, _, rfl, iteF ⟨_, rfl, rfl, _, rfl, iteF ⟨_, rfl, rfl, _, rfl, iteF ?_⟩⟩⟩⟩
        refine ⟨_, rfl, _, rfl, _, _, rfl, rfl, _, rfl, ?_⟩
        unfold opv at q
        rw [if_neg n7, if_neg n8, if_neg n9, if_neg n10] at q
        by_cases c : l < m
        · rw [if_pos c] at q
          rw [decide_eq_true c]
          exact iteT q
        · rw [if_neg c] at q
          rw [decide_eq_false c]
          exact iteF q
end

end M

set_option Elab.async false
set_option linter.all false
set_option maxRecDepth 100000
set_option maxHeartbeats 2000000
namespace M
open PySem PySem.Spec PyProof.Rows L2

/-! ### a run -/
structure Mst where
  code : List FR
  sides : List Int
  cells : List Int
  coins : List Int
  fallen : Int
  regs : Str → Int
  rounds : List Int
  place : Int
  res : Option Int
structure RA where
  x : Addr
  dx : Addr
  c : Addr
  s : Addr
  l : Addr
  n : Addr
  h : Addr
  u : Addr
  ct : Bool
def resV : Option Int → V
  | none => .non
  | some i => .int i
def rf (c s l n : Addr) (f : Int) (h u : Addr) (p : Int) (z : V) : List (Str × V) := [("code", .ref c), ("sides", .ref s), ("cells", .ref l), ("coins", .ref n), ("fallen", .int f), ("held", .ref h), ("rounds", .ref u), ("place", .int p), ("result", z)]
section
variable {c s l n h u : Addr} {f p g q : Int} {z y : V}
theorem rf_code : (rf c s l n f h u p z).lookup ("code" : Str) = some (.ref c) := by kernel_rfl
theorem rf_sides : (rf c s l n f h u p z).lookup ("sides" : Str) = some (.ref s) := by kernel_rfl
theorem rf_cells : (rf c s l n f h u p z).lookup ("cells" : Str) = some (.ref l) := by kernel_rfl
theorem rf_coins : (rf c s l n f h u p z).lookup ("coins" : Str) = some (.ref n) := by kernel_rfl
theorem rf_fallen : (rf c s l n f h u p z).lookup ("fallen" : Str) = some (.int f) := by kernel_rfl
theorem rf_held : (rf c s l n f h u p z).lookup ("held" : Str) = some (.ref h) := by kernel_rfl
theorem rf_rounds : (rf c s l n f h u p z).lookup ("rounds" : Str) = some (.ref u) := by kernel_rfl
theorem rf_place : (rf c s l n f h u p z).lookup ("place" : Str) = some (.int p) := by kernel_rfl
theorem rf_result : (rf c s l n f h u p z).lookup ("result" : Str) = some z := by kernel_rfl
theorem rf_putF : putF "fallen" (.int g) (rf c s l n f h u p z) = rf c s l n g h u p z := by kernel_rfl
theorem rf_putP : putF "place" (.int q) (rf c s l n f h u p z) = rf c s l n f h u q z := by kernel_rfl
theorem rf_putR : putF "result" y (rf c s l n f h u p z) = rf c s l n f h u p y := by kernel_rfl
theorem rf_new : putF "result" .non (putF "place" (.int 0) (putF "rounds" (.ref u) (putF "held" (.ref h) (putF "fallen" (.int 0) (putF "coins" (.ref n) (putF "cells" (.ref l) (putF "sides" (.ref s) (putF "code" (.ref c) [])))))))) = rf c s l n 0 h u 0 .non := by kernel_rfl
end
/-- the coins: a list, or a tuple -/
def CoinsAt (K : PySem.W.Frag) (H : Hp) (ct : Bool) (n l u : Addr) (cs : List Int) : Prop := (ct = false ∧ H n = some (.lst (cs.map .int)) ∧ n ≠ l ∧ n ≠ u) ∨ (ct = true ∧ SqT K H n (cs.map .int))
structure RunAt (K : PySem.W.Frag) (H : Hp) (R : RA) (st : Mst) : Prop where
  ins : H R.x = some (.ins (He.ga K "Run") R.dx (rf R.c R.s R.l R.n st.fallen R.h R.u st.place (resV st.res)))
  code : Dp K H (.ref R.c) (.tuple (st.code.map FR.d))
  sides : SqT K H R.s (st.sides.map .int)
  cells : H R.l = some (.lst (st.cells.map .int))
  coins : CoinsAt K H R.ct R.n R.l R.u st.coins
  held : H R.h = some (.dK (heldK st.regs))
  rounds : H R.u = some (.lst (st.rounds.map .int))
  lu : R.l ≠ R.u
theorem codeF_noL (fs : List FR) : NoL (.tuple (fs.map FR.d)) := .tup fun d h => by
  obtain ⟨r, _, rfl⟩ := List.mem_map.mp h
  exact r.noL
theorem ne_ho {H : Hp} {a b : Addr} {o p : HO} (ha : H a = some o) (hb : H b = some p) (n : o ≠ p) : a ≠ b := fun e => n (by rw [e, hb] at ha; exact (Option.some.inj ha).symm)
theorem sqL_ne {K : PySem.W.Frag} {H H' : Hp} {D a : Addr} {xs : List V} (s : But D H H') (ne : a ≠ D) (h : SqL K H a xs) : SqL K H' a xs := by
  rcases h with (h | ⟨o, h⟩) | h
  · exact .inl (.inl (s _ _ ne h))
  · exact .inl (.inr ⟨o, s _ _ ne h⟩)
  · exact .inr h
section
variable {K : PySem.W.Frag} {H H' : Hp} {R : RA} {st : Mst}
theorem coins_but {D n l u : Addr} {ct : Bool} {cs : List Int} (hc : Ch H D) (hn : NoLst H D ∨ D = l ∨ D = u) (b : But D H H') (h : CoinsAt K H ct n l u cs) : CoinsAt K H' ct n l u cs := by
  rcases h with ⟨t, h, h1, h2⟩ | ⟨t, h⟩
  · refine .inl ⟨t, b _ _ ?_ h, h1, h2⟩
    rcases hn with hn | e | e
    · exact fun e => hn.1 _ (e ▸ h)
    · exact e ▸ h1
    · exact e ▸ h2
  · exact .inr ⟨t, sqT_but hc b h⟩
theorem CoinsAt.seq {ct : Bool} {n l u : Addr} {cs : List Int} (h : CoinsAt K H ct n l u cs) : SqL K H n (cs.map .int) ∨ SqT K H n (cs.map .int) := h.elim (fun h => .inl (.of h.2.1)) (fun h => .inr h.2)
theorem RunAt.xl (r : RunAt K H R st) : R.x ≠ R.l := ne_ho r.ins r.cells fun e => nomatch e
theorem RunAt.xh (r : RunAt K H R st) : R.x ≠ R.h := ne_ho r.ins r.held fun e => nomatch e
theorem RunAt.xu (r : RunAt K H R st) : R.x ≠ R.u := ne_ho r.ins r.rounds fun e => nomatch e
theorem RunAt.lh (r : RunAt K H R st) : R.l ≠ R.h := ne_ho r.cells r.held fun e => nomatch e
theorem RunAt.uh (r : RunAt K H R st) : R.u ≠ R.h := ne_ho r.rounds r.held fun e => nomatch e
/-- the instance is written -/
theorem RunAt.setX (r : RunAt K H R st) (f p : Int) (z : Option Int) : RunAt K (upd H R.x (.ins (He.ga K "Run") R.dx (rf R.c R.s R.l R.n f R.h R.u p (resV z)))) R { st with fallen := f, place := p, res := z } := by
  have b : But R.x H (upd H R.x (.ins (He.ga K "Run") R.dx (rf R.c R.s R.l R.n f R.h R.u p (resV z)))) := But.upd
  exact ⟨upd_same, dp_but (.ins r.ins) b r.code (codeF_noL _), sqT_but (.ins r.ins) b r.sides, b _ _ (Ne.symm r.xl) r.cells, coins_but (.ins r.ins) (.inl (.ins r.ins)) b r.coins, b _ _ (Ne.symm r.xh) r.held, b _ _ (Ne.symm r.xu) r.rounds, r.lu⟩
theorem RunAt.setL (r : RunAt K H R st) (cs : List Int) : RunAt K (upd H R.l (.lst (cs.map .int))) R { st with cells := cs } := by
  have b : But R.l H (upd H R.l (.lst (cs.map .int))) := But.upd
  exact ⟨b _ _ r.xl r.ins, dp_but (.lst r.cells) b r.code (codeF_noL _), sqT_but (.lst r.cells) b r.sides, upd_same, coins_but (.lst r.cells) (.inr (.inl rfl)) b r.coins, b _ _ (Ne.symm r.lh) r.held, b _ _ (Ne.symm r.lu) r.rounds, r.lu⟩
theorem RunAt.setU (r : RunAt K H R st) (cs : List Int) : RunAt K (upd H R.u (.lst (cs.map .int))) R { st with rounds := cs } := by
  have b : But R.u H (upd H R.u (.lst (cs.map .int))) := But.upd
  exact ⟨b _ _ r.xu r.ins, dp_but (.lst r.rounds) b r.code (codeF_noL _), sqT_but (.lst r.rounds) b r.sides, b _ _ r.lu r.cells, coins_but (.lst r.rounds) (.inr (.inr rfl)) b r.coins, b _ _ (Ne.symm r.uh) r.held, upd_same, r.lu⟩
theorem RunAt.setH (r : RunAt K H R st) (g : Str → Int) : RunAt K (upd H R.h (.dK (heldK g))) R { st with regs := g } := by
  have b : But R.h H (upd H R.h (.dK (heldK g))) := But.upd
  exact ⟨b _ _ r.xh r.ins, dp_but (.dK r.held) b r.code (codeF_noL _), sqT_but (.dK r.held) b r.sides, b _ _ r.lh r.cells, coins_but (.dK r.held) (.inl (.dK r.held)) b r.coins, upd_same, b _ _ r.uh r.rounds, r.lu⟩
/-- what is new does not matter -/
theorem RunAt.same (s : Same H H') (r : RunAt K H R st) : RunAt K H' R st := ⟨s _ _ r.ins, dp_same s r.code, same_t s r.sides, s _ _ r.cells, r.coins.elim (fun h => .inl ⟨h.1, s _ _ h.2.1, h.2.2⟩) (fun h => .inr ⟨h.1, same_t s h.2⟩), s _ _ r.held, s _ _ r.rounds, r.lu⟩
/-- what is none of its own does not matter -/
theorem RunAt.butD {D : Addr} (hc : Ch H D) (dx : D ≠ R.x) (dl : D ≠ R.l) (dh : D ≠ R.h) (du : D ≠ R.u) (dn : R.ct = false → D ≠ R.n) (b : But D H H') (r : RunAt K H R st) : RunAt K H' R st := ⟨b _ _ (Ne.symm dx) r.ins, dp_but hc b r.code (codeF_noL _), sqT_but hc b r.sides, b _ _ (Ne.symm dl) r.cells,
  r.coins.elim (fun h => .inl ⟨h.1, b _ _ (Ne.symm (dn h.1)) h.2.1, h.2.2⟩) (fun h => .inr ⟨h.1, sqT_but hc b h.2⟩), b _ _ (Ne.symm dh) r.held, b _ _ (Ne.symm du) r.rounds, r.lu⟩
/-- all but the run's own is as it was -/
def Bt (R : RA) (H H' : Hp) : Prop := ∀ b o, b ≠ R.x → b ≠ R.l → b ≠ R.h → b ≠ R.u → H b = some o → H' b = some o
theorem Bt.refl (R : RA) (H : Hp) : Bt R H H := fun _ _ _ _ _ _ e => e
theorem Bt.trans {H1 H2 H3 : Hp} (s : Bt R H1 H2) (t : Bt R H2 H3) : Bt R H1 H3 := fun b o h1 h2 h3 h4 e => t b o h1 h2 h3 h4 (s b o h1 h2 h3 h4 e)
theorem Bt.x (s : But R.x H H') : Bt R H H' := fun b o h _ _ _ e => s b o h e
theorem Bt.l (s : But R.l H H') : Bt R H H' := fun b o _ h _ _ e => s b o h e
theorem Bt.h (s : But R.h H H') : Bt R H H' := fun b o _ _ h _ e => s b o h e
theorem Bt.u (s : But R.u H H') : Bt R H H' := fun b o _ _ _ h e => s b o h e
end
/-- a call under way, at its beginning -/
def mst0 (code : List FR) (sides cells coins : List Int) (a : Int) : Mst := ⟨code, sides, cells, coins, 0, r0 a, [], 0, none⟩
section
variable {P : Program} {w : World} {K : PySem.W.Frag} {mg : Str → Option Value} {base : Heap}
def spRun (K : PySem.W.Frag) : Sp := fun vs H Q _ => ∃ (p dx y s l n : Addr) (ct : Bool) (code : List FR) (sides cells coins : List Int) (a : Int), vs = [.ref p, .ref y, .ref s, .ref l, .ref n] ∧ H p = some (.ins (He.ga K "Run") dx []) ∧ Dp K H (.ref y) (.tuple [.tuple (code.map FR.d), .int a]) ∧
  SqT K H s (sides.map .int) ∧ H l = some (.lst (cells.map .int)) ∧ ((ct = false ∧ H n = some (.lst (coins.map .int)) ∧ n ≠ l) ∨ (ct = true ∧ SqT K H n (coins.map .int))) ∧
  ∀ (R : RA) (H' : Hp), R.x = p → R.l = l → R.ct = ct → R.n = n → H R.h = none → H R.u = none → But p H H' → RunAt K H' R (mst0 code sides cells coins a) → Q .non H'
theorem ma_Run (T : Txt w K mg) : Ma P w K mg base 1 "Run" (He.ga K "Run") (spRun K) := by
  refine ma_of (N := ["self", "start", "sizes", "cells", "coins"]) (ps := ["self", "start", "sizes", "cells", "coins"]) T.f_Run_init T.g_Run T.k_Run ⟨rfl, rfl, rfl, by decide +kernel, rfl, by decide +kernel, by decide +kernel⟩ (fun _ _ _ _ _ _ us hl => match us, hl with | [_, _, _, _, _], _ => rfl)
    (fun vs H Q E h => by obtain ⟨p, dx, y, s, l, n, ct, code, sides, cells, coins, a, rfl, hp, hy, hs, hl, hn, q⟩ := h; rfl) (fun cdv A outer s H vs Q E hr h => ?_)
  have nd : (["self", "start", "sizes", "cells", "coins"] : List Str).Nodup := by decide +kernel
  obtain ⟨p, dx, y, s, l, n, ct, code, sides, cells, coins, a, rfl, hp, hy, hs, hl, hn, q⟩ := h
  refine ⟨_, (pss_cons (ps_fld (pv 0) (pe_ix ix_tup (pv 1) pe_int (fun _ _ => rfl)) rfl)
      (pss_cons (ps_fld (pv 0) (pv 2) rfl)
      (pss_cons (ps_fld (pv 0) (pv 3) rfl)
      (pss_cons (ps_fld (pv 0) (pv 4) rfl)
      (pss_cons (ps_fld (pv 0) pe_int rfl)
      (pss_cons (ps_fld (pv 0) (pe_disp (pps_cons pe_str pe_int (pps_cons pe_str pe_int (pps_cons pe_str pe_int (pps_cons pe_str pe_int (pps_cons pe_str (pe_ix ix_tup (pv 1) pe_int (fun _ _ => rfl)) pps_nil))))) rfl rfl (List.cons_ne_nil _ _) (by decide)) rfl)
      (pss_cons (ps_fld (pv 0) (pe_lst pa_nil) rfl)
      (pss_cons (ps_fld (pv 0) pe_int rfl)
      (pss_one (ps_fld (pv 0) pe_non rfl)))))))))), ?_⟩
  obtain ⟨ya, c0, a0, ey, hya, hc0, ha0⟩ := dp2 hy
  cases ey
  obtain ⟨c, cs, ec, hcs, hcd⟩ := dp_tup hc0
  cases ec
  cases dp_int ha0
  have np : NoLst H p := .ins hp
  have cp : Ch H p := .ins hp
  refine ⟨_, rfl, _, _, _, _, rfl, rfl, hya, at0, _, rfl, p, _, dx, _, rfl, hp, T.c_Run, T.n_Run_code, (by show 0 < 1000; decide), ?_⟩
  refine ⟨_, rfl, _, rfl, p, _, dx, _, rfl, upd_same, T.c_Run, T.n_Run_sides, (by show 1 < 1000; decide), ?_⟩
  refine ⟨_, rfl, _, rfl, p, _, dx, _, rfl, upd_same, T.c_Run, T.n_Run_cells, (by show 2 < 1000; decide), ?_⟩
  refine ⟨_, rfl, _, rfl, p, _, dx, _, rfl, upd_same, T.c_Run, T.n_Run_coins, (by show 3 < 1000; decide), ?_⟩
  refine ⟨_, rfl, p, _, dx, _, rfl, upd_same, T.c_Run, T.n_Run_fallen, (by show 4 < 1000; decide), ?_⟩
  rw [upd_upd, upd_upd, upd_upd, upd_upd]
  generalize eH : upd H p (.ins (He.ga K "Run") dx (putF "fallen" (.int 0) (putF "coins" (.ref n) (putF "cells" (.ref l) (putF "sides" (.ref s) (putF "code" (.ref c) [])))))) = Hc
  have b0 : But p H Hc := eH ▸ But.upd
  have hpc : Hc p = some (.ins (He.ga K "Run") dx (putF "fallen" (.int 0) (putF "coins" (.ref n) (putF "cells" (.ref l) (putF "sides" (.ref s) (putF "code" (.ref c) [])))))) := by rw [← eH, upd_same]
  refine fun hd nhd => ?_
  have s1 : Same Hc (upd Hc hd (.dK [])) := same_new nhd
  have hdp : hd ≠ p := fun e => by rw [e, hpc] at nhd; cases nhd
  refine ⟨_, rfl, _, _, _, _, rfl, rfl, same_t s1 (sqT_but cp b0 hya), at1, upd_same, [kS "a" (.int 0), kS "b" (.int 0), kS "c" (.int 0), kS "d" (.int 0), kS "x" (.int a)], rfl, (by show 5 ≤ 15; decide), ?_⟩
  rw [upd_upd, held_disp]
  generalize eH2 : upd Hc hd (.dK (heldK (r0 a))) = H2
  have s2 : Same Hc H2 := eH2 ▸ same_new nhd
  have hh2 : H2 hd = some (.dK (heldK (r0 a))) := by rw [← eH2, upd_same]
  refine ⟨_, rfl, p, _, dx, _, rfl, s2 _ _ hpc, T.c_Run, T.n_Run_held, (by show 5 < 1000; decide), ?_⟩
  refine ⟨(by show 0 ≤ sizeLine; exact Nat.zero_le _), fun u nu => ?_⟩
  have hup : u ≠ p := fun e => by rw [e, upd_same] at nu; cases nu
  have nu2 : H2 u = none := by rw [upd_ne hup] at nu; exact nu
  have huh : u ≠ hd := fun e => by rw [e, hh2] at nu2; cases nu2
  refine ⟨_, rfl, p, _, dx, _, rfl, (upd_ne (Ne.symm hup)).trans upd_same, T.c_Run, T.n_Run_rounds, (by show 6 < 1000; decide), ?_⟩
  refine ⟨_, rfl, p, _, dx, _, rfl, upd_same, T.c_Run, T.n_Run_place, (by show 7 < 1000; decide), ?_⟩
  refine ⟨_, rfl, p, _, dx, _, rfl, upd_same, T.c_Run, T.n_Run_result, (by show 8 < 1000; decide), ?_⟩
  rw [upd_upd, upd_upd, rf_new]
  generalize eH3 : upd (upd (upd H2 p (.ins (He.ga K "Run") dx (putF "held" (.ref hd) (putF "fallen" (.int 0) (putF "coins" (.ref n) (putF "cells" (.ref l) (putF "sides" (.ref s) (putF "code" (.ref c) [])))))))) u (.lst [])) p (.ins (He.ga K "Run") dx (rf c s l n 0 hd u 0 .non)) = H3
  have b3 : But p H2 H3 := by
    rw [← eH3]
    intro b o hb e
    rw [upd_ne hb, upd_ne (ne_of_none e nu2), upd_ne hb]
    exact e
  have b : But p H H3 := (b0.trans (same_but s2)).trans b3
  have hlp : l ≠ p := ne_ho hl hp fun e => nomatch e
  have hu0 : H u = none := by
    cases e : H u with
    | none => rfl
    | some o =>
      have := s2 _ _ (b0 _ _ hup e)
      rw [nu2] at this
      cases this
  have hh0 : H hd = none := by
    cases e : H hd with
    | none => rfl
    | some o =>
      have := b0 _ _ hdp e
      rw [nhd] at this
      cases this
  refine q ⟨p, dx, c, s, l, n, hd, u, ct⟩ H3 rfl rfl rfl rfl hh0 hu0 b ⟨by rw [← eH3, upd_same]; rfl, dp_but cp b (.tup hcs hcd) (codeF_noL code), sqT_but cp b hs, b _ _ hlp hl, ?_, b3 _ _ hdp hh2, by rw [← eH3, upd_ne hup, upd_same]; rfl, ne_of_none hl hu0⟩
  rcases hn with ⟨t, hn, nl⟩ | ⟨t, hn⟩
  · exact .inl ⟨t, b _ _ (ne_ho hn hp fun e => nomatch e) hn, nl, ne_of_none hn hu0⟩
  · exact .inr ⟨t, sqT_but cp b hn⟩
end

end M

set_option Elab.async false
set_option linter.all false
set_option maxRecDepth 100000
set_option maxHeartbeats 2000000
namespace M
open PySem PySem.Spec PyProof.Rows L2

/-- the def x of the module, its parameters told -/
structure Cf (P : Program) (w : World) (K : PySem.W.Frag) (mg : Str → Option Value) (base : Heap) (k : Nat) (x : Str) (ps : List Str) (sp : Sp) : Prop where
  ex : ∃ (fd : FuncData) (oc : Value) (od : Option Addr) (osl : Array (Option Value)), K.lookup (He.ga K x) = some ⟨oc, od, .func fd, osl⟩ ∧ FnOk P w K mg base CX0 k (He.ga K x) fd ps sp ∧ PySem.W.keepIn K (.ref (He.ga K x)) = true ∧ Binds K fd ps []
  g : mg x = some (.ref (He.ga K x))
theorem cf_of {P : Program} {w : World} {K : PySem.W.Frag} {mg : Str → Option Value} {base : Heap} {x : Str} {st : Stmt} {N ps : List Str} {k : Nat} {sp : Sp} (F : ∃ fd, FunD K x x (defArgs st) (defBody st) (defScope st) [] [] (He.fAd K (x, none)) fd) (g : mg x = some (.ref (He.ga K x))) (S : FnScope N ps (defScope st)) (hb : BindsH x x st ps)
    (len : ∀ vs H Q E, sp vs H Q E → vs.length = ps.length) (hbody : BodyH P w K mg base x st N k (He.fAd K (x, none)) sp) : Cf P w K mg base (k + 1) x ps sp := by
  obtain ⟨fd, F⟩ := F
  obtain ⟨oc, od, dV, kV, doc, pm, an, cdv, ct, osl, e, lk, _⟩ := F.ex
  exact ⟨⟨fd, oc, od, osl, lk, fn_d F S len hbody, F.kp, F.bindsN hb⟩, g⟩
theorem Cf.mono {P : Program} {w : World} {K : PySem.W.Frag} {mg : Str → Option Value} {base : Heap} {x : Str} {ps : List Str} {j k : Nat} {sp : Sp} (c : Cf P w K mg base j x ps sp) (h : j ≤ k) : Cf P w K mg base k x ps sp := by
  obtain ⟨fd, oc, od, osl, lk, F, r⟩ := c.ex
  exact ⟨⟨fd, oc, od, osl, lk, F.mono h, r⟩, c.g⟩
/-! ### one row is done -/
def FOk (n : Nat) : FR → Prop
  | .row (.read r k) => r ∈ regs4 ∧ 0 ≤ k ∧ k < n
  | .row (.set k e) => (0 ≤ k ∧ k < n) ∧ e.good
  | .row (.swap r k e f) => r ∈ regs4 ∧ (0 ≤ k ∧ k < n) ∧ e.good ∧ f.good
  | .row (.keep r e) => r ∈ regs4 ∧ e.good
  | .row (.coin r) => r ∈ regs4
  | .row (.ans e) => e.good
  | .row _ => False
  | .unless e _ => e.good
  | .on _ => True
  | .rounds e => e.good
  | .round _ => True
  | .hole => False
def stp1 : FR → Mst → Mst
  | .row (.read r k), st => { st with regs := rset st.regs r (st.cells.getD k.toNat 0) }
  | .row (.set k e), st => { st with cells := st.cells.set k.toNat (e.ev st.regs % st.sides.getD k.toNat 0) }
  | .row (.swap r k e f), st => if st.cells.getD k.toNat 0 = e.ev st.regs then { st with cells := st.cells.set k.toNat (f.ev st.regs % st.sides.getD k.toNat 0), regs := rset st.regs r 1 } else { st with regs := rset st.regs r 0 }
  | .row (.keep r e), st => { st with regs := rset st.regs r (e.ev st.regs) }
  | .row (.coin r), st => { st with regs := rset st.regs r (st.coins.getD st.fallen.toNat 0), fallen := st.fallen + 1 }
  | .row (.ans e), st => { st with res := some (e.ev st.regs) }
  | .row _, st => st
  | .unless e p, st => if e.ev st.regs = 0 then { st with place := p } else st
  | .on p, st => { st with place := p }
  | .rounds e, st => { st with rounds := st.rounds ++ [e.ev st.regs] }
  | .round p, st => if st.rounds.getLast?.getD 0 = 0 then { st with rounds := st.rounds.dropLast, place := p } else { st with rounds := st.rounds.dropLast ++ [st.rounds.getLast?.getD 0 - 1] }
  | .hole, st => st
def Can : FR → Mst → Prop
  | .row (.coin _), st => 0 ≤ st.fallen ∧ st.fallen < st.coins.length
  | .rounds _, st => st.rounds.length < 9
  | .round _, st => st.rounds ≠ []
  | _, _ => True
structure MOk (st : Mst) : Prop where
  rg : RegOk st.regs
  cl : ∀ c ∈ st.cells, 0 ≤ c ∧ c ≤ 8
  sd : ∀ s ∈ st.sides, 1 ≤ s ∧ s ≤ 9
  le : st.sides.length = st.cells.length
  l6 : st.cells.length ≤ 6
  fd : ∀ f ∈ st.code, FOk st.cells.length f
  co : ∀ c ∈ st.coins, 0 ≤ c ∧ c ≤ 1
theorem getD_mem {l : List Int} {i : Nat} {d : Int} (h : i < l.length) : l.getD i d ∈ l := by
  rw [List.getD_eq_getElem?_getD, List.getElem?_eq_getElem h]
  exact List.getElem_mem h
theorem atK {l : List Int} {k : Int} {n : Nat} (h0 : 0 ≤ k) (hk : k < n) (hn : l.length = n) : atI (l.map V.int) k = some (.int (l.getD k.toNat 0)) := by
  have e : ((k.toNat : Nat) : Int) = k := Int.toNat_of_nonneg h0
  have hl : k.toNat < l.length := by omega
  have := atI_nat (xs := l.map V.int) (j := k.toNat) (v := .int (l.getD k.toNat 0)) (by
    rw [List.getElem?_map, List.getD_eq_getElem?_getD, List.getElem?_eq_getElem hl]
    rfl)
  rw [e] at this
  exact this
theorem ixK {k : Int} {n : Nat} (h0 : 0 ≤ k) (hk : k < n) : ixN n k = some k.toNat := by
  have e : ((k.toNat : Nat) : Int) = k := Int.toNat_of_nonneg h0
  have := Evl.ixN_nat (n := n) (j := k.toNat) (by omega)
  rw [e] at this
  exact this
theorem setI (l : List Int) (i : Nat) (v : Int) : (l.map V.int).set i (.int v) = (l.set i v).map V.int := by rw [List.map_set]
section
variable {P : Program} {w : World} {K : PySem.W.Frag} {mg : Str → Option Value} {base : Heap}
def spDo (K : PySem.W.Frag) (p : FR → Prop) : Sp := fun vs H Q _ => ∃ (R : RA) (y : V) (f : FR) (st : Mst), vs = [.ref R.x, y] ∧ RunAt K H R st ∧ MOk st ∧ Dp K H y f.d ∧ p f ∧ FOk st.cells.length f ∧ Can f st ∧ ∀ H', Bt R H H' → RunAt K H' R (stp1 f st) → Q .non H'
theorem cf_do_read (T : Txt w K mg) : Cf P w K mg base 1 "do_read" ["run", "row"] (spDo K (fun f => ∃ r k, f = .row (.read r k))) := by
  refine cf_of (N := ["run", "row"]) (ps := ["run", "row"]) T.f_do_read T.g_do_read ⟨rfl, rfl, rfl, by decide +kernel, rfl, by decide +kernel, by decide +kernel⟩ (fun _ _ _ _ _ _ us hl => match us, hl with | [_, _], _ => rfl)
    (fun vs H Q E h => by obtain ⟨R, y, f, st, rfl, r, m, hv, ⟨rg, k, rfl⟩, ok, can, q⟩ := h; rfl) (fun cdv A outer s H vs Q E hr h => ?_)
  have nd : (["run", "row"] : List Str).Nodup := by decide +kernel
  obtain ⟨R, y, f, st, rfl, r, m, hv, ⟨rg, k, rfl⟩, ok, can, q⟩ := h
  refine ⟨_, (pss_one (ps_dput (hu_of hr) (pe_fld (pv 0) rfl) (pe_ix ix_tup (pv 1) pe_int (fun _ _ => rfl)) (pe_ix ix_list (pe_fld (pv 0) rfl) (pe_ix ix_tup (pv 1) pe_int (fun _ _ => rfl)) (fun _ _ => rfl)) rfl)), ?_⟩
  obtain ⟨a, x1, x2, x3, rfl, ha, e1, e2, e3⟩ := dp3 hv
  cases dp_str e2
  cases dp_int e3
  obtain ⟨o1, o2, o3⟩ := ok
  refine ⟨_, rfl, R.x, _, R.dx, _, _, rfl, r.ins, T.c_Run, T.n_Run_cells, rf_cells, _, rfl, _, _, _, _, rfl, rfl, ha, at2, _, _, _, _, rfl, rfl, .of r.cells, atK o2 o3 rfl, ?_⟩
  refine ⟨_, rfl, R.x, _, R.dx, _, _, rfl, r.ins, T.c_Run, T.n_Run_held, rf_held, _, rfl, _, _, _, _, rfl, rfl, ha, at1, R.h, _, rfl, DPut.k (k := Sum.inr rg) r.held (by show 5 < sizeLine; decide), ?_⟩
  rw [held_put (in45 o1)]
  exact q _ (Bt.h But.upd) (r.setH _)
theorem cf_do_set (T : Txt w K mg) : Cf P w K mg base 9 "do_set" ["run", "row"] (spDo K (fun f => ∃ k e, f = .row (.set k e))) := by
  refine cf_of (N := ["run", "row", "cell"]) (ps := ["run", "row"]) T.f_do_set T.g_do_set ⟨rfl, rfl, rfl, by decide +kernel, rfl, by decide +kernel, by decide +kernel⟩ (fun _ _ _ _ _ _ us hl => match us, hl with | [_, _], _ => rfl)
    (fun vs H Q E h => by obtain ⟨R, y, f, st, rfl, r, m, hv, ⟨k, e, rfl⟩, ok, can, q⟩ := h; rfl) (fun cdv A outer s H vs Q E hr h => ?_)
  have nd : (["run", "row", "cell"] : List Str).Nodup := by decide +kernel
  obtain ⟨R, y, f, st, rfl, r, m, hv, ⟨k, e, rfl⟩, ok, can, q⟩ := h
  refine ⟨_, (pss_cons (ps_set (i := 2) nd rfl (.inl rfl) (pe_ix ix_tup (pv 1) pe_int (fun _ _ => rfl)))
      (pss_one (ps_asg (pe_op op_mod (pe_ca (ca_value_of 7 T) hr (pa_cons (pe_ix ix_tup (pv 1) pe_int (fun _ _ => rfl)) (pa_cons (pe_fld (pv 0) rfl) pa_nil))) (pe_ix ix_tup (pe_fld (pv 0) rfl) (pv 2) (fun _ _ => rfl))) (pg_sub (pe_fld (pv 0) rfl) (pv 2) set_list)))), ?_⟩
  obtain ⟨a, x1, x2, x3, rfl, ha, e1, e2, e3⟩ := dp3 hv
  cases dp_int e2
  obtain ⟨⟨o1, o2⟩, o3, o4⟩ := ok
  have o2' : k < st.sides.length := by rw [m.le]; exact o2
  refine ⟨_, rfl, _, _, _, _, rfl, rfl, ha, at1, ?_⟩
  refine ⟨_, rfl, _, _, _, _, rfl, rfl, ha, at2, _, rfl, R.x, _, R.dx, _, _, rfl, r.ins, T.c_Run, T.n_Run_held, rf_held, x3, e, R.h, st.regs, rfl, e3, o3, by omega, r.held, m.rg, ?_⟩
  refine ⟨_, rfl, R.x, _, R.dx, _, _, rfl, r.ins, T.c_Run, T.n_Run_sides, rf_sides, _, rfl, _, _, _, _, rfl, rfl, r.sides, atK o1 o2' rfl, _, _, rfl, rfl, ?_, ?_⟩
  · have := m.sd _ (getD_mem (l := st.sides) (i := k.toNat) (d := 0) (by omega))
    show (0 : Int) < _
    omega
  refine ⟨_, rfl, R.x, _, R.dx, _, _, rfl, r.ins, T.c_Run, T.n_Run_cells, rf_cells, _, rfl, R.l, _, _, k.toNat, rfl, rfl, r.cells, by rw [List.length_map]; exact ixK o1 o2, ?_⟩
  rw [setI]
  exact q _ (Bt.l But.upd) (r.setL _)
theorem cf_do_keep (T : Txt w K mg) : Cf P w K mg base 9 "do_keep" ["run", "row"] (spDo K (fun f => ∃ r e, f = .row (.keep r e))) := by
  refine cf_of (N := ["run", "row"]) (ps := ["run", "row"]) T.f_do_keep T.g_do_keep ⟨rfl, rfl, rfl, by decide +kernel, rfl, by decide +kernel, by decide +kernel⟩ (fun _ _ _ _ _ _ us hl => match us, hl with | [_, _], _ => rfl)
    (fun vs H Q E h => by obtain ⟨R, y, f, st, rfl, r, m, hv, ⟨rg, e, rfl⟩, ok, can, q⟩ := h; rfl) (fun cdv A outer s H vs Q E hr h => ?_)
  have nd : (["run", "row"] : List Str).Nodup := by decide +kernel
  obtain ⟨R, y, f, st, rfl, r, m, hv, ⟨rg, e, rfl⟩, ok, can, q⟩ := h
  refine ⟨_, (pss_one (ps_dput (hu_of hr) (pe_fld (pv 0) rfl) (pe_ix ix_tup (pv 1) pe_int (fun _ _ => rfl)) (pe_ca (ca_value_of 7 T) hr (pa_cons (pe_ix ix_tup (pv 1) pe_int (fun _ _ => rfl)) (pa_cons (pe_fld (pv 0) rfl) pa_nil))) rfl)), ?_⟩
  obtain ⟨a, x1, x2, x3, rfl, ha, e1, e2, e3⟩ := dp3 hv
  cases dp_str e2
  obtain ⟨o1, o2, o3⟩ := ok
  refine ⟨_, rfl, _, _, _, _, rfl, rfl, ha, at2, _, rfl, R.x, _, R.dx, _, _, rfl, r.ins, T.c_Run, T.n_Run_held, rf_held, x3, e, R.h, st.regs, rfl, e3, o2, by omega, r.held, m.rg, ?_⟩
  refine ⟨_, rfl, R.x, _, R.dx, _, _, rfl, r.ins, T.c_Run, T.n_Run_held, rf_held, _, rfl, _, _, _, _, rfl, rfl, ha, at1, R.h, _, rfl, DPut.k (k := Sum.inr rg) r.held (by show 5 < sizeLine; decide), ?_⟩
  rw [held_put (in45 o1)]
  exact q _ (Bt.h But.upd) (r.setH _)
theorem cf_do_answer (T : Txt w K mg) : Cf P w K mg base 9 "do_answer" ["run", "row"] (spDo K (fun f => ∃ e, f = .row (.ans e))) := by
  refine cf_of (N := ["run", "row"]) (ps := ["run", "row"]) T.f_do_answer T.g_do_answer ⟨rfl, rfl, rfl, by decide +kernel, rfl, by decide +kernel, by decide +kernel⟩ (fun _ _ _ _ _ _ us hl => match us, hl with | [_, _], _ => rfl)
    (fun vs H Q E h => by obtain ⟨R, y, f, st, rfl, r, m, hv, ⟨e, rfl⟩, ok, can, q⟩ := h; rfl) (fun cdv A outer s H vs Q E hr h => ?_)
  have nd : (["run", "row"] : List Str).Nodup := by decide +kernel
  obtain ⟨R, y, f, st, rfl, r, m, hv, ⟨e, rfl⟩, ok, can, q⟩ := h
  refine ⟨_, (pss_one (ps_fld (pv 0) (pe_ca (ca_value_of 7 T) hr (pa_cons (pe_ix ix_tup (pv 1) pe_int (fun _ _ => rfl)) (pa_cons (pe_fld (pv 0) rfl) pa_nil))) rfl)), ?_⟩
  obtain ⟨a, x1, x2, rfl, ha, e1, e2⟩ := dp2 hv
  obtain ⟨o2, o3⟩ := ok
  refine ⟨_, rfl, _, _, _, _, rfl, rfl, ha, at1, _, rfl, R.x, _, R.dx, _, _, rfl, r.ins, T.c_Run, T.n_Run_held, rf_held, x2, e, R.h, st.regs, rfl, e2, o2, by omega, r.held, m.rg, ?_⟩
  refine ⟨_, rfl, R.x, _, R.dx, _, rfl, r.ins, T.c_Run, T.n_Run_result, (by show 9 < 1000; decide), ?_⟩
  rw [rf_putR]
  exact q _ (Bt.x But.upd) (r.setX st.fallen st.place (some (e.ev st.regs)))
theorem cf_do_unless (T : Txt w K mg) : Cf P w K mg base 9 "do_unless" ["run", "row"] (spDo K (fun f => ∃ e p, f = .unless e p)) := by
  refine cf_of (N := ["run", "row"]) (ps := ["run", "row"]) T.f_do_unless T.g_do_unless ⟨rfl, rfl, rfl, by decide +kernel, rfl, by decide +kernel, by decide +kernel⟩ (fun _ _ _ _ _ _ us hl => match us, hl with | [_, _], _ => rfl)
    (fun vs H Q E h => by obtain ⟨R, y, f, st, rfl, r, m, hv, ⟨e, p, rfl⟩, ok, can, q⟩ := h; rfl) (fun cdv A outer s H vs Q E hr h => ?_)
  have nd : (["run", "row"] : List Str).Nodup := by decide +kernel
  obtain ⟨R, y, f, st, rfl, r, m, hv, ⟨e, p, rfl⟩, ok, can, q⟩ := h
  refine ⟨_, (pss_one (ps_if (pt_cmpR op_eq (pe_ca (ca_value_of 7 T) hr (pa_cons (pe_ix ix_tup (pv 1) pe_int (fun _ _ => rfl)) (pa_cons (pe_fld (pv 0) rfl) pa_nil))) pe_int (nomark _)) (pss_one (ps_fld (pv 0) (pe_ix ix_tup (pv 1) pe_int (fun _ _ => rfl)) rfl)) pss_nil)), ?_⟩
  obtain ⟨a, x1, x2, x3, rfl, ha, e1, e2, e3⟩ := dp3 hv
  cases dp_int e3
  obtain ⟨o2, o3⟩ := ok
  refine ⟨_, rfl, _, _, _, _, rfl, rfl, ha, at1, _, rfl, R.x, _, R.dx, _, _, rfl, r.ins, T.c_Run, T.n_Run_held, rf_held, x2, e, R.h, st.regs, rfl, e2, o2, by omega, r.held, m.rg, rfl, _, rfl, ?_⟩
  by_cases c : e.ev st.regs = 0
  · rw [decide_eq_true (show V.int (e.ev st.regs) = V.int 0 from congrArg V.int c)]
    refine iteT ⟨_, rfl, _, _, _, _, rfl, rfl, ha, at2, ?_⟩
    refine ⟨_, rfl, R.x, _, R.dx, _, rfl, r.ins, T.c_Run, T.n_Run_place, (by show 9 < 1000; decide), ?_⟩
    rw [rf_putP]
    refine q _ (Bt.x But.upd) (show RunAt K _ R (if e.ev st.regs = 0 then { st with place := (p : Int) } else st) from ?_)
    rw [if_pos c]
    exact r.setX st.fallen p st.res
  · rw [decide_eq_false (show ¬ V.int (e.ev st.regs) = V.int 0 from fun z => c (V.int.inj z))]
    refine iteF (q _ (Bt.refl R H) (show RunAt K _ R (if e.ev st.regs = 0 then { st with place := (p : Int) } else st) from ?_))
    rw [if_neg c]
    exact r
theorem cf_do_on (T : Txt w K mg) : Cf P w K mg base 1 "do_on" ["run", "row"] (spDo K (fun f => ∃ p, f = .on p)) := by
  refine cf_of (N := ["run", "row"]) (ps := ["run", "row"]) T.f_do_on T.g_do_on ⟨rfl, rfl, rfl, by decide +kernel, rfl, by decide +kernel, by decide +kernel⟩ (fun _ _ _ _ _ _ us hl => match us, hl with | [_, _], _ => rfl)
    (fun vs H Q E h => by obtain ⟨R, y, f, st, rfl, r, m, hv, ⟨p, rfl⟩, ok, can, q⟩ := h; rfl) (fun cdv A outer s H vs Q E hr h => ?_)
  have nd : (["run", "row"] : List Str).Nodup := by decide +kernel
  obtain ⟨R, y, f, st, rfl, r, m, hv, ⟨p, rfl⟩, ok, can, q⟩ := h
  refine ⟨_, (pss_one (ps_fld (pv 0) (pe_ix ix_tup (pv 1) pe_int (fun _ _ => rfl)) rfl)), ?_⟩
  obtain ⟨a, x1, x2, rfl, ha, e1, e2⟩ := dp2 hv
  cases dp_int e2
  refine ⟨_, rfl, _, _, _, _, rfl, rfl, ha, at1, ?_⟩
  refine ⟨_, rfl, R.x, _, R.dx, _, rfl, r.ins, T.c_Run, T.n_Run_place, (by show 9 < 1000; decide), ?_⟩
  rw [rf_putP]
  exact q _ (Bt.x But.upd) (r.setX st.fallen p st.res)
theorem cf_do_swap (T : Txt w K mg) : Cf P w K mg base 9 "do_swap" ["run", "row"] (spDo K (fun f => ∃ r k e g, f = .row (.swap r k e g))) := by
  refine cf_of (N := ["run", "row", "cell", "old", "new"]) (ps := ["run", "row"]) T.f_do_swap T.g_do_swap ⟨rfl, rfl, rfl, by decide +kernel, rfl, by decide +kernel, by decide +kernel⟩ (fun _ _ _ _ _ _ us hl => match us, hl with | [_, _], _ => rfl)
    (fun vs H Q E h => by obtain ⟨R, y, f, st, rfl, r, m, hv, ⟨rg, k, e, g, rfl⟩, ok, can, q⟩ := h; rfl) (fun cdv A outer s H vs Q E hr h => ?_)
  have nd : (["run", "row", "cell", "old", "new"] : List Str).Nodup := by decide +kernel
  obtain ⟨R, y, f, st, rfl, r, m, hv, ⟨rg, k, e, g, rfl⟩, ok, can, q⟩ := h
  refine ⟨_, (pss_cons (ps_set (i := 2) nd rfl (.inl rfl) (pe_ix ix_tup (pv 1) pe_int (fun _ _ => rfl)))
      (pss_cons (ps_set (i := 3) nd rfl (.inl rfl) (pe_ca (ca_value_of 7 T) hr (pa_cons (pe_ix ix_tup (pv 1) pe_int (fun _ _ => rfl)) (pa_cons (pe_fld (pv 0) rfl) pa_nil))))
      (pss_cons (ps_set (i := 4) nd rfl (.inl rfl) (pe_ca (ca_value_of 7 T) hr (pa_cons (pe_ix ix_tup (pv 1) pe_int (fun _ _ => rfl)) (pa_cons (pe_fld (pv 0) rfl) pa_nil))))
      (pss_one (ps_if (pt_cmpR op_eq (pe_ix ix_list (pe_fld (pv 0) rfl) (pv 2) (fun _ _ => rfl)) (pv 3) (nomark _)) (pss_cons (ps_asg (pe_op op_mod (pv 4) (pe_ix ix_tup (pe_fld (pv 0) rfl) (pv 2) (fun _ _ => rfl))) (pg_sub (pe_fld (pv 0) rfl) (pv 2) set_list))
      (pss_one (ps_dput (hu_of hr) (pe_fld (pv 0) rfl) (pe_ix ix_tup (pv 1) pe_int (fun _ _ => rfl)) pe_int rfl))) (pss_one (ps_dput (hu_of hr) (pe_fld (pv 0) rfl) (pe_ix ix_tup (pv 1) pe_int (fun _ _ => rfl)) pe_int rfl))))))), ?_⟩
  obtain ⟨a, xs, rfl, ha, hxs⟩ := dp_tup hv
  cases hxs with | cons e1 hxs => cases hxs with | cons e2 hxs => cases hxs with | cons e3 hxs => cases hxs with | cons e4 hxs => cases hxs with | cons e5 hxs => cases hxs with | nil =>
  cases dp_str e2
  cases dp_int e3
  obtain ⟨o0, ⟨o1, o2⟩, ⟨o3, o4⟩, o5, o6⟩ := ok
  have o2' : k < st.sides.length := by rw [m.le]; exact o2
  refine ⟨_, rfl, _, _, _, _, rfl, rfl, ha, at2, ?_⟩
  refine ⟨_, rfl, _, _, _, _, rfl, rfl, ha, at3, _, rfl, R.x, _, R.dx, _, _, rfl, r.ins, T.c_Run, T.n_Run_held, rf_held, _, e, R.h, st.regs, rfl, e4, o3, by omega, r.held, m.rg, ?_⟩
  refine ⟨_, rfl, _, _, _, _, rfl, rfl, ha, at4, _, rfl, R.x, _, R.dx, _, _, rfl, r.ins, T.c_Run, T.n_Run_held, rf_held, _, g, R.h, st.regs, rfl, e5, o5, by omega, r.held, m.rg, ?_⟩
  refine ⟨_, rfl, R.x, _, R.dx, _, _, rfl, r.ins, T.c_Run, T.n_Run_cells, rf_cells, _, rfl, _, _, _, _, rfl, rfl, .of r.cells, atK o1 o2 rfl, ?_⟩
  refine ⟨_, rfl, rfl, _, rfl, ?_⟩
  by_cases c : st.cells.getD k.toNat 0 = e.ev st.regs
  · rw [decide_eq_true (show V.int (st.cells.getD k.toNat 0) = V.int (e.ev st.regs) from congrArg V.int c)]
    refine iteT ?_
    refine ⟨_, rfl, _, rfl, R.x, _, R.dx, _, _, rfl, r.ins, T.c_Run, T.n_Run_sides, rf_sides, _, rfl, _, _, _, _, rfl, rfl, r.sides, atK o1 o2' rfl, _, _, rfl, rfl, ?_, ?_⟩
    · have := m.sd _ (getD_mem (l := st.sides) (i := k.toNat) (d := 0) (by omega))
      show (0 : Int) < _
      omega
    refine ⟨_, rfl, R.x, _, R.dx, _, _, rfl, r.ins, T.c_Run, T.n_Run_cells, rf_cells, _, rfl, R.l, _, _, k.toNat, rfl, rfl, r.cells, by rw [List.length_map]; exact ixK o1 o2, ?_⟩
    rw [setI]
    have rl := r.setL (st.cells.set k.toNat (g.ev st.regs % st.sides.getD k.toNat 0))
    have b := But.upd (H := H) (D := R.l) (o := .lst ((st.cells.set k.toNat (g.ev st.regs % st.sides.getD k.toNat 0)).map .int))
    refine ⟨_, rfl, R.x, _, R.dx, _, _, rfl, rl.ins, T.c_Run, T.n_Run_held, rf_held, _, rfl, _, _, _, _, rfl, rfl, sqT_but (.lst r.cells) b ha, at1, R.h, _, rfl, DPut.k (k := Sum.inr rg) rl.held (by show 5 < sizeLine; decide), ?_⟩
    rw [held_put (in45 o0)]
    refine q _ ((Bt.l b).trans (Bt.h But.upd)) (show RunAt K _ R (if st.cells.getD k.toNat 0 = e.ev st.regs then { st with cells := st.cells.set k.toNat (g.ev st.regs % st.sides.getD k.toNat 0), regs := rset st.regs rg 1 } else { st with regs := rset st.regs rg 0 }) from ?_)
    rw [if_pos c]
    exact rl.setH _
  · rw [decide_eq_false (show ¬ V.int (st.cells.getD k.toNat 0) = V.int (e.ev st.regs) from fun z => c (V.int.inj z))]
    refine iteF ?_
    refine ⟨_, rfl, R.x, _, R.dx, _, _, rfl, r.ins, T.c_Run, T.n_Run_held, rf_held, _, rfl, _, _, _, _, rfl, rfl, ha, at1, R.h, _, rfl, DPut.k (k := Sum.inr rg) r.held (by show 5 < sizeLine; decide), ?_⟩
    rw [held_put (in45 o0)]
    refine q _ (Bt.h But.upd) (show RunAt K _ R (if st.cells.getD k.toNat 0 = e.ev st.regs then { st with cells := st.cells.set k.toNat (g.ev st.regs % st.sides.getD k.toNat 0), regs := rset st.regs rg 1 } else { st with regs := rset st.regs rg 0 }) from ?_)
    rw [if_neg c]
    exact r.setH _
theorem cf_do_rounds (T : Txt w K mg) : Cf P w K mg base 9 "do_rounds" ["run", "row"] (spDo K (fun f => ∃ e, f = .rounds e)) := by
  refine cf_of (N := ["run", "row"]) (ps := ["run", "row"]) T.f_do_rounds T.g_do_rounds ⟨rfl, rfl, rfl, by decide +kernel, rfl, by decide +kernel, by decide +kernel⟩ (fun _ _ _ _ _ _ us hl => match us, hl with | [_, _], _ => rfl)
    (fun vs H Q E h => by obtain ⟨R, y, f, st, rfl, r, m, hv, ⟨e, rfl⟩, ok, can, q⟩ := h; rfl) (fun cdv A outer s H vs Q E hr h => ?_)
  have nd : (["run", "row"] : List Str).Nodup := by decide +kernel
  obtain ⟨R, y, f, st, rfl, r, m, hv, ⟨e, rfl⟩, ok, can, q⟩ := h
  refine ⟨_, (pss_one (ps_expr (pe_bm PySem.F.plainAttrs_list PySem.F.slot_list_append PySem.F.type_list_append mt_append (pe_fld (pv 0) rfl) (pa_cons (pe_ca (ca_value_of 7 T) hr (pa_cons (pe_ix ix_tup (pv 1) pe_int (fun _ _ => rfl)) (pa_cons (pe_fld (pv 0) rfl) pa_nil))) pa_nil)))), ?_⟩
  obtain ⟨a, x1, x2, rfl, ha, e1, e2⟩ := dp2 hv
  obtain ⟨o2, o3⟩ := ok
  have can : st.rounds.length < 9 := can
  refine ⟨_, rfl, R.x, _, R.dx, _, _, rfl, r.ins, T.c_Run, T.n_Run_rounds, rf_rounds, .inl ⟨rfl, _, .of r.rounds⟩, ?_⟩
  refine ⟨_, rfl, _, _, _, _, rfl, rfl, ha, at1, _, rfl, R.x, _, R.dx, _, _, rfl, r.ins, T.c_Run, T.n_Run_held, rf_held, x2, e, R.h, st.regs, rfl, e2, o2, by omega, r.held, m.rg, R.u, _, _, rfl, rfl, r.rounds, by rw [List.length_map, sizeLine_eq]; omega, ?_⟩
  have : (st.rounds.map V.int) ++ [V.int (e.ev st.regs)] = (st.rounds ++ [e.ev st.regs]).map V.int := by rw [List.map_append]; rfl
  rw [this]
  exact q _ (Bt.u But.upd) (r.setU _)
end

end M

set_option Elab.async false
set_option linter.all false
set_option maxRecDepth 100000
set_option maxHeartbeats 2000000
namespace M
open PySem PySem.Spec PyProof.Rows L2

/-- the last item of a list -/
def rLast (K : PySem.W.Frag) : V → V → Hp → VK → Prop := fun o i H Q => ∃ p xs v, o = .ref p ∧ i = .int (-1) ∧ SqL K H p xs ∧ atI xs (-1) = some v ∧ Q v H
theorem get_last {X : Cx} : PGet X (rLast X.K) := by
  intro pins s σ H o i ov iv Q I ro ri h
  obtain ⟨p, xs, z, rfl, rfl, hq, he, q⟩ := h
  cases ro
  obtain ⟨t, rfl⟩ := ri
  obtain ⟨its, r, pl, hz⟩ := I.list hq
  obtain ⟨j, h1, h2, h3, h4, h5⟩ := atI_get he
  obtain ⟨w, ew, rw'⟩ := r.get h2
  have hl := r.length
  have hn := line63
  have hj : ((-1 : Int) + (its.toArray.size : Int)).toNat = j := by
    rw [seqIndex_neg (by omega) h4] at h1
    rw [List.size_toArray, ← hl]
    exact Option.some.inj h1
  exact wpAny_getItem_list_neg pl.isList (by omega) (by rw [List.size_toArray] <;> omega) (by omega) (by rw [hj]; simpa using ew) ⟨z, H, I, rw', q⟩
theorem snoc_of {l : List Int} (h : l ≠ []) : ∃ l0 z, l = l0 ++ [z] := ⟨_, _, (List.dropLast_concat_getLast h).symm⟩
theorem last_at (l : List Int) (z : Int) : atI ((l ++ [z]).map V.int) (-1) = some (.int z) := by
  rw [List.map_append]
  exact atI_last _ _
theorem last_pop (l : List Int) (z : Int) : ((l ++ [z]).map V.int)[((l ++ [z]).map V.int).length - 1]? = some (.int z) := by
  simp
theorem last_drop (l : List Int) (z : Int) : ((l ++ [z]).map V.int).dropLast = l.map V.int := by
  rw [List.map_append]
  exact List.dropLast_concat
theorem last_ix (l : List Int) (z : Int) : ixN ((l ++ [z]).map V.int).length (-1) = some l.length := by
  rw [List.length_map, List.length_append]
  unfold ixN
  rw [if_neg (by decide), if_pos (by simp; omega)]
  congr 1
  simp
  omega
theorem last_set (l : List Int) (z v : Int) : ((l ++ [z]).map V.int).set l.length (.int v) = (l ++ [v]).map V.int := by
  rw [setI]
  congr 1
  rw [List.set_append_right _ _ (Nat.le_refl _)]
  simp
section
variable {P : Program} {w : World} {K : PySem.W.Frag} {mg : Str → Option Value} {base : Heap}
theorem cf_do_round (T : Txt w K mg) : Cf P w K mg base 1 "do_round" ["run", "row"] (spDo K (fun f => ∃ p, f = .round p)) := by
  refine cf_of (N := ["run", "row"]) (ps := ["run", "row"]) T.f_do_round T.g_do_round ⟨rfl, rfl, rfl, by decide +kernel, rfl, by decide +kernel, by decide +kernel⟩ (fun _ _ _ _ _ _ us hl => match us, hl with | [_, _], _ => rfl)
    (fun vs H Q E h => by obtain ⟨R, y, f, st, rfl, r, m, hv, ⟨p, rfl⟩, ok, can, q⟩ := h; rfl) (fun cdv A outer s H vs Q E hr h => ?_)
  have nd : (["run", "row"] : List Str).Nodup := by decide +kernel
  obtain ⟨R, y, f, st, rfl, r, m, hv, ⟨p, rfl⟩, ok, can, q⟩ := h
  refine ⟨_, (pss_one (ps_if (pt_cmpR op_eq (pe_ix ix_list (pe_fld (pv 0) rfl) (pe_un un_neg pe_int) (fun _ _ => rfl)) pe_int (nomark _)) (pss_cons (ps_expr (pe_bm0 PySem.F.plainAttrs_list PySem.F.slot_list_pop PySem.F.type_list_pop mt_pop (pe_fld (pv 0) rfl)))
      (pss_one (ps_fld (pv 0) (pe_ix ix_tup (pv 1) pe_int (fun _ _ => rfl)) rfl))) (pss_one (ps_augS (pe_fld (pv 0) rfl) (pe_un un_neg pe_int) get_last pe_int ip_sub set_list)))), ?_⟩
  obtain ⟨a, x1, x2, rfl, ha, e1, e2⟩ := dp2 hv
  cases dp_int e2
  obtain ⟨l, z, el⟩ := snoc_of (show st.rounds ≠ [] from can)
  have hu := r.rounds
  rw [el] at hu
  have eg : st.rounds.getLast?.getD 0 = z := by rw [el]; simp
  have ed : st.rounds.dropLast = l := by rw [el]; exact List.dropLast_concat
  have q : ∀ (H' : Hp), Bt R H H' → RunAt K H' R (if z = 0 then { st with rounds := l, place := (p : Int) } else { st with rounds := l ++ [z - 1] }) → Q V.non H' := by
    rw [← ed]
    rw [← eg]
    exact q
  refine ⟨_, rfl, R.x, _, R.dx, _, _, rfl, r.ins, T.c_Run, T.n_Run_rounds, rf_rounds, _, rfl, _, _, _, _, rfl, rfl, .of hu, last_at l z, rfl, _, rfl, ?_⟩
  by_cases c : z = 0
  · rw [decide_eq_true (show V.int z = V.int 0 from congrArg V.int c)]
    refine iteT ?_
    refine ⟨_, rfl, R.x, _, R.dx, _, _, rfl, r.ins, T.c_Run, T.n_Run_rounds, rf_rounds, .inl ⟨rfl, _, .of hu⟩, R.u, _, _, rfl, rfl, hu, last_pop l z, ?_⟩
    rw [last_drop]
    have ru := r.setU l
    have b := But.upd (H := H) (D := R.u) (o := .lst (l.map V.int))
    refine ⟨_, rfl, _, _, _, _, rfl, rfl, sqT_but (.lst hu) b ha, at1, ?_⟩
    refine ⟨_, rfl, R.x, _, R.dx, _, rfl, ru.ins, T.c_Run, T.n_Run_place, (by show 9 < 1000; decide), ?_⟩
    rw [rf_putP]
    rw [if_pos c] at q
    exact q _ ((Bt.u b).trans (Bt.x But.upd)) (ru.setX st.fallen p st.res)
  · rw [decide_eq_false (show ¬ V.int z = V.int 0 from fun y => c (V.int.inj y))]
    refine iteF ?_
    refine ⟨_, rfl, R.x, _, R.dx, _, _, rfl, r.ins, T.c_Run, T.n_Run_rounds, rf_rounds, _, rfl, R.u, _, _, rfl, rfl, .of hu, last_at l z, _, _, rfl, rfl, R.u, _, _, _, rfl, rfl, hu, last_ix l z, ?_⟩
    rw [last_set]
    rw [if_neg c] at q
    exact q _ (Bt.u But.upd) (r.setU (l ++ [z - 1]))
theorem cf_do_coin (T : Txt w K mg) : Cf P w K mg base 1 "do_coin" ["run", "row"] (spDo K (fun f => ∃ r, f = .row (.coin r))) := by
  refine cf_of (N := ["run", "row"]) (ps := ["run", "row"]) T.f_do_coin T.g_do_coin ⟨rfl, rfl, rfl, by decide +kernel, rfl, by decide +kernel, by decide +kernel⟩ (fun _ _ _ _ _ _ us hl => match us, hl with | [_, _], _ => rfl)
    (fun vs H Q E h => by obtain ⟨R, y, f, st, rfl, r, m, hv, ⟨rg, rfl⟩, ok, can, q⟩ := h; rfl) (fun cdv A outer s H vs Q E hr h => ?_)
  have nd : (["run", "row"] : List Str).Nodup := by decide +kernel
  obtain ⟨R, y, f, st, rfl, r, m, hv, ⟨rg, rfl⟩, ok, can, q⟩ := h
  refine ⟨_, (pss_cons (ps_if (pt_cmpR op_eq (pe_fld (pv 0) rfl) (pe_callB call_len_seq (by rfl) T.b_len PySem.boot_len (pa_cons (pe_fld (pv 0) rfl) pa_nil)) (nomark _)) (pss_one ps_never) pss_nil)
      (pss_cons (ps_dput (hu_of hr) (pe_fld (pv 0) rfl) (pe_ix ix_tup (pv 1) pe_int (fun _ _ => rfl)) (pe_ix ix_seq (pe_fld (pv 0) rfl) (pe_fld (pv 0) rfl) (fun _ _ => rfl)) rfl)
      (pss_one (ps_fldaug (pv 0) pe_int in_add)))), ?_⟩
  obtain ⟨a, x1, x2, rfl, ha, e1, e2⟩ := dp2 hv
  cases dp_str e2
  have can : 0 ≤ st.fallen ∧ st.fallen < st.coins.length := can
  have cl : SqL K H R.n (st.coins.map V.int) ∨ SqT K H R.n (st.coins.map V.int) := r.coins.seq
  refine ⟨_, rfl, R.x, _, R.dx, _, _, rfl, r.ins, T.c_Run, T.n_Run_fallen, rf_fallen, _, rfl, R.x, _, R.dx, _, _, rfl, r.ins, T.c_Run, T.n_Run_coins, rf_coins, _, _, rfl, cl, rfl, _, rfl, ?_⟩
  rw [decide_eq_false (show ¬ V.int st.fallen = V.int ((st.coins.map V.int).length : Nat) from fun z => by have := V.int.inj z; rw [List.length_map] at this; omega)]
  refine iteF ?_
  refine ⟨_, rfl, R.x, _, R.dx, _, _, rfl, r.ins, T.c_Run, T.n_Run_coins, rf_coins, _, rfl, R.x, _, R.dx, _, _, rfl, r.ins, T.c_Run, T.n_Run_fallen, rf_fallen, ?_⟩
  have ri : ∀ G : VK, G (.int (st.coins.getD st.fallen.toNat 0)) H → rIx K (.ref R.n) (.int st.fallen) H G := fun G g => cl.elim (fun h => .inl ⟨R.n, _, st.fallen, _, rfl, rfl, h, atK can.1 can.2 rfl, g⟩) (fun h => .inr (.inl ⟨R.n, _, st.fallen, _, rfl, rfl, h, atK can.1 can.2 rfl, g⟩))
  refine ri _ ?_
  refine ⟨_, rfl, R.x, _, R.dx, _, _, rfl, r.ins, T.c_Run, T.n_Run_held, rf_held, _, rfl, _, _, _, _, rfl, rfl, ha, at1, R.h, _, rfl, DPut.k (k := Sum.inr rg) r.held (by show 5 < sizeLine; decide), ?_⟩
  rw [held_put (in45 ok)]
  have rh := r.setH (rset st.regs rg (st.coins.getD st.fallen.toNat 0))
  have b := But.upd (H := H) (D := R.h) (o := .dK (heldK (rset st.regs rg (st.coins.getD st.fallen.toNat 0))))
  refine ⟨_, rfl, R.x, _, R.dx, _, _, rfl, rh.ins, T.c_Run, T.n_Run_fallen, rf_fallen, _, _, rfl, rfl, _, _, rh.ins, (by show 9 < 1000; decide), ?_⟩
  rw [rf_putF]
  exact q _ ((Bt.h b).trans (Bt.x But.upd)) (rh.setX (st.fallen + 1) st.place st.res)
end

end M

set_option Elab.async false
set_option linter.all false
set_option maxRecDepth 100000
set_option maxHeartbeats 2000000
namespace M
open PySem PySem.Spec PyProof.Rows L2

/-! ### the rows are done, one by one -/
inductive Fin : Nat → Mst → Mst → Prop
  | stop {st : Mst} {v : Int} (h : st.res = some v) : Fin 0 st st
  | step {st st' : Mst} {f : FR} {n : Nat} (h : st.res = none) (h0 : 0 ≤ st.place) (hf : st.code[st.place.toNat]? = some f) (c : Can f { st with place := st.place + 1 }) (r : Fin n (stp1 f { st with place := st.place + 1 }) st') : Fin (n + 1) st st'
theorem MOk.at {st : Mst} (m : MOk st) (p : Int) : MOk { st with place := p } := ⟨m.rg, m.cl, m.sd, m.le, m.l6, m.fd, m.co⟩
theorem MOk.reg {st : Mst} (m : MOk st) {r : Str} {i : Int} (h : 0 ≤ i ∧ i ≤ 9) : MOk { st with regs := rset st.regs r i } := ⟨rset_ok m.rg h, m.cl, m.sd, m.le, m.l6, m.fd, m.co⟩
theorem MOk.cell {st : Mst} (m : MOk st) {k : Int} {v : Int} (h0 : 0 ≤ k) (hk : k < st.cells.length) : MOk { st with cells := st.cells.set k.toNat (v % st.sides.getD k.toNat 0) } := by
  have s := m.sd _ (getD_mem (l := st.sides) (i := k.toNat) (d := 0) (by rw [m.le]; omega))
  refine ⟨m.rg, fun c hc => ?_, m.sd, by show _ = (st.cells.set _ _).length; rw [List.length_set]; exact m.le, by show (st.cells.set _ _).length ≤ 6; rw [List.length_set]; exact m.l6, fun f hf => by show FOk (st.cells.set _ _).length f; rw [List.length_set]; exact m.fd f hf, m.co⟩
  rcases List.mem_or_eq_of_mem_set hc with h | h
  · exact m.cl c h
  · have a := Int.emod_nonneg v (show st.sides.getD k.toNat 0 ≠ 0 by omega)
    have b := Int.emod_lt_of_pos v (show 0 < st.sides.getD k.toNat 0 by omega)
    omega
theorem MOk.step {st : Mst} {f : FR} (m : MOk st) (h : FOk st.cells.length f) (c : Can f st) : MOk (stp1 f st) := by
  cases f with
  | row r =>
    cases r with
    | read r k =>
      have := m.cl _ (getD_mem (l := st.cells) (i := k.toNat) (d := 0) (by have := h.2; omega))
      exact m.reg ⟨this.1, by omega⟩
    | set k e => exact m.cell h.1.1 h.1.2
    | swap r k e g =>
      show MOk (if st.cells.getD k.toNat 0 = e.ev st.regs then { st with cells := st.cells.set k.toNat (g.ev st.regs % st.sides.getD k.toNat 0), regs := rset st.regs r 1 } else { st with regs := rset st.regs r 0 })
      split
      · exact (m.cell h.2.1.1 h.2.1.2).reg (by decide)
      · exact m.reg (by decide)
    | keep r e => exact m.reg (ev_bd m.rg h.2.1)
    | coin r =>
      have c : 0 ≤ st.fallen ∧ st.fallen < st.coins.length := c
      have := m.co _ (getD_mem (l := st.coins) (i := st.fallen.toNat) (d := 0) (by omega))
      have z := m.reg (r := r) (i := st.coins.getD st.fallen.toNat 0) ⟨this.1, by omega⟩
      exact ⟨z.rg, z.cl, z.sd, z.le, z.l6, z.fd, z.co⟩
    | iff e a b => exact h.elim
    | times e a => exact h.elim
    | ans e => exact ⟨m.rg, m.cl, m.sd, m.le, m.l6, m.fd, m.co⟩
  | «unless» e p =>
    show MOk (if e.ev st.regs = 0 then { st with place := p } else st)
    split
    · exact m.at p
    · exact m
  | on p => exact m.at p
  | rounds e => exact ⟨m.rg, m.cl, m.sd, m.le, m.l6, m.fd, m.co⟩
  | round p =>
    show MOk (if st.rounds.getLast?.getD 0 = 0 then { st with rounds := st.rounds.dropLast, place := p } else { st with rounds := st.rounds.dropLast ++ [st.rounds.getLast?.getD 0 - 1] })
    split
    · exact ⟨m.rg, m.cl, m.sd, m.le, m.l6, m.fd, m.co⟩
    · exact ⟨m.rg, m.cl, m.sd, m.le, m.l6, m.fd, m.co⟩
  | hole => exact h.elim
theorem stp1_code (f : FR) (st : Mst) : (stp1 f st).code = st.code := by
  cases f with
  | row r =>
    cases r with
    | swap r k e g =>
      show (if st.cells.getD k.toNat 0 = e.ev st.regs then { st with cells := st.cells.set k.toNat (g.ev st.regs % st.sides.getD k.toNat 0), regs := rset st.regs r 1 } else { st with regs := rset st.regs r 0 } : Mst).code = _
      split <;> rfl
    | _ => rfl
  | «unless» e p =>
    show (if e.ev st.regs = 0 then { st with place := p } else st : Mst).code = _
    split <;> rfl
  | round p =>
    show (if st.rounds.getLast?.getD 0 = 0 then { st with rounds := st.rounds.dropLast, place := p } else { st with rounds := st.rounds.dropLast ++ [st.rounds.getLast?.getD 0 - 1] } : Mst).code = _
    split <;> rfl
  | _ => rfl
section
variable {P : Program} {w : World} {K : PySem.W.Frag} {mg : Str → Option Value} {base : Heap}
/-- the def at f keeps sp, as an action -/
def GoodA (P : Program) (w : World) (K : PySem.W.Frag) (mg : Str → Option Value) (base : Heap) (k : Nat) (f : Addr) (sp : Sp) : Prop :=
  ∃ (fd : FuncData) (oc : Value) (od : Option Addr) (osl : Array (Option Value)), K.lookup f = some ⟨oc, od, .func fd, osl⟩ ∧ FnOk P w K mg base CX0 k f fd ["run", "row"] sp ∧ PySem.W.keepIn K (.ref f) = true ∧ Binds K fd ["run", "row"] []
def spU (P : Program) (w : World) (K : PySem.W.Frag) (mg : Str → Option Value) (base : Heap) (k : Nat) (f : Addr) : Sp := fun vs H Q E => ∃ sp, GoodA P w K mg base k f sp ∧ sp vs H Q E
open Classical in
noncomputable def SA (P : Program) (w : World) (K : PySem.W.Frag) (mg : Str → Option Value) (base : Heap) (k : Nat) (f : Addr) : Option Sp := if ∃ sp, GoodA P w K mg base k f sp then some (spU P w K mg base k f) else none
theorem sa_held {k : Nat} : ∀ f sp, SA P w K mg base k f = some sp → Held P w K mg base k f sp := by
  intro f sp h
  unfold SA at h
  split at h
  · rename_i g
    cases (Option.some.inj h)
    obtain ⟨sp0, fd, oc, od, osl, lk, F, kp, b⟩ := g
    refine ⟨fd, ["run", "row"], ⟨fun vs H Q E q => ?_, fun A outer s H args us vs Q E hr he hb hv q => ?_⟩, kp, b⟩
    · obtain ⟨sp1, ⟨fd1, _, _, _, lk1, F1, _⟩, q⟩ := q
      exact F1.len vs H Q E q
    · obtain ⟨sp1, ⟨fd1, _, _, _, lk1, F1, _⟩, q⟩ := q
      have e : fd1 = fd := by
        rw [lk] at lk1
        cases lk1
        rfl
      subst e
      exact F1.run A outer s H args us vs Q E hr he hb hv q
  · cases h
theorem sa_some {k : Nat} {x : Str} {sp : Sp} (c : Cf P w K mg base k x ["run", "row"] sp) : SA P w K mg base k (He.ga K x) = some (spU P w K mg base k (He.ga K x)) := if_pos ⟨sp, c.ex⟩
def acts : List (Str × He.Dv) := [("read", .glo "do_read"), ("set", .glo "do_set"), ("swap", .glo "do_swap"), ("keep", .glo "do_keep"), ("coin", .glo "do_coin"), ("answer", .glo "do_answer"), ("unless", .glo "do_unless"), ("on", .glo "do_on"), ("rounds", .glo "do_rounds"), ("round", .glo "do_round")]
theorem do_ok (T : Txt w K mg) {n : Nat} {f : FR} (h : FOk n f) : ∃ (wd nm : Str) (p : FR → Prop), f.hd = some wd ∧ (wd, He.Dv.glo nm) ∈ acts ∧ p f ∧ Cf P w K mg base 9 nm ["run", "row"] (spDo K p) := by
  cases f with
  | row r =>
    cases r with
    | read r k => exact ⟨_, "do_read", _, rfl, by simp [acts, Row.word], ⟨r, k, rfl⟩, (cf_do_read T).mono (by decide)⟩
    | set k e => exact ⟨_, "do_set", _, rfl, by simp [acts, Row.word], ⟨k, e, rfl⟩, cf_do_set T⟩
    | swap r k e g => exact ⟨_, "do_swap", _, rfl, by simp [acts, Row.word], ⟨r, k, e, g, rfl⟩, cf_do_swap T⟩
    | keep r e => exact ⟨_, "do_keep", _, rfl, by simp [acts, Row.word], ⟨r, e, rfl⟩, cf_do_keep T⟩
    | coin r => exact ⟨_, "do_coin", _, rfl, by simp [acts, Row.word], ⟨r, rfl⟩, (cf_do_coin T).mono (by decide)⟩
    | iff e a b => exact h.elim
    | times e a => exact h.elim
    | ans e => exact ⟨_, "do_answer", _, rfl, by simp [acts, Row.word], ⟨e, rfl⟩, cf_do_answer T⟩
  | «unless» e p => exact ⟨_, "do_unless", _, rfl, by simp [acts], ⟨e, p, rfl⟩, cf_do_unless T⟩
  | on p => exact ⟨_, "do_on", _, rfl, by simp [acts], ⟨p, rfl⟩, (cf_do_on T).mono (by decide)⟩
  | rounds e => exact ⟨_, "do_rounds", _, rfl, by simp [acts], ⟨e, rfl⟩, cf_do_rounds T⟩
  | round p => exact ⟨_, "do_round", _, rfl, by simp [acts], ⟨p, rfl⟩, (cf_do_round T).mono (by decide)⟩
  | hole => exact h.elim
theorem act_at (T : Txt w K mg) {wd nm : Str} (h : (wd, He.Dv.glo nm) ∈ acts) : KDct K w (He.ga K "ACTIONS") wd (.ref (He.ga K nm)) := by
  obtain ⟨es, n, D⟩ := T.t_ACTIONS
  obtain ⟨u, e, r⟩ := He.valsB_ok T.e_ACTIONS h
  exact ⟨es, n, u, D.at_, D.lit, e, r⟩
def spFinish (K : PySem.W.Frag) : Sp := fun vs H Q _ => ∃ (R : RA) (st st' : Mst) (n : Nat), vs = [.ref R.x] ∧ RunAt K H R st ∧ MOk st ∧ Fin n st st' ∧ ∀ H', Bt R H H' → RunAt K H' R st' → Q .non H'
theorem ca_finish (T : Txt w K mg) : Ca P w K mg base 10 "finish" (spFinish K) := by
  refine ca_of (N := ["run", "code", "row", "action"]) (ps := ["run"]) T.f_finish T.g_finish ⟨rfl, rfl, rfl, by decide +kernel, rfl, by decide +kernel, by decide +kernel⟩ (fun _ _ _ _ _ _ us hl => match us, hl with | [_], _ => rfl)
    (fun vs H Q E h => by obtain ⟨R, st, st', n, rfl, r, m, fin, q⟩ := h; rfl) (fun cdv A outer s H vs Q E hr h => ?_)
  have nd : (["run", "code", "row", "action"] : List Str).Nodup := by decide +kernel
  obtain ⟨R, st, st', n, rfl, r, m, fin, q⟩ := h
  refine ⟨_, (pss_cons (ps_set (i := 1) nd rfl (.inl rfl) (pe_fld (pv 0) rfl))
      (pss_one (ps_while PassesOwn.never (pt_cmp (pc_isN (pe_fld (pv 0) rfl))) (pss_cons (ps_set (i := 2) nd rfl (.inl rfl) (pe_ix ix_tup (pv 1) (pe_fld (pv 0) rfl) (fun _ _ => rfl)))
      (pss_cons (ps_fldaug (pv 0) pe_int in_add)
      (pss_cons (ps_set (i := 3) nd rfl (.inl rfl) (pe_ix ix_kdict (pe_gr T.g_ACTIONS) (pe_ix ix_tup (pv 2) pe_int (fun _ _ => rfl)) (fun _ _ => rfl)))
      (pss_one (ps_expr (pe_callA (i := 3) sa_held hr rfl (.inl rfl) (pa_cons (pv 0) (pa_cons (pv 2) pa_nil))))))))))), ?_⟩
  refine ⟨_, rfl, R.x, _, R.dx, _, _, rfl, r.ins, T.c_Run, T.n_Run_code, rf_code, ?_⟩
  refine ⟨fun i σ' H' => ∃ (st1 : Mst) (x y : Option V), σ' = [some (.ref R.x), some (.ref R.c), x, y] ∧ Fin i st1 st' ∧ RunAt K H' R st1 ∧ MOk st1 ∧ Bt R H H', ⟨n, st, none, none, rfl, fin, r, m, Bt.refl R H⟩, ?_⟩
  rintro i σ' H' ⟨st1, x, y, rfl, fin1, r1, m1, bt⟩
  refine ⟨_, rfl, R.x, _, R.dx, _, _, rfl, r1.ins, T.c_Run, T.n_Run_result, rf_result, ?_⟩
  cases fin1 with
  | stop h =>
    rw [h]
    exact ⟨_, rfl, iteF (q H' bt r1)⟩
  | @step _ _ f j h h0 hf c rest =>
    rw [h]
    refine ⟨_, rfl, iteT ?_⟩
    have hfok := m1.fd f (List.mem_of_getElem? hf)
    refine ⟨fun σ2 H2 => ∃ (st1 : Mst) (x y : Option V), σ2 = [some (.ref R.x), some (.ref R.c), x, y] ∧ Fin j st1 st' ∧ RunAt K H2 R st1 ∧ MOk st1 ∧ Bt R H H2, fun σ2 H2 h2 => ⟨j, Nat.lt_succ_self _, h2⟩, ?_⟩
    obtain ⟨a, xs, ea, ha, hxs⟩ := dp_tup r1.code
    cases ea
    obtain ⟨y0, hy0, dy0⟩ := dps_at (i := st1.place.toNat) hxs (d := f.d) (by rw [List.getElem?_map, hf]; rfl)
    have ep : ((st1.place.toNat : Nat) : Int) = st1.place := Int.toNat_of_nonneg h0
    have hat : atI xs st1.place = some y0 := by
      have := atI_nat hy0
      rw [ep] at this
      exact this
    refine ⟨_, rfl, _, rfl, R.x, _, R.dx, _, _, rfl, r1.ins, T.c_Run, T.n_Run_place, rf_place, _, _, _, _, rfl, rfl, ha, hat, ?_⟩
    refine ⟨_, rfl, R.x, _, R.dx, _, _, rfl, r1.ins, T.c_Run, T.n_Run_place, rf_place, _, _, rfl, rfl, _, _, r1.ins, (by show 9 < 1000; decide), ?_⟩
    rw [rf_putP]
    have r2 := r1.setX st1.fallen (st1.place + 1) st1.res
    have b2 := But.upd (H := H') (D := R.x) (o := .ins (He.ga K "Run") R.dx (rf R.c R.s R.l R.n st1.fallen R.h R.u (st1.place + 1) (resV st1.res)))
    generalize upd H' R.x (.ins (He.ga K "Run") R.dx (rf R.c R.s R.l R.n st1.fallen R.h R.u (st1.place + 1) (resV st1.res))) = H2 at r2 b2
    have dy2 := dp_but (.ins r1.ins) b2 dy0 f.noL
    obtain ⟨wd, nm, p, hw, hin, hp, cf⟩ := do_ok T hfok
    have dy3 := dy2
    rw [fr_d hw] at dy3
    obtain ⟨rb, zs, rfl, hrb, hzs⟩ := dp_tup dy3
    obtain ⟨z0, zr, rfl, hz0⟩ : ∃ z0 zr, zs = z0 :: zr ∧ Dp K H2 z0 (.str wd) := by
      cases hzs with | cons h1 h2 => exact ⟨_, _, rfl, h1⟩
    cases dp_str hz0
    refine ⟨_, rfl, _, _, _, _, rfl, rfl, hrb, at0, _, _, _, rfl, rfl, act_at T hin, ?_⟩
    refine ⟨_, _, rfl, sa_some cf, _, rfl, _, rfl, spDo K p, cf.ex, R, .ref rb, f, { st1 with place := st1.place + 1 }, rfl, r2, m1.at _, dy2, hp, hfok, c, fun H3 b3 r3 => ?_⟩
    exact ⟨_, _, _, rfl, rest, r3, (m1.at _).step hfok c, (bt.trans (Bt.x b2)).trans b3⟩
end

end M

set_option Elab.async false
set_option linter.all false
set_option maxRecDepth 100000
set_option maxHeartbeats 2000000
namespace M
open PySem PySem.Spec PyProof.Rows L2

/-! ### the steps told -/
def cellsD (st : Mst) : PyData := .tuple (st.cells.map PyData.int)
def tell : FR → Mst → List PyData
  | .row (.set k _), st => [.tuple [.str "set", .int k, .int (st.cells.getD k.toNat 0), cellsD st]]
  | .row (.read r k), st => [.tuple [.str "read", .int k, .int (st.regs r), cellsD st]]
  | .row (.swap r k _ _), st => [.tuple [.str "swap", .int k, .int (st.regs r), cellsD st]]
  | _, _ => []
inductive FinT : Nat → Mst → Mst → List PyData → Prop
  | stop {st : Mst} {v : Int} (h : st.res = some v) : FinT 0 st st []
  | step {st st' : Mst} {f : FR} {n : Nat} {tr : List PyData} (h : st.res = none) (h0 : 0 ≤ st.place) (hf : st.code[st.place.toNat]? = some f) (c : Can f { st with place := st.place + 1 }) (r : FinT n (stp1 f { st with place := st.place + 1 }) st' tr) : FinT (n + 1) st st' (tell f (stp1 f { st with place := st.place + 1 }) ++ tr)
theorem FinT.fin {n : Nat} {st st' : Mst} {tr : List PyData} (h : FinT n st st' tr) : Fin n st st' := by
  induction h with
  | stop h => exact .stop h
  | step h h0 hf c _ ih => exact .step h h0 hf c ih
theorem cellsD_noL (st : Mst) : NoL (cellsD st) := .tup fun d h => by
  obtain ⟨i, _, rfl⟩ := List.mem_map.mp h
  exact .int i
theorem four_noL (a : Str) (b c : Int) (st : Mst) : NoL (.tuple [.str a, .int b, .int c, cellsD st]) := .tup fun d h => by
  simp at h
  rcases h with rfl | rfl | rfl | rfl
  · exact .str _
  · exact .int _
  · exact .int _
  · exact cellsD_noL st
theorem tell_noL : ∀ (f : FR) (st : Mst), ∀ d ∈ tell f st, NoL d := by
  intro f st d h
  cases f with
  | row r => cases r <;> simp [tell] at h <;> subst h <;> exact four_noL ..
  | _ => cases h
section
variable {K : PySem.W.Frag} {H H' : Hp} {R : RA} {st : Mst}
theorem sqT_bt (r : RunAt K H R st) (b : Bt R H H') {a : Addr} {xs : List V} (h : SqT K H a xs) : SqT K H' a xs := by
  rcases h with (h | ⟨o, h⟩) | h
  · exact .inl (.inl (b _ _ (ne_ho h r.ins fun e => nomatch e) (ne_ho h r.cells fun e => nomatch e) (ne_ho h r.held fun e => nomatch e) (ne_ho h r.rounds fun e => nomatch e) h))
  · exact .inl (.inr ⟨o, b _ _ (ne_ho h r.ins fun e => nomatch e) (ne_ho h r.cells fun e => nomatch e) (ne_ho h r.held fun e => nomatch e) (ne_ho h r.rounds fun e => nomatch e) h⟩)
  · exact .inr h
mutual
theorem dp_bt (r : RunAt K H R st) (b : Bt R H H') : ∀ {v : V} {d : PyData}, Dp K H v d → NoL d → Dp K H' v d
  | _, _, .non, _ => .non
  | _, _, .bl b, _ => .bl b
  | _, _, .int i, _ => .int i
  | _, _, .str x, _ => .str x
  | _, _, .lst _ _, n => nomatch n
  | _, _, .tup h t, n => .tup (sqT_bt r b h) (dps_bt r b t (by cases n with | tup h => exact h))
theorem dps_bt (r : RunAt K H R st) (b : Bt R H H') : ∀ {vs : List V} {ds : List PyData}, DpAll K H vs ds → (∀ d ∈ ds, NoL d) → DpAll K H' vs ds
  | _, _, .nil, _ => .nil
  | _, _, .cons h t, n => .cons (dp_bt r b h (n _ List.mem_cons_self)) (dps_bt r b t fun d hd => n d (List.mem_cons_of_mem _ hd))
end
end

end M

set_option Elab.async false
set_option linter.all false
set_option maxRecDepth 100000
set_option maxHeartbeats 2000000
namespace M
open PySem PySem.Spec PyProof.Rows L2

section
variable {n : Nat}
/-- each row is fit, or a hole -/
def Fit (n : Nat) (c : List FR) : Prop := ∀ f ∈ c, f = .hole ∨ FOk n f
theorem Fit.snoc {c : List FR} {g : FR} (hc : Fit n c) (hg : g = .hole ∨ FOk n g) : Fit n (c ++ [g]) := fun f hf => by
  rcases List.mem_append.mp hf with h | h
  · exact hc f h
  · rw [List.mem_singleton.mp h]
    exact hg
theorem Fit.set {c : List FR} {g : FR} {i : Nat} (hc : Fit n c) (hg : g = .hole ∨ FOk n g) : Fit n (c.set i g) := fun f hf => by
  rcases List.mem_or_eq_of_mem_set hf with h | h
  · exact hc f h
  · rw [h]
    exact hg
mutual
theorem putRow_fit : ∀ (r : Row) {c : List FR} {deep loops : Nat}, Fit n c → r.ok n deep loops → Fit n (putRow r c)
  | .read r k, c, _, _, hc, h => hc.snoc (.inr h)
  | .set k e, c, _, _, hc, h => hc.snoc (.inr h)
  | .swap r k e f, c, _, _, hc, h => hc.snoc (.inr h)
  | .keep r e, c, _, _, hc, h => hc.snoc (.inr h)
  | .coin r, c, _, _, hc, h => hc.snoc (.inr h.1)
  | .ans e, c, _, _, hc, h => hc.snoc (.inr h)
  | .iff e a b, c, _, _, hc, h => by
    have z1 := (putRows_fit a (hc.snoc (.inl rfl)) h.2.1).snoc (g := FR.hole) (.inl rfl)
    have z2 := putRows_fit b (z1.set (g := FR.unless e ((putRows a (c ++ [FR.hole])).length + 1)) (i := c.length) (.inr h.1)) h.2.2
    exact z2.set (g := FR.on _) (.inr trivial)
  | .times e a, c, deep, loops, hc, h => by
    have z : Fit n (c ++ [FR.rounds e, FR.hole]) := by
      have := (hc.snoc (g := FR.rounds e) (.inr h.1)).snoc (g := FR.hole) (.inl rfl)
      rw [List.append_assoc] at this
      exact this
    exact ((putRows_fit a z h.2.2).snoc (g := FR.on _) (.inr trivial)).set (g := FR.round _) (.inr trivial)
theorem putRows_fit : ∀ (rs : List Row) {c : List FR} {deep loops : Nat}, Fit n c → rowsOk n deep loops rs → Fit n (putRows rs c)
  | [], c, _, _, hc, _ => hc
  | r :: rs, c, _, _, hc, h => putRows_fit rs (putRow_fit r hc h.2.1) h.2.2
end
theorem code_fok {rs : List Row} {deep loops : Nat} (h : rowsOk n deep loops rs) : ∀ f ∈ codeOf rs, FOk n f := fun f hf => by
  have z : Fit n (codeOf rs) := (putRows_fit rs (fun _ h => by cases h) h).snoc (.inr ⟨⟨by decide, by decide⟩, by show 0 ≤ 6; decide⟩)
  rcases z f hf with e | e
  · obtain ⟨s, hs⟩ := code_hd hf
    rw [e] at hs
    cases hs
  · exact e
end
/-- a call from a state of the vault begins well -/
theorem mst0_ok {v : Vlt} {d : Str × Int × List Row} {hs fs : List Int} {a : Int} (g : VGood v) (hd : d ∈ v.deeds) (so : StateOk (v.cells.map (·.1)) hs) (ha : 0 ≤ a ∧ a ≤ 9) (hf : ∀ f ∈ fs, 0 ≤ f ∧ f ≤ 1) : MOk (mst0 (codeOf d.2.2) (v.cells.map (·.1)) hs fs a) := by
  have lh : v.cells.length = hs.length := by have := so.1; rw [List.length_map] at this; exact this
  refine ⟨fun s _ => ?_, fun c hc => ?_, fun s hs => ?_, so.1, ?_, fun f hf => ?_, hf⟩
  · show 0 ≤ r0 a s ∧ r0 a s ≤ 9
    unfold r0
    split
    · exact ha
    · decide
  · have hc : c ∈ hs := hc
    obtain ⟨i, hi, e⟩ := List.mem_iff_getElem.mp hc
    have hi' : i < v.cells.length := by omega
    have ok := g.cs _ (List.getElem_mem hi')
    have := so.2 i _ c (by rw [List.getElem?_map, List.getElem?_eq_getElem hi']; rfl) (by rw [List.getElem?_eq_getElem hi, e])
    have h9 : v.cells[i].1 ≤ 9 := ok.2.1
    have h8 : 0 ≤ c ∧ c < v.cells[i].1 := this
    omega
  · obtain ⟨c, hc, rfl⟩ := List.mem_map.mp hs
    exact ⟨(g.cs c hc).1, (g.cs c hc).2.1⟩
  · show hs.length ≤ 6
    have := g.c1
    omega
  · show FOk hs.length f
    rw [← lh]
    exact code_fok (g.ds d hd).2.2.1 f hf
theorem none_of {H H' : Hp} {x : Addr} (s : Same H H') (h : H' x = none) : H x = none := by
  cases e : H x with
  | none => rfl
  | some o => rw [s _ _ e] at h; cases h
theorem deed_eq {v : Vlt} (n : (v.deeds.map (·.1)).Nodup) {d e : Str × Int × List Row} (hd : d ∈ v.deeds) (he : e ∈ v.deeds) (h : d.1 = e.1) : d = e := by
  obtain ⟨i, hi, ei⟩ := List.mem_iff_getElem.mp hd
  obtain ⟨j, hj, ej⟩ := List.mem_iff_getElem.mp he
  have := nd_ixG n (x := d.1) (i := i) (j := j) (by rw [List.getElem?_map, List.getElem?_eq_getElem hi, ei]; rfl) (by rw [List.getElem?_map, List.getElem?_eq_getElem hj, ej, h]; rfl)
  subst this
  exact ei.symm.trans ej
section
variable {P : Program} {w : World} {K : PySem.W.Frag} {mg : Str → Option Value} {base : Heap}
def spStartOf (K : PySem.W.Frag) : Sp := fun vs H Q _ => ∃ (p t : Addr) (v : Vlt) (i : Nat) (c : Str × Int), vs = [.ref p, .ref t] ∧ VaultAt K H p v ∧ VOk v ∧ H t = some (.tup [.str c.1, .int c.2]) ∧ v.calls[i]? = some c ∧ ∀ (y : V) (H' : Hp), Same H H' → StartAt K H' v c y → Q y H'
/-- the run of a call, at its beginning -/
def RunNew (K : PySem.W.Frag) (H H' : Hp) (R : RA) (st : Mst) : Prop := Same H H' ∧ RunAt K H' R st ∧ H R.x = none ∧ H R.l = none ∧ H R.h = none ∧ H R.u = none
structure CallIs (K : PySem.W.Frag) (H : Hp) (p b t f : Addr) (v : Vlt) (hs fs : List Int) (d : Str × Int × List Row) (a : Int) : Prop where
  vt : VaultAt K H p v
  gd : VGood v
  st : SqT K H b (hs.map .int)
  so : StateOk (v.cells.map (·.1)) hs
  tu : H t = some (.tup [.str d.1, .int a])
  de : d ∈ v.deeds
  ar : 0 ≤ a ∧ a < d.2.1
  fl : SqL K H f (fs.map .int)
  f4 : fs.length ≤ 4
  f1 : ∀ f ∈ fs, 0 ≤ f ∧ f ≤ 1
theorem CallIs.call {H : Hp} {p b t f : Addr} {v : Vlt} {hs fs : List Int} {d : Str × Int × List Row} {a : Int} (c : CallIs K H p b t f v hs fs d a) : ∃ i : Nat, v.calls[i]? = some (d.1, a) := by
  have : (d.1, a) ∈ v.calls := by
    unfold Vlt.calls
    refine List.mem_flatMap.mpr ⟨d, c.de, List.mem_map.mpr ⟨a.toNat, List.mem_range.mpr ?_, ?_⟩⟩
    · have := c.ar
      omega
    · exact Prod.ext rfl (Int.toNat_of_nonneg c.ar.1)
  obtain ⟨i, hi, e⟩ := List.mem_iff_getElem.mp this
  exact ⟨i, by rw [List.getElem?_eq_getElem hi, e]⟩
theorem CallIs.mok {H : Hp} {p b t f : Addr} {v : Vlt} {hs fs : List Int} {d : Str × Int × List Row} {a : Int} (c : CallIs K H p b t f v hs fs d a) : MOk (mst0 (codeOf d.2.2) (v.cells.map (·.1)) hs fs a) :=
  mst0_ok c.gd c.de c.so ⟨c.ar.1, by have := c.ar.2; have := (c.gd.ds d c.de).2.1.2; omega⟩ c.f1
def spRunOf (K : PySem.W.Frag) : Sp := fun vs H Q _ => ∃ (p b t f : Addr) (v : Vlt) (hs fs : List Int) (d : Str × Int × List Row) (a : Int), vs = [.ref p, .ref b, .ref t, .ref f] ∧ CallIs K H p b t f v hs fs d a ∧
  ∀ (R : RA) (H' : Hp), RunNew K H H' R (mst0 (codeOf d.2.2) (v.cells.map (·.1)) hs fs a) → Q (.ref R.x) H'
theorem RunNew.fin {H H1 H2 : Hp} {R : RA} {st : Mst} (n : RunNew K H H1 R st) (b : Bt R H1 H2) : Same H H2 := fun a o e => by
  obtain ⟨s, _, nx, nl, nh, nu⟩ := n
  exact b a o (ne_of_none e nx) (ne_of_none e nl) (ne_of_none e nh) (ne_of_none e nu) (s _ _ e)
def spCalled (K : PySem.W.Frag) : Sp := fun vs H Q _ => ∃ (p b t f : Addr) (v : Vlt) (hs fs : List Int) (d : Str × Int × List Row) (a : Int) (n : Nat) (st' : Mst) (r : Int), vs = [.ref p, .ref b, .ref t, .ref f] ∧ CallIs K H p b t f v hs fs d a ∧
  Fin n (mst0 (codeOf d.2.2) (v.cells.map (·.1)) hs fs a) st' ∧ st'.res = some r ∧ ∀ (z : Addr) (H' : Hp), Same H H' → H z = none → Dp K H' (.ref z) (.tuple [.int r, cellsD st']) → Q (.ref z) H'
end

end M

set_option Elab.async false
set_option linter.all false
set_option maxRecDepth 100000
set_option maxHeartbeats 2000000
namespace M
open PySem PySem.Spec PyProof.Rows L2

/-! ### list(zip(a, b)) of two tuples: the zip's own tuple is held by the list -/
section
variable {prog : Program} {w : World} {A : Around} {E : Value → Shared → Prop} {s : Shared} {z TI TO T i1 i2 l1 l2 : Addr} {f : Bool} {oT : Obj} {k1 k2 : Nat} {xs ys : Array Value}
/-- the two items of the next pair, the tuple that was given out being kept by somebody -/
theorem zt_go {x y : Value} {R : Value → Shared → Prop} (D : ZipApart z TI TO i1 i2 l1 l2) (hz : IsZipHeld s.heap z TI TO T f) (hT : s.heap.get? T = some oT) (hI : IsPair s.heap TI (.ref i1) (.ref i2))
    (h1 : s.heap.IsTupleIter i1 l1 k1) (h2 : s.heap.IsTupleIter i2 l2 k2) (t1 : s.heap.IsTuple l1 xs) (t2 : s.heap.IsTuple l2 ys) (hx : xs[k1]? = some x) (hy : ys[k2]? = some y)
    (k : ∀ g, IsZipHeld g z TI TO T true → g.IsTupleIter i1 l1 (k1 + 1) → g.IsTupleIter i2 l2 (k2 + 1) → IsPair g s.heap.objs.size x y → (∀ c o, c ≠ z → c ≠ i1 → c ≠ i2 → s.heap.get? c = some o → g.get? c = some o) → R (.ref s.heap.objs.size) { s with heap := g }) :
    wpAny (model prog w) A (Builtin.«zip.__next__» ⟨[.ref z], []⟩) (fun fin s' => ∃ v, fin = .done (.ret v) ∧ R v s') E s := by
  show wpAny _ _ (field (.ref z) 2 >>= _) _ _ _
  apply wpAny_bind; apply wpAny_field hz rfl (x := .bool false) rfl
  show wpAny _ _ (field (.ref z) 3 >>= _) _ _ _
  apply wpAny_bind; apply wpAny_field hz rfl (x := .ref TI) rfl
  apply wpAny_bind; apply wpAny_seqItems hI rfl
  show wpAny _ _ (Builtin.SmallTypes.ownedTupleIsFree (.ref z) >>= _) _ _ _
  apply wpAny_bind; apply wpAny_tupleHeld_zip hz hT
  intro g1 z1 b1
  simp only [Bool.false_eq_true, if_false]
  apply wpAny_bind; rw [← Array.forIn_toList]; simp only [List.forIn_cons, List.forIn_nil]
  apply wpAny_bind; apply wpAny_bind; apply wpAny_holding
  show wpAny _ _ (Builtin.SmallTypes.nextOf (.ref i1) >>= _) _ _ _
  apply wpAny_bind
  refine RZ.nextOf_tuple_item (s := { s with heap := g1 }) (h1.extBut b1.extBut D.i1z) (t1.extBut b1.extBut D.l1z) hx ?_
  intro g2 j1 b2
  apply wpAny_pure; apply wpAny_pure; apply wpAny_bind; apply wpAny_bind; apply wpAny_holding
  show wpAny _ _ (Builtin.SmallTypes.nextOf (.ref i2) >>= _) _ _ _
  apply wpAny_bind
  refine RZ.nextOf_tuple_item (s := { s with heap := g2 }) ((h2.extBut b1.extBut D.i2z).extBut b2.extBut D.i12.symm) ((t2.extBut b1.extBut D.l2z).extBut b2.extBut D.l2i1) hy ?_
  intro g3 j2 b3
  apply wpAny_pure; apply wpAny_pure; apply wpAny_pure
  show wpAny _ _ (newTuple [x, y] >>= _) _ _ _
  refine wpAny_bind (wpAny_newTuple ?_)
  have e : g3.objs.size = s.heap.objs.size := b3.1.trans (b2.1.trans b1.1)
  have zz : IsZipHeld g3 z TI TO T true := b3.extBut _ _ D.i2z.symm (b2.extBut _ _ D.i1z.symm z1)
  have kk : ∀ c o, c ≠ z → c ≠ i1 → c ≠ i2 → s.heap.get? c = some o → g3.get? c = some o := fun c o n1 n2 n3 q => b3.extBut _ _ n3 (b2.extBut _ _ n2 (b1.extBut _ _ n1 q))
  have jj := j1.extBut b3.extBut D.i12
  have pp : IsPair (g3.push { cls := .type "tuple", data := .seq #[x, y] }) g3.objs.size x y := Heap.get?_push_size _ rfl
  refine wpAny_pure ⟨_, rfl, ?_⟩
  show R (.ref g3.objs.size) _
  rw [e] at pp ⊢
  exact k _ (Heap.get?_push_of_some _ zz) (jj.at fun _ q => Heap.get?_push_of_some _ q) (j2.at fun _ q => Heap.get?_push_of_some _ q) pp fun c o n1 n2 n3 q => Heap.get?_push_of_some _ (kk c o n1 n2 n3 q)
/-- nothing more -/
theorem zt_over {R : PySem.Fin → Shared → Prop} (hh : A.handled = none) (D : ZipApart z TI TO i1 i2 l1 l2) (hz : IsZipHeld s.heap z TI TO T f) (hT : s.heap.get? T = some oT) (hI : IsPair s.heap TI (.ref i1) (.ref i2))
    (h1 : s.heap.IsTupleIter i1 l1 k1) (t1 : s.heap.IsTuple l1 xs) (hx : xs[k1]? = none)
    (k : ∀ g e, (∀ c o, c ≠ z → c ≠ i1 → s.heap.get? c = some o → g.get? c = some o) → (∃ o, g.get? e = some o ∧ o.cls = .type "StopIteration") → E (.ref e) { s with heap := g }) :
    wpAny (model prog w) A (Builtin.«zip.__next__» ⟨[.ref z], []⟩) R E s := by
  show wpAny _ _ (field (.ref z) 2 >>= _) _ _ _
  apply wpAny_bind; apply wpAny_field hz rfl (x := .bool false) rfl
  show wpAny _ _ (field (.ref z) 3 >>= _) _ _ _
  apply wpAny_bind; apply wpAny_field hz rfl (x := .ref TI) rfl
  apply wpAny_bind; apply wpAny_seqItems hI rfl
  show wpAny _ _ (Builtin.SmallTypes.ownedTupleIsFree (.ref z) >>= _) _ _ _
  apply wpAny_bind; apply wpAny_tupleHeld_zip hz hT
  intro g1 z1 b1
  simp only [Bool.false_eq_true, if_false]
  apply wpAny_bind; rw [← Array.forIn_toList]; simp only [List.forIn_cons, List.forIn_nil]
  apply wpAny_bind; apply wpAny_bind; apply wpAny_holding
  show wpAny _ _ (Builtin.SmallTypes.nextOf (.ref i1) >>= _) _ _ _
  apply wpAny_bind
  refine RZ.nextOf_tuple_end (s := { s with heap := g1 }) hh (h1.extBut b1.extBut D.i1z) (t1.extBut b1.extBut D.l1z) hx ?_
  intro g2 e b2 he
  exact k g2 e (fun c o n1 n2 q => b2 _ _ n2 (b1.extBut _ _ n1 q)) he
theorem zt_next {x y : Value} {R : Option Value → Shared → Prop} (D : ZipApart z TI TO i1 i2 l1 l2) (hz : IsZipHeld s.heap z TI TO T f) (hT : s.heap.get? T = some oT) (hI : IsPair s.heap TI (.ref i1) (.ref i2))
    (h1 : s.heap.IsTupleIter i1 l1 k1) (h2 : s.heap.IsTupleIter i2 l2 k2) (t1 : s.heap.IsTuple l1 xs) (t2 : s.heap.IsTuple l2 ys) (hx : xs[k1]? = some x) (hy : ys[k2]? = some y)
    (k : ∀ g, IsZipHeld g z TI TO T true → g.IsTupleIter i1 l1 (k1 + 1) → g.IsTupleIter i2 l2 (k2 + 1) → IsPair g s.heap.objs.size x y → (∀ c o, c ≠ z → c ≠ i1 → c ≠ i2 → s.heap.get? c = some o → g.get? c = some o) → R (some (.ref s.heap.objs.size)) { s with heap := g }) :
    wpAny (model prog w) A (pyNext (.ref z)) R E s := by
  have ty : s.TypeIs (.ref z) "zip" := ⟨_, hz, rfl⟩
  unfold pyNext
  refine wpAny_bind (wpAny_attempt (wpAny_callSpecial?_slot (name := Str.ofString "__next__") ty F.slot_zip_next (wpAny_call_entry F.slot_zip_next ty F.entry_zip_next (zt_go D hz hT hI h1 h2 t1 t2 hx hy ?_) (F.args_zip_next_1 _))))
  intro g a b c d e
  exact wpAny_pure (k g a b c d e)
theorem zt_none {R : Option Value → Shared → Prop} (hh : A.handled = none) (D : ZipApart z TI TO i1 i2 l1 l2) (hz : IsZipHeld s.heap z TI TO T f) (hT : s.heap.get? T = some oT) (hI : IsPair s.heap TI (.ref i1) (.ref i2))
    (h1 : s.heap.IsTupleIter i1 l1 k1) (t1 : s.heap.IsTuple l1 xs) (hx : xs[k1]? = none)
    (k : ∀ g, (∀ c o, c ≠ z → c ≠ i1 → s.heap.get? c = some o → g.get? c = some o) → R none { s with heap := g }) : wpAny (model prog w) A (pyNext (.ref z)) R E s := by
  have ty : s.TypeIs (.ref z) "zip" := ⟨_, hz, rfl⟩
  unfold pyNext
  refine wpAny_bind (wpAny_attempt (wpAny_callSpecial?_slot (name := Str.ofString "__next__") ty F.slot_zip_next (wpAny_call_entry F.slot_zip_next ty F.entry_zip_next (zt_over hh D hz hT hI h1 t1 hx ?_) (F.args_zip_next_1 _))))
  rintro g e b ⟨o, ho, hc⟩
  exact wpAny_bind (wpAny_isInstance (T := "StopIteration") (b := true) ⟨o, ho, hc⟩ isSubtype_stop (wpAny_pure (k g b)))
/-- the list does not ask a zip for its length -/
theorem zip_no_len : typeLookup (.type "zip") "__len__" = pure none := am_miss_of_fast (by decide +kernel)
theorem zip_no_hint : typeLookup (.type "zip") "__length_hint__" = pure none := am_miss_of_fast (by decide +kernel)
theorem zt_hint {R : Bool → Shared → Prop} (ty : s.TypeIs (.ref z) "zip") (k : R true s) : wpAny (model prog w) A (Builtin.List.listLengthHint (.ref z)) R E s := by
  unfold Builtin.List.listLengthHint
  apply wpAny_bind; refine wpAny_specialOf ty zip_no_len ?_
  show wpAny _ _ (specialOf (Value.ref z) (Str.ofString "__length_hint__") >>= _) _ _ _
  apply wpAny_bind; refine wpAny_specialOf ty zip_no_hint ?_
  exact wpAny_pure k
end

end M

set_option Elab.async false
set_option linter.all false
set_option maxRecDepth 100000
set_option maxHeartbeats 2000000
namespace M
open PySem PySem.Spec PyProof.Rows L2

/-- where the walk over the zip stands -/
def ZT (h : Heap) (z TI TO i1 i2 a b : Addr) (i : Nat) : Prop := IsPair h TI (.ref i1) (.ref i2) ∧ h.IsTupleIter i1 a i ∧ h.IsTupleIter i2 b i ∧
  ((IsZip h z TI TO .none ∧ ∃ x y, IsPair h TO x y) ∨ ∃ T f oT, IsZipHeld h z TI TO T f ∧ h.get? T = some oT ∧ T ≠ z ∧ T ≠ i1 ∧ T ≠ i2 ∧ ∃ o, h.get? TO = some o)
section
variable {X : Cx} {pins : List (Addr × Obj)} {σ : L2.St} {H : Hp} {s : Shared} {z TI TO i1 i2 a b : Addr} {A : Around} {E : Value → Shared → Prop} {xs ys : List V}
theorem ZT.at {h h' : Heap} {i : Nat} (st : ZT h z TI TO i1 i2 a b i) (k : ∀ c ∈ [z, TI, TO, i1, i2], ∀ o, h.get? c = some o → h'.get? c = some o) (ke : ∀ c o, h.get? c = some o → ∃ o, h'.get? c = some o) : ZT h' z TI TO i1 i2 a b i := by
  obtain ⟨hI, h1, h2, hz⟩ := st
  refine ⟨k TI (by simp) _ hI, h1.at fun o q => k i1 (by simp) o q, h2.at fun o q => k i2 (by simp) o q, ?_⟩
  rcases hz with ⟨hz, x, y, hO⟩ | ⟨T, f, oT, hz, hT, r1, r2, r3, oO, hO⟩
  · exact .inl ⟨k z (by simp) _ hz, x, y, k TO (by simp) _ hO⟩
  · obtain ⟨oT', hT'⟩ := ke T oT hT
    exact .inr ⟨T, f, oT', k z (by simp) _ hz, hT', r1, r2, r3, ke TO oO hO⟩
theorem ZT.there {h : Heap} {i : Nat} (st : ZT h z TI TO i1 i2 a b i) : ∀ c ∈ [z, TI, TO, i1, i2], ∃ o, h.get? c = some o := by
  obtain ⟨hI, ⟨o1, h1, _⟩, ⟨o2, h2, _⟩, hz⟩ := st
  have hz2 : (∃ o, h.get? z = some o) ∧ ∃ o, h.get? TO = some o := by
    rcases hz with ⟨hz, x, y, hO⟩ | ⟨T, f, oT, hz, hT, _, _, _, oO, hO⟩
    · exact ⟨⟨_, hz⟩, ⟨_, hO⟩⟩
    · exact ⟨⟨_, hz⟩, ⟨_, hO⟩⟩
  intro c hc
  have e : c = z ∨ c = TI ∨ c = TO ∨ c = i1 ∨ c = i2 := by simpa using hc
  rcases e with rfl | rfl | rfl | rfl | rfl
  · exact hz2.1
  · exact ⟨_, hI⟩
  · exact hz2.2
  · exact ⟨_, h1⟩
  · exact ⟨_, h2⟩
/-- one more pair -/
theorem zl_step {x y : V} {i : Nat} {R : Option Value → Shared → Prop} (I : Inv X pins σ H s) (hf : ∀ c ∈ [z, TI, TO, i1, i2], FpOk X pins H c) (D : ZipApart z TI TO i1 i2 a b) (st : ZT s.heap z TI TO i1 i2 a b i)
    (qx : SqT X.K H a xs) (qy : SqT X.K H b ys) (hx : xs[i]? = some x) (hy : ys[i]? = some y)
    (k : ∀ (T : Addr) (s' : Shared), H T = none → (∀ c ∈ [z, TI, TO, i1, i2], c ≠ T) → Inv X pins σ (upd H T (.tup [x, y])) s' → ZT s'.heap z TI TO i1 i2 a b (i + 1) → R (some (.ref T)) s') :
    wpAny (model X.prog X.w) A (pyNext (.ref z)) R E s := by
  obtain ⟨its, rv, p, _⟩ := I.tuple qx
  obtain ⟨its2, rv2, p2, _⟩ := I.tuple qy
  obtain ⟨u, hu, ru⟩ := rv.get hx
  obtain ⟨u2, hu2, ru2⟩ := rv2.get hy
  have lt : ∀ c ∈ [z, TI, TO, i1, i2], c < s.heap.objs.size := fun c hc => by
    obtain ⟨o, e⟩ := st.there c hc
    exact Heap.lt_size e
  have ne : ∀ c ∈ [z, TI, TO, i1, i2], c ≠ s.heap.objs.size := fun c hc => Nat.ne_of_lt (lt c hc)
  have fin : ∀ (g : Heap) (T : Addr) (f : Bool) (oT : Obj), IsZipHeld g z TI TO T f → g.get? T = some oT → T ≠ z → T ≠ i1 → T ≠ i2 → g.IsTupleIter i1 a (i + 1) → g.IsTupleIter i2 b (i + 1) → IsPair g s.heap.objs.size u u2 →
      (∀ c o, c ∉ [z, TO, i1, i2] → s.heap.get? c = some o → g.get? c = some o) → (∃ o, g.get? TO = some o) → R (some (.ref s.heap.objs.size)) { s with heap := g } := fun g T f oT hz hT r1 r2 r3 h1 h2 hp hk hO => by
    have new : ObjOk X.prog X.w (upd H s.heap.objs.size (.tup [x, y])) g s.heap.objs.size (.tup [x, y]) := ⟨by show 2 ≤ sizeLine; decide, [u, u2], .cons ru (.cons ru2 .nil), ⟨_, hp, rfl, _, rfl⟩⟩
    have I1 : Inv X pins σ (upd H s.heap.objs.size (.tup [x, y])) { s with heap := g } :=
      I.turnedNew (t' := s.toks) (ch := [z, TI, TO, i1, i2]) (fun c o hb q => hk c o (fun m => hb (by simp at m ⊢; rcases m with e | e | e | e <;> simp [e])) q) hf (Nat.le_refl _) new
    refine k _ _ (I.hok.fresh (Nat.le_refl _)) ne I1 ⟨hk TI _ (fun m => ?_) st.1, h1, h2, .inr ⟨T, f, oT, hz, hT, r1, r2, r3, hO⟩⟩
    simp at m
    rcases m with e | e | e | e
    · exact D.TIz e
    · exact D.TITO e
    · exact D.TIi1 e
    · exact D.TIi2 e
  have nz := (ne z (by simp)).symm
  have n1 := (ne i1 (by simp)).symm
  have n2 := (ne i2 (by simp)).symm
  obtain ⟨hI, h1, h2, hz⟩ := st
  rcases hz with ⟨hz, x0, y0, hO⟩ | ⟨T, f, oT, hz, hT, r1, r2, r3, oO, hO⟩
  · refine RZ.pyNext_zipT_item D hz hI hO h1 h2 p p2 (x := u) (y := u2) (by simpa using hu) (by simpa using hu2) fun g z' O' j1 j2 hp _ hk => ?_
    exact fin g _ false _ z' hp nz n1 n2 j1 j2 hp (fun c o m q => hk c o (fun e => m (by simp [e])) (fun e => m (by simp [e])) (fun e => m (by simp [e])) (fun e => m (by simp [e])) q) ⟨_, O'⟩
  · refine zt_next D hz hT hI h1 h2 p p2 (x := u) (y := u2) (by simpa using hu) (by simpa using hu2) fun g z' j1 j2 hp hk => ?_
    exact fin g T true oT z' (hk T oT r1 r2 r3 hT) r1 r2 r3 j1 j2 hp (fun c o m q => hk c o (fun e => m (by simp [e])) (fun e => m (by simp [e])) (fun e => m (by simp [e])) q) ⟨_, hk TO _ D.TOz D.TOi1 D.TOi2 hO⟩
/-- no more -/
theorem zl_end {i : Nat} {R : Option Value → Shared → Prop} (hh : A.handled = none) (I : Inv X pins σ H s) (hf : ∀ c ∈ [z, TI, TO, i1, i2], FpOk X pins H c) (D : ZipApart z TI TO i1 i2 a b) (st : ZT s.heap z TI TO i1 i2 a b i)
    (qx : SqT X.K H a xs) (qy : SqT X.K H b ys) (hx : xs.length ≤ i) (k : ∀ s' : Shared, Inv X pins σ H s' → R none s') : wpAny (model X.prog X.w) A (pyNext (.ref z)) R E s := by
  obtain ⟨its, rv, p, _⟩ := I.tuple qx
  obtain ⟨its2, rv2, p2, _⟩ := I.tuple qy
  have l1 := rv.length
  have e : its.toArray[i]? = none := by simp; omega
  obtain ⟨hI, h1, h2, hz⟩ := st
  rcases hz with ⟨hz, x0, y0, hO⟩ | ⟨T, f, oT, hz, hT, r1, r2, r3, oO, hO⟩
  · exact RZ.pyNext_zipT_end hh D hz hI hO h1 h2 p p2 (.inl e) fun g hk => k _ (I.turnedL (t' := s.toks) (ch := [z, TI, TO, i1, i2]) (fun c o m q => hk c o (fun e => m (by simp [e])) (fun e => m (by simp [e])) (fun e => m (by simp [e])) (fun e => m (by simp [e])) q) hf)
  · exact zt_none hh D hz hT hI h1 p e fun g hk => k _ (I.turnedL (t' := s.toks) (ch := [z, TI, TO, i1, i2]) (fun c o m q => hk c o (fun e => m (by simp [e])) (fun e => m (by simp [e])) q) hf)
end

end M

set_option Elab.async false
set_option linter.all false
set_option maxRecDepth 100000
set_option maxHeartbeats 2000000
namespace M
open PySem PySem.Spec PyProof.Rows L2

/-- each item of the list is the pair of the two at its place -/
def PairsIn (H : Hp) (acc xs ys : List V) : Prop := ∀ (j : Nat) (v : V), acc[j]? = some v → ∃ (T : Addr) (x y : V), v = .ref T ∧ xs[j]? = some x ∧ ys[j]? = some y ∧ H T = some (.tup [x, y])
section
variable {X : Cx} {pins : List (Addr × Obj)} {σ : L2.St} {H H0 : Hp} {s : Shared} {z TI TO i1 i2 a b q : Addr} {A1 : Around} {xs ys l0 : List V} {Rs : Result → Shared → Prop}
theorem zl_loop (hh : A1.handled = none) (D : ZipApart z TI TO i1 i2 a b) (hl : xs.length = ys.length) (hm : xs.length ≤ 1000) (hq0 : H0 q = some (.lst l0)) (qx : SqT X.K H0 a xs) (qy : SqT X.K H0 b ys)
    (hdone : ∀ acc H s, Inv X pins σ H s → H q = some (.lst acc) → acc.length = xs.length → PairsIn H acc xs ys → But q H0 H → Rs (.ok (.ret .none)) s) :
    ∀ (m i : Nat) (acc : List V) (H : Hp) (s : Shared), m + i = xs.length → Inv X pins σ H s → (∀ c ∈ [z, TI, TO, i1, i2], FpOk X pins H c) → ZT s.heap z TI TO i1 i2 a b i → But q H0 H → H q = some (.lst acc) → acc.length = i → PairsIn H acc xs ys →
      codeAny (model X.prog X.w) A1 (.builtin "list.extend.loop" ⟨[.ref q, .ref z, .none], []⟩) Rs s := by
  intro m
  induction m with
  | zero =>
    intro i acc H s e I hf st bt hq la pr
    refine codeAny_builtin PySem.F.entry_extend_loop ?_
    rw [Around.under_plainId PySem.F.plain_extend_loop _]
    show wpAny _ A1.in1 (pyNext (.ref z) >>= _) _ _ s
    refine wpAny_bind (zl_end hh I hf D st (sqT_but (.lst hq0) bt qx) (sqT_but (.lst hq0) bt qy) (by omega) fun s' I' => ?_)
    exact wpAny_pure (hdone acc H s' I' hq (by omega) pr bt)
  | succ m ih =>
    intro i acc H s e I hf st bt hq la pr
    have hix : i < xs.length := by omega
    have hiy : i < ys.length := by omega
    have ex := List.getElem?_eq_getElem hix
    have ey := List.getElem?_eq_getElem hiy
    refine codeAny_builtin PySem.F.entry_extend_loop ?_
    rw [Around.under_plainId PySem.F.plain_extend_loop _]
    show wpAny _ A1.in1 (pyNext (.ref z) >>= _) _ _ s
    refine wpAny_bind (zl_step I hf D st (sqT_but (.lst hq0) bt qx) (sqT_but (.lst hq0) bt qy) ex ey fun T s' hT hne I' st' => ?_)
    have nqT : q ≠ T := ne_of_none hq hT
    have hq' : upd H T (.tup [xs[i], ys[i]]) q = some (.lst acc) := by rw [upd_ne nqT]; exact hq
    have w1 : Same H (upd H T (.tup [xs[i], ys[i]])) := same_new hT
    have e1 : upd H T (.tup [xs[i], ys[i]]) T = some (.tup [xs[i], ys[i]]) := upd_same
    have hf1 : ∀ c ∈ [z, TI, TO, i1, i2], FpOk X pins (upd H T (.tup [xs[i], ys[i]])) c := fun c hc => ⟨by rw [upd_ne (hne c hc)]; exact (hf c hc).1, (hf c hc).2⟩
    have ncq : ∀ c ∈ [z, TI, TO, i1, i2], c ≠ q := fun c hc w => by
      have := (hf c hc).1
      rw [w, hq] at this
      cases this
    show wpAny _ A1.in1 (updateSeq q (·.push (.ref T)) >>= _) _ _ _
    obtain ⟨zz, its, n, r2, hl', e2⟩ := I'.lstM hq'
    refine wpAny_bind (wpAny_updateSeq e2 rfl (wpAny_pure ⟨plainId_quiet PySem.F.plain_extend_loop _, ?_⟩) (by rw [List.size_toArray, sizeLine_eq]; omega) (by show (its.toArray.push (Value.ref T)).size ≤ sizeLine + 1; rw [Array.size_push, List.size_toArray, sizeLine_eq]; omega))
    have bb : But q (upd H T (.tup [xs[i], ys[i]])) (upd (upd H T (.tup [xs[i], ys[i]])) q (.lst (acc ++ [.ref T]))) := But.upd
    refine ih (i + 1) (acc ++ [.ref T]) _ _ (by omega) (I'.lset (ys := acc ++ [.ref T]) (its' := its ++ [.ref T]) (t' := s'.toks) hq' e2 (by simp) (r2.append (.cons (show L2.RelV (.ref T) (.ref T) from rfl) .nil)) (by rw [List.length_append, sizeLine_eq]; simp; omega)) (fun c hc => ⟨by rw [upd_ne (ncq c hc)]; exact (hf1 c hc).1, (hf1 c hc).2⟩) (st'.at (fun c hc o w => (Heap.get?_update_other _ _ (Ne.symm (ncq c hc))).trans w) fun c o w => ?_)
      (fun b o nb w => bb _ _ nb (w1 _ _ (bt _ _ nb w))) upd_same (by simp [la]) fun j v hj => ?_
    · by_cases w' : c = q
      · exact ⟨_, by rw [w']; exact Heap.get?_update_self _ e2 rfl⟩
      · exact ⟨o, (Heap.get?_update_other _ _ (Ne.symm w')).trans w⟩
    · rcases Nat.lt_trichotomy j acc.length with h1 | h1 | h1
      · rw [List.getElem?_append_left h1] at hj
        obtain ⟨T', x, y, ev, g1, g2, g3⟩ := pr j v hj
        exact ⟨T', x, y, ev, g1, g2, bb _ _ (ne_ho (w1 _ _ g3) hq' fun w => nomatch w) (w1 _ _ g3)⟩
      · subst h1
        have : V.ref T = v := by simpa using hj
        refine ⟨T, xs[i], ys[i], this.symm, by rw [la]; exact ex, by rw [la]; exact ey, bb _ _ (Ne.symm nqT) e1⟩
      · rw [List.getElem?_eq_none (by rw [List.length_append, List.length_singleton]; omega)] at hj
        cases hj
theorem zl_extend (hh : A1.handled = none) (D : ZipApart z TI TO i1 i2 a b) (hl : xs.length = ys.length) (hm : xs.length ≤ 1000) (I : Inv X pins σ H s) (hq : H q = some (.lst [])) (qx : SqT X.K H a xs) (qy : SqT X.K H b ys)
    (hf : ∀ c ∈ [z, TI, TO, i1, i2], FpOk X pins H c) (hz : IsZip s.heap z TI TO .none) (st : ZT s.heap z TI TO i1 i2 a b 0)
    (hdone : ∀ acc H' s, Inv X pins σ H' s → H' q = some (.lst acc) → acc.length = xs.length → PairsIn H' acc xs ys → But q H H' → Rs (.ok (.ret .none)) s) :
    wpAny (model X.prog X.w) A1.in1 (Builtin.List.listExtendWith (.ref q) (.ref z) .none)
      (fun fin s' => match fin with | .done f => Rs (.ok f) s' | .again c' => c'.quiet = true ∧ codeAny (model X.prog X.w) A1 c' Rs s') (fun e s' => Rs (.error e) s') s := by
  have ncq : ∀ c ∈ [z, TI, TO, i1, i2], c ≠ q := fun c hc w => by
    have := (hf c hc).1
    rw [w, hq] at this
    cases this
  have ty : s.TypeIs (.ref z) "zip" := ⟨_, hz, rfl⟩
  have g1 : Builtin.List.listSameRef (.ref q) (.ref z) = false := by simp [Builtin.List.listSameRef, (ncq z (by simp)).symm]
  have g2 : (Value.type "zip" == Value.type "list") = false := by decide
  have g3 : (Value.type "zip" == Value.type "tuple") = false := by decide
  unfold Builtin.List.listExtendWith
  apply wpAny_bind; apply wpAny_typeOf ty
  simp only [g1, g2, g3, Bool.or_false, Bool.false_eq_true, if_false]
  apply wpAny_bind; apply wpAny_pyIter_zip hz
  apply wpAny_bind; apply wpAny_holding; apply zt_hint ty
  have go := zl_loop (Rs := Rs) hh D hl hm hq qx qy hdone xs.length 0 [] H
  have p0 : PairsIn H [] xs ys := fun j v h => by simp at h
  refine wpAny_ite_split (fun _ => ?_) (fun _ => wpAny_pure ⟨plainId_quiet PySem.F.plain_extend_loop _, go s (by omega) I hf st (fun _ _ _ e => e) hq rfl p0⟩)
  apply wpAny_bind; apply wpAny_rule; apply wpAny_bind
  show wpAny _ _ (updateSeq q (·.push .none) >>= fun _ => updateSeq q (·.pop)) _ _ _
  obtain ⟨_, its, n, r3, _, e3⟩ := I.lstM hq
  cases r3
  refine wpAny_bind (wpAny_updateSeq e3 rfl ?_)
  have I2 := I.lset (f := (·.push Value.none)) (its' := [Value.none]) (ys := [.non]) (t' := s.toks) hq e3 (by simp) (.cons rfl .nil) (by rw [List.length_singleton, sizeLine_eq]; decide)
  obtain ⟨_, its4, k4, r4, _, e4⟩ := I2.lstM upd_same
  obtain ⟨u4, rfl, ru4⟩ := r4.one
  refine wpAny_updateSeq e4 rfl ?_ (by show 1 ≤ sizeLine; rw [sizeLine_eq]; decide) (by show 0 ≤ sizeLine + 1; exact Nat.zero_le _)
  have I3 := I2.lset (f := (·.pop)) (its := [u4]) (its' := []) (ys := []) (t' := s.toks) upd_same e4 (by rfl) .nil (Nat.zero_le _)
  rw [upd_upd] at I3
  have hH : upd H q (.lst []) = H := by
    funext c
    by_cases hb : c = q
    · rw [hb, upd_same, hq]
    · rw [upd_ne hb]
  rw [hH] at I3
  refine wpAny_pure ⟨plainId_quiet PySem.F.plain_extend_loop _, go _ (by omega) I3 hf (st.at (fun c hc o w => ?_) fun c o w => ?_) (fun _ _ _ e => e) hq rfl p0⟩
  · exact (Heap.get?_update_other _ _ (Ne.symm (ncq c hc))).trans ((Heap.get?_update_other _ _ (Ne.symm (ncq c hc))).trans w)
  · by_cases w' : c = q
    · rw [w']
      exact ⟨_, Heap.get?_update_self _ e4 rfl⟩
    · exact ⟨o, (Heap.get?_update_other _ _ (Ne.symm w')).trans ((Heap.get?_update_other _ _ (Ne.symm w')).trans w)⟩
end

end M

set_option Elab.async false
set_option linter.all false
set_option maxRecDepth 100000
set_option maxHeartbeats 2000000
namespace M
open PySem PySem.Spec PyProof.Rows L2

section
variable {X : Cx} {pins : List (Addr × Obj)} {σ : L2.St} {H : Hp} {s : Shared} {z TI TO i1 i2 a b : Addr} {xs ys : List V}
theorem zl_call {Q : VK} (hc : X.calm = true) (D : ZipApart z TI TO i1 i2 a b) (hl : xs.length = ys.length) (hm : xs.length ≤ 1000) (I : Inv X pins σ H s) (qx : SqT X.K H a xs) (qy : SqT X.K H b ys)
    (hf : ∀ c ∈ [z, TI, TO, i1, i2], FpOk X pins H c) (hz : IsZip s.heap z TI TO .none) (st : ZT s.heap z TI TO i1 i2 a b 0)
    (k : ∀ (l : Addr) (acc : List V) (H' : Hp), H l = none → Same H H' → H' l = some (.lst acc) → acc.length = xs.length → PairsIn H' acc xs ys → Q (.ref l) H') :
    wpAny (model X.prog X.w) X.A (call (.type "list") [.ref z]) (EP X pins σ Q) X.xe s := by
  refine callType_codes (Q₁ := fun obj s₁ => obj = .ref s.heap.objs.size ∧ s₁ = { s with heap := s.heap.push { cls := .type "list", data := .seq #[] } }) PySem.F.called_list (PySem.F.typeCall_list_1 _) PySem.F.entry_list_init (code_list_new _ ⟨rfl, rfl⟩) fun obj s₁ h₁ => ?_
  obtain ⟨rfl, rfl⟩ := h₁
  have hS : (s.heap.push { cls := .type "list", data := .seq #[] }).get? s.heap.objs.size = some { cls := .type "list", data := .seq #[] } := Heap.get?_push_size _ rfl
  have fr : H s.heap.objs.size = none := I.hok.fresh (Nat.le_refl _)
  have lt : ∀ c ∈ [z, TI, TO, i1, i2], c ≠ s.heap.objs.size := fun c hc => by
    obtain ⟨o, e⟩ := st.there c hc
    exact Nat.ne_of_lt (Heap.lt_size e)
  have I1 : Inv X pins σ (upd H s.heap.objs.size (.lst [])) { s with heap := s.heap.push { cls := .type "list", data := .seq #[] } } := I.lnew (its := []) (t' := s.toks) .nil (Nat.zero_le _)
  have w1 : Same H (upd H s.heap.objs.size (.lst [])) := same_new fr
  refine ⟨⟨_, hS, rfl⟩, PySem.F.args_list_init_2 _ _, ?_⟩
  show wpAny _ _ (do let old ← Builtin.List.listItems (.ref s.heap.objs.size); Builtin.List.listUpdate (.ref s.heap.objs.size) (fun _ => #[]); letGo old.toList.reverse; Builtin.List.listExtendWith (.ref s.heap.objs.size) (.ref z) .none) _ _ _
  apply wpAny_bind; unfold Builtin.List.listItems
  refine wpAny_bind (wpAny_seqItems hS rfl (wpAny_pure ?_))
  show wpAny _ _ (updateSeq s.heap.objs.size (fun _ => #[]) >>= fun _ => letGo (#[] : Array Value).toList.reverse >>= fun _ => Builtin.List.listExtendWith (.ref s.heap.objs.size) (.ref z) .none) _ _ _
  refine wpAny_bind (wpAny_updateSeq hS rfl ?_)
  have I2 := I1.lset (f := fun _ => #[]) (its := []) (its' := []) (ys := []) (t' := s.toks) upd_same hS rfl .nil (Nat.zero_le _)
  rw [upd_upd] at I2
  refine wpAny_bind (wpAny_letGo ?_)
  have oth : ∀ c, c ≠ s.heap.objs.size → ∀ o, s.heap.get? c = some o → ((s.heap.push { cls := .type "list", data := .seq #[] }).update s.heap.objs.size (Obj.mapSeq (fun _ => (#[] : Array Value)))).get? c = some o := fun c hc o e => (Heap.get?_update_other _ _ (Ne.symm hc)).trans (Heap.get?_push_of_some _ e)
  refine zl_extend (A1 := X.A.in1) (Rs := wants (fun r s₂ => r = .none ∧ EP X pins σ Q (.ref s.heap.objs.size) s₂) X.xe) (show X.A.handled = none from I.ok.hd hc) D hl hm I2 upd_same (same_t w1 qx) (same_t w1 qy)
    (fun c hc => ⟨by rw [upd_ne (lt c hc)]; exact (hf c hc).1, (hf c hc).2⟩) (oth z (lt z (by simp)) _ hz) (st.at (fun c hc o e => oth c (lt c hc) o e) fun c o e => ⟨o, oth c (Nat.ne_of_lt (Heap.lt_size e)) o e⟩) (fun acc H' s' I' hq la pr bt => ?_)
  exact ⟨rfl, .ref s.heap.objs.size, H', I', rfl, k _ acc H' fr (fun b o e => bt _ _ (ne_of_none e fr) (w1 _ _ e)) hq la pr⟩
/-- list(zip(x, y)) of two tuples of one length -/
def tZipL (K : PySem.W.Frag) (ta : TA) : TE := fun σ H Q => ta σ H fun vs H1 => ∃ (a b : Addr) (xs ys : List V), vs = [.ref a, .ref b] ∧ SqT K H1 a xs ∧ SqT K H1 b ys ∧ xs.length = ys.length ∧ xs.length ≤ 1000 ∧
  ∀ (l : Addr) (acc : List V) (H2 : Hp), H1 l = none → Same H1 H2 → H2 l = some (.lst acc) → acc.length = xs.length → PairsIn H2 acc xs ys → Q (.ref l) H2
theorem pe_lstZip {e e2 : Expr} {ta : TA} {p pos p2 pos2 : Pos} (hc : X.calm = true) (hgl : Gl X "list") (hml : X.mg "list" = none) (hg : Gl X "zip") (hm : X.mg "zip" = none) (ha : PA X [e, e2] ta)
    (hs : starEach [e, e2] X.env = (false, eval e X.env) :: starEach [e2] X.env := by rfl) (hpl : (backTo pos2 (starEach [e2] X.env)).any (·.1) = false := by rfl)
    (hs2 : starEach [.Call (.Name "zip" p2) [e, e2] [] pos2] X.env = (false, eval (.Call (.Name "zip" p2) [e, e2] [] pos2) X.env) :: starEach [] X.env := by rfl) (hpl2 : (backTo pos (starEach [] X.env)).any (·.1) = false := by rfl) :
    PE X (.Call (.Name "list" p) [.Call (.Name "zip" p2) [e, e2] [] pos2] [] pos) (tZipL X.K ta) := by
  refine ⟨fun pins s σ H Q I h => ?_⟩
  refine wpAny_Call_Name_kw (ld_blt I hgl hml boot_list ?_ (by decide) (by decide))
  refine PyProof.Rows.callWith_type1 ?_ hs2 hpl2
  rw [hs2]
  show wpAny _ _ (spliced ((false, eval (.Call (.Name "zip" p2) [e, e2] [] pos2) X.env) :: backTo pos (starEach [] X.env))) _ _ s
  refine Calls.spliced_cons ?_
  refine wpAny_Call_Name_kw (ld_blt I hg hm PyProof.Rows.boot_zip ?_ (by decide) (by decide))
  refine PyProof.Rows.callWith_type1 (thn (ha.run pos2 pins s σ H _ I h) fun us s1 ⟨vs, H1, I1, r1, q1⟩ => ?_) hs hpl
  obtain ⟨a, b, xs, ys, rfl, qx, qy, hl, hm', k⟩ := q1
  obtain ⟨its, rv, t1, _⟩ := I1.tuple qx
  obtain ⟨its2, rv2, t2, _⟩ := I1.tuple qy
  cases r1 with
  | cons r rr =>
    cases rr with
    | cons r' rr =>
      cases rr
      cases r
      cases r'
      refine RZ.call_zipT t1 t2 fun g hz hTI hTO h1 h2 hsz hk => Calls.spliced_nil ?_
      have I2 : Inv X pins σ H1 { s1 with heap := g } := I1.kept (t' := s1.toks) hk
      obtain ⟨o1, ho1, _⟩ := id t1
      obtain ⟨o2, ho2, _⟩ := id t2
      refine zl_call hc (PySem.W.ktu_apart s1.heap.objs.size a b (Heap.lt_size ho1) (Heap.lt_size ho2)) hl hm' I2 qx qy (fun c hcm => ?_) hz ⟨hTI, h1, h2, .inl ⟨hz, _, _, hTO⟩⟩ k
      have hle : s1.heap.objs.size ≤ c := by
        have e' : c = s1.heap.objs.size + 4 ∨ c = s1.heap.objs.size + 2 ∨ c = s1.heap.objs.size + 3 ∨ c = s1.heap.objs.size ∨ c = s1.heap.objs.size + 1 := by simpa using hcm
        rcases e' with w | w | w | w | w <;> rw [w]
        · exact Nat.le_add_right _ _
        · exact Nat.le_add_right _ _
        · exact Nat.le_add_right _ _
        · exact Nat.le_refl _
        · exact Nat.le_add_right _ _
      exact I1.fpOk hle (I1.hok.fresh hle)
end

end M

set_option Elab.async false
set_option linter.all false
set_option maxRecDepth 100000
set_option maxHeartbeats 2000000
namespace M
open PySem PySem.Spec PyProof.Rows L2

/-- the cells of a begun vault -/
def begunC (v : Vlt) (hs : List Int) : List (Int × Int) := (v.cells.map (·.1)).zip hs
theorem begun_good {v : Vlt} {hs : List Int} (g : VGood v) (so : StateOk (v.cells.map (·.1)) hs) : VGood ⟨begunC v hs, v.deeds⟩ := by
  have l : (begunC v hs).length = v.cells.length := by
    have := so.1
    rw [List.length_map] at this
    unfold begunC
    rw [List.length_zip, List.length_map]
    omega
  refine ⟨by show 1 ≤ (begunC v hs).length; rw [l]; exact g.c0, by show (begunC v hs).length ≤ 6; rw [l]; exact g.c1, fun c hc => ?_, g.d0, g.d1, fun d hd => by show DeedOk (begunC v hs).length d; rw [l]; exact g.ds d hd, g.nd⟩
  obtain ⟨i, hi, e⟩ := List.mem_iff_getElem.mp (show c ∈ begunC v hs from hc)
  have e2 : (begunC v hs)[i]? = some c := by rw [List.getElem?_eq_getElem hi, e]
  unfold begunC at e2
  rw [List.getElem?_zip_eq_some] at e2
  have st := so.2 i _ _ e2.1 e2.2
  rw [List.getElem?_map] at e2
  obtain ⟨c0, h0, h1⟩ := Option.map_eq_some_iff.mp e2.1
  have ok := g.cs c0 (List.mem_of_getElem? h0)
  rw [← h1] at st
  exact ⟨by rw [← h1]; exact ok.1, by rw [← h1]; exact ok.2.1, st.1, by rw [← h1]; exact st.2⟩
theorem dps_of {K : PySem.W.Frag} {H : Hp} : ∀ {vs : List V} {ds : List PyData}, vs.length = ds.length → (∀ (i : Nat) (v : V) (d : PyData), vs[i]? = some v → ds[i]? = some d → Dp K H v d) → DpAll K H vs ds
  | [], [], _, _ => .nil
  | v :: vs, d :: ds, l, h => .cons (h 0 v d rfl rfl) (dps_of (by simpa using l) fun i v' d' hv hd => h (i + 1) v' d' hv hd)
  | [], _ :: _, l, _ => by simp at l
  | _ :: _, [], l, _ => by simp at l
theorem pairs_cells {K : PySem.W.Frag} {H : Hp} {acc : List V} {ss hs : List Int} (l : acc.length = ss.length) (l2 : ss.length = hs.length) (h : PairsIn H acc (ss.map V.int) (hs.map V.int)) : DpAll K H acc ((ss.zip hs).map cellD) := by
  refine dps_of (by rw [l, List.length_map, List.length_zip]; omega) fun i v d hv hd => ?_
  obtain ⟨T, x, y, rfl, g1, g2, g3⟩ := h i v hv
  rw [List.getElem?_map] at g1 g2 hd
  obtain ⟨a, ha, rfl⟩ := Option.map_eq_some_iff.mp g1
  obtain ⟨b, hb, rfl⟩ := Option.map_eq_some_iff.mp g2
  obtain ⟨c, hc, rfl⟩ := Option.map_eq_some_iff.mp hd
  have := List.getElem?_zip_eq_some.mp hc
  have e1 : c.1 = a := Option.some.inj (this.1.symm.trans ha)
  have e2 : c.2 = b := Option.some.inj (this.2.symm.trans hb)
  show Dp K H (.ref T) (.tuple [.int c.1, .int c.2])
  rw [e1, e2]
  exact .tup (.of g3) (.cons (.int _) (.cons (.int _) .nil))
section
variable {P : Program} {w : World} {K : PySem.W.Frag} {mg : Str → Option Value} {base : Heap}
def spShape (K : PySem.W.Frag) : Sp := fun vs H Q _ => ∃ (p : Addr) (v : Vlt), vs = [.ref p] ∧ VaultAt K H p v ∧ ∀ (t : Addr) (x d : V) (H' : Hp), Same H H' → H' t = some (.tup [x, d]) → Dp K H' x (.tuple (v.cells.map cellD)) → Dp K H' d (.tuple (v.deeds.map deedD)) → Q (.ref t) H'
theorem me_Vault_shape (T : Txt w K mg) : Me P w K mg base 1 (He.ga K "Vault") "shape" (spShape K) := by
  refine me_of (N := ["self"]) (ps := ["self"]) T.f_Vault_shape T.c_Vault T.m_Vault_shape ⟨rfl, rfl, rfl, by decide +kernel, rfl, by decide +kernel, by decide +kernel⟩ (fun _ _ _ _ _ _ us hl => match us, hl with | [_], _ => rfl)
    (fun vs H Q E h => by obtain ⟨p, v, rfl, hv, q⟩ := h; rfl) (fun cdv A outer s H vs Q E hr h => ?_)
  have nd : (["self"] : List Str).Nodup := by decide +kernel
  obtain ⟨p, v, rfl, hv, q⟩ := h
  obtain ⟨dx, a, d, c, b, kvs, h1, h2, h3, h4, h5⟩ := hv.ob
  refine ⟨_, pss_one (ps_ret (pe_tup (pa_cons (pe_fld (pv 0) rfl) (pa_cons (pe_fld (pv 0) rfl) pa_nil)))), ?_⟩
  refine ⟨_, rfl, p, _, _, _, _, rfl, h1, T.c_Vault, T.n_Vault_cells, vf_cells .., _, rfl, p, _, _, _, _, rfl, h1, T.c_Vault, T.n_Vault_deeds, vf_deeds .., (by show 2 ≤ sizeLine; decide), fun t nt => ?_⟩
  exact q t _ _ _ (same_new nt) upd_same (dp_same (same_new nt) h2) (dp_same (same_new nt) h3)
def spBegun (K : PySem.W.Frag) : Sp := fun vs H Q _ => ∃ (p b : Addr) (v : Vlt) (hs : List Int), vs = [.ref p, .ref b] ∧ VaultAt K H p v ∧ VGood v ∧ SqT K H b (hs.map .int) ∧ StateOk (v.cells.map (·.1)) hs ∧ ∀ (x : Addr) (H' : Hp), Same H H' → H x = none → VaultAt K H' x ⟨begunC v hs, v.deeds⟩ → Q (.ref x) H'
theorem ca_begun (T : Txt w K mg) : Ca P w K mg base 55 "begun" (spBegun K) := by
  refine ca_of (N := ["vault", "state"]) (ps := ["vault", "state"]) T.f_begun T.g_begun ⟨rfl, rfl, rfl, by decide +kernel, rfl, by decide +kernel, by decide +kernel⟩ (fun _ _ _ _ _ _ us hl => match us, hl with | [_, _], _ => rfl)
    (fun vs H Q E h => by obtain ⟨p, b, v, hs, rfl, hv, gd, hb, so, q⟩ := h; rfl) (fun cdv A outer s H vs Q E hr h => ?_)
  have nd : (["vault", "state"] : List Str).Nodup := by decide +kernel
  obtain ⟨p, b, v, hs, rfl, hv, gd, hb, so, q⟩ := h
  refine ⟨_, (pss_cons (ps_expr (pe_ca (ca_check_state T) hr (pa_cons (pv 0) (pa_cons (pv 1) pa_nil))))
      (pss_one (ps_ret (pe_ma (ma_Vault T) hr (pa_cons (pe_lstZip (by rfl) (by rfl) T.b_list (by rfl) T.b_zip (pa_cons (pe_me0 (me_Vault_sizes T) hr (pv 0)) (pa_cons (pv 1) pa_nil))) (pa_cons (pe_callTy call_list_of (by rfl) T.b_list boot_list (pa_cons (pe_ix ix_tup (pe_me0 (me_Vault_shape T) hr (pv 0)) pe_int (fun _ _ => rfl)) pa_nil)) pa_nil)))))), ?_⟩
  refine ⟨_, rfl, _, rfl, p, b, v, hs, rfl, hv, gd.ok, hb, so, fun H1 s1 => ?_⟩
  obtain ⟨dx, gs, e1, e2⟩ := (hv.same s1).me "sizes"
  refine ⟨_, rfl, p, dx, gs, rfl, e1, e2, p, v, rfl, hv.same s1, gd.c1, fun sa H2 s2 hsz => ?_⟩
  have s12 := s1.trans s2
  have lhs : v.cells.length = hs.length := by
    have := so.1
    rw [List.length_map] at this
    exact this
  have c6 := gd.c1
  refine ⟨_, rfl, sa, b, _, _, rfl, .of hsz, same_t s12 hb, by simp [lhs], by simp; omega, fun l acc H3 nl s3 hl la pr => ?_⟩
  have s13 := s12.trans s3
  have la' : acc.length = (v.cells.map (·.1)).length := by simpa using la
  have dcs : DpAll K H3 acc ((begunC v hs).map cellD) := pairs_cells la' (by simp [lhs]) pr
  obtain ⟨dx2, gs2, e3, e4⟩ := (hv.same s13).me "shape"
  refine ⟨_, rfl, p, dx2, gs2, rfl, e3, e4, p, v, rfl, hv.same s13, fun t xx dd H4 s4 ht _ hdd => ?_⟩
  obtain ⟨da, dxs, rfl, hda, hdx⟩ := dp_tup hdd
  refine ⟨_, _, _, _, rfl, rfl, .of ht, at1, da, dxs, rfl, .inr hda, fun l2 nl2 => ?_⟩
  have s5 : Same H4 (upd H4 l2 (.lst dxs)) := same_new nl2
  have x2 : upd H4 l2 (.lst dxs) l2 = some (.lst dxs) := upd_same
  generalize upd H4 l2 (.lst dxs) = H5 at s5 x2 ⊢
  intro x dxa hx hdxa ne
  have w3 : Same H5 (upd (upd H5 dxa (.own x)) x (.ins (He.ga K "Vault") dxa [])) := (same_new hdxa).trans (same_new (by rw [upd_ne (Ne.symm ne)]; exact hx))
  have s35 := s4.trans s5
  have s05 := (s13.trans s4).trans s5
  refine ⟨x, dxa, l, l2, acc, dxs, ⟨begunC v hs, v.deeds⟩, rfl, upd_same, .of ((s35.trans w3) _ _ hl), dps_same (s35.trans w3) dcs, .of (w3 _ _ x2), dps_same (s5.trans w3) hdx, begun_good gd so, fun H6 b6 vt => ⟨rfl, q x H6 (fun b o e => b6 _ _ (ne_of_none (s05 _ _ e) hx) ((s05.trans w3) _ _ e)) (none_of s05 hx) vt⟩⟩
end

end M

set_option Elab.async false
set_option linter.all false
set_option maxRecDepth 100000
set_option maxHeartbeats 2000000
namespace M
open PySem PySem.Spec PyProof.Rows L2

/-- the vault's own word on coins -/
def FlagAt (K : PySem.W.Frag) (H : Hp) (p : Addr) (v : Vlt) : Prop := ∃ dx a d c : Addr, H p = some (.ins (He.ga K "Vault") dx (vflds a d c (hasW v.deeds "coin")))
theorem FlagAt.same {K : PySem.W.Frag} {H H' : Hp} {p : Addr} {v : Vlt} (s : Same H H') (h : FlagAt K H p v) : FlagAt K H' p v := by
  obtain ⟨dx, a, d, c, e⟩ := h
  exact ⟨dx, a, d, c, s _ _ e⟩
namespace F
section
variable {P : Program} {w : World} {K : PySem.W.Frag} {mg : Str → Option Value} {base : Heap}
def spVault (K : PySem.W.Frag) : Sp := fun vs H Q _ => ∃ (p dx a b : Addr) (xs ys : List V) (v : Vlt), vs = [.ref p, .ref a, .ref b] ∧ H p = some (.ins (He.ga K "Vault") dx []) ∧ SqL K H a xs ∧ DpAll K H xs (v.cells.map cellD) ∧ SqL K H b ys ∧ DpAll K H ys (v.deeds.map deedD) ∧ VGood v ∧ ∀ H', But p H H' → VaultAt K H' p v → FlagAt K H' p v → Q .non H'
theorem ma_Vault (T : Txt w K mg) : Ma P w K mg base 53 "Vault" (He.ga K "Vault") (spVault K) := by
  refine ma_of (N := ["self", "cells", "deeds", "name", "_", "body"]) (ps := ["self", "cells", "deeds"]) T.f_Vault_init T.g_Vault T.k_Vault ⟨rfl, rfl, rfl, by decide +kernel, rfl, by decide +kernel, by decide +kernel⟩ (fun _ _ _ _ _ _ us hl => match us, hl with | [_, _, _], _ => rfl)
    (fun vs H Q E h => by obtain ⟨p, dx, a, b, xs, ys, v, rfl, hp, ha, hxs, hb, hys, g, q⟩ := h; rfl) (fun cdv A outer s H vs Q E hr h => ?_)
  have nd : (["self", "cells", "deeds", "name", "_", "body"] : List Str).Nodup := by decide +kernel
  obtain ⟨p, dx, a, b, xs, ys, v, rfl, hp, ha, hxs, hb, hys, g, q⟩ := h
  refine ⟨_, (pss_cons (ps_if (PW.pt (pw_or (pt_not (pt_val (pe_is .list T.b_isinstance (pv 1) T.b_list boot_list))) (pw_or1 (pt_not (pt_val (pe_ca (ca_are_cells T) hr (pa_cons (pv 1) pa_nil))))))) (pss_one ps_never) pss_nil)
      (pss_cons (ps_if (PW.pt (pw_or (pt_not (pt_val (pe_is .list T.b_isinstance (pv 2) T.b_list boot_list))) (pw_or1 (pt_not (pt_val (pe_ca (ca_are_deeds T) hr (pa_cons (pv 2) (pa_cons (pe_callB call_len_seq (by rfl) T.b_len PySem.boot_len (pa_cons (pv 1) pa_nil)) pa_nil)))))))) (pss_one ps_never) pss_nil)
      (pss_cons (ps_fld (pv 0) (pe_tupleOf (by rfl) T.b_tuple (pv 1)) rfl)
      (pss_cons (ps_fld (pv 0) (pe_tupleOf (by rfl) T.b_tuple (pv 2)) rfl)
      (pss_cons (ps_fld (pv 0) (pe_dc (own := [("name", 3), ("_", 4), ("body", 5)]) (tt := tYes) rfl nd (pi_list (pv 2)) (blkOk_by (N := ["self", "cells", "deeds", "name", "_", "body"]) (sc := defScope s_Vault_init) (by decide +kernel)) (fun _ _ _ _ _ => pg_three K 3 4 5 rfl rfl nd rfl rfl rfl (.inl rfl) (.inl rfl) (.inl rfl) (.inr rfl) (.inr rfl) (.inr rfl)) (fun _ _ _ _ _ => pts_nil) (fun _ _ _ _ _ => pv 3) (fun _ _ _ _ _ => pe_ca (ca_code_of T) hr (pa_cons (pv 5) pa_nil))) rfl)
      (pss_one (ps_fld (pv 0) (pe_ca (ca_has_row T) hr (pa_cons (pe_fld (pv 0) rfl) (pa_cons pe_str pa_nil))) rfl))))))), ?_⟩
  refine ⟨_, rfl, _, _, rfl, .list ha, _, rfl, iteF ?_⟩
  refine ⟨_, rfl, a, xs, v.cells, rfl, ha, hxs, g.c0, g.c1, g.cs, _, rfl, iteF ?_⟩
  refine ⟨_, rfl, _, _, rfl, .list hb, _, rfl, iteF ?_⟩
  have lx : xs.length = v.cells.length := by rw [dps_len hxs, List.length_map]
  have ly : ys.length = v.deeds.length := by rw [dps_len hys, List.length_map]
  refine ⟨_, rfl, _, rfl, _, _, rfl, .inl ha, b, ys, v.deeds, v.cells.length, by rw [lx]; rfl, hb, hys, g.d0, g.d1, g.ds, g.nd, fun H1 s1 => ⟨_, rfl, iteF ?_⟩⟩
  refine ⟨_, rfl, .inl ⟨a, xs, rfl, s1.seq ha, fun t1 nt1 => ?_⟩⟩
  have hp1 := s1 _ _ hp
  have nt1p : t1 ≠ p := fun e => by rw [e, hp1] at nt1; cases nt1
  have s2 : Same H (upd H1 t1 (.tup xs)) := s1.trans (same_new nt1)
  refine ⟨_, rfl, p, _, dx, _, rfl, s2 _ _ hp, T.c_Vault, T.n_Vault_cells, (by show 0 < 1000; decide), ?_⟩
  have np2 : NoLst (upd H1 t1 (.tup xs)) p := .ins (s2 _ _ hp)
  have cp2 : Ch (upd H1 t1 (.tup xs)) p := .ins (s2 _ _ hp)
  generalize eH2 : upd H1 t1 (.tup xs) = H2 at s2 np2 cp2
  have at2 : H2 t1 = some (.tup xs) := by rw [← eH2, upd_same]
  generalize eH3 : upd H2 p (.ins (He.ga K "Vault") dx (putF "_cells" (.ref t1) [])) = H3
  have b3 : But p H2 H3 := eH3 ▸ But.upd
  have hp3 : H3 p = some (.ins (He.ga K "Vault") dx (putF "_cells" (.ref t1) [])) := by rw [← eH3, upd_same]
  have hb3 : SqL K H3 b ys := sqL_but np2 b3 (s2.seq hb)
  refine ⟨_, rfl, .inl ⟨b, ys, rfl, hb3, fun t2 nt2 => ?_⟩⟩
  have s4 : Same H3 (upd H3 t2 (.tup ys)) := same_new nt2
  refine ⟨_, rfl, p, _, dx, _, rfl, s4 _ _ hp3, T.c_Vault, T.n_Vault_deeds, (by show 1 < 1000; decide), ?_⟩
  generalize eH4 : upd H3 t2 (.tup ys) = H4 at s4
  have at4 : H4 t2 = some (.tup ys) := by rw [← eH4, upd_same]
  have hp4 := s4 _ _ hp3
  have np4 : NoLst H4 p := .ins hp4
  have cp4 : Ch H4 p := .ins hp4
  generalize eH5 : upd H4 p (.ins (He.ga K "Vault") dx (putF "_deeds" (.ref t2) (putF "_cells" (.ref t1) []))) = H5
  have b5 : But p H4 H5 := eH5 ▸ But.upd
  have hp5 : H5 p = some (.ins (He.ga K "Vault") dx (putF "_deeds" (.ref t2) (putF "_cells" (.ref t1) []))) := by rw [← eH5, upd_same]
  have hb5 : SqL K H5 b ys := sqL_but np4 b5 (s4.seq hb3)
  have b25 : But p H2 H5 := (b3.trans (same_but s4)).trans b5
  have at5 : H5 t1 = some (.tup xs) := b25 _ _ nt1p at2
  have nt2p : t2 ≠ p := fun e => by rw [e, hp3] at nt2; cases nt2
  have at52 : H5 t2 = some (.tup ys) := b5 _ _ nt2p at4
  have hxs5 : DpAll K H5 xs (v.cells.map cellD) := cells_but cp2 b25 (dps_same s2 hxs)
  have hys5 : DpAll K H5 ys (v.deeds.map deedD) := deeds_but cp2 b25 (dps_same s2 hys)
  refine ⟨_, rfl, b, rfl, ⟨_, hb5⟩, fun D hD => ?_⟩
  refine it_any (n := ys.length) walk_list (fun i H' => ∃ kvs, Same H5 H' ∧ H' D = some (.dK kvs) ∧ CodesR K H' kvs (v.deeds.take i)) ⟨[], same_new hD, upd_same, trivial⟩ (fun i H' _ ⟨_, s, _⟩ => s.seq hb5) ?_ ?_
  · rintro i x H' H6 hi ⟨kvs, s, eD, hc⟩ ⟨rfl, ex⟩
    obtain ⟨dd, ed, hdd⟩ := dps_get hys5 ex
    obtain ⟨d, ec, rfl⟩ := get_mapA ed
    obtain ⟨t, x1, x2, x3, rfl, ht, e1, e2, e3⟩ := dp3 (dp_same s hdd)
    cases dp_str e1
    have ok := g.ds d (List.mem_of_getElem? ec)
    refine ⟨t, _, rfl, ht, rfl, _, _, rfl, _, _, rfl, _, _, rfl, rfl, rfl, ?_⟩
    refine ⟨_, rfl, _, rfl, x3, d.2.2, v.cells.length, rfl, e3, ok.2.2.1, ok.2.2.2.2, fun H7 u s7 hu => ?_⟩
    have nn : d.1 ∉ (v.deeds.take i).map (·.1) := fun hm => by
      obtain ⟨d', hd', ed'⟩ := List.mem_map.mp hm
      obtain ⟨j, hj, ej⟩ := List.mem_iff_getElem.mp hd'
      rw [List.length_take] at hj
      rw [List.getElem_take] at ej
      have n1 : (v.deeds.map (·.1))[i]? = some d.1 := by rw [List.getElem?_map, ec]; rfl
      have n2 : (v.deeds.map (·.1))[j]? = some d.1 := by
        rw [List.getElem?_map, List.getElem?_eq_getElem (by omega : j < v.deeds.length), ej]
        exact congrArg some ed'
      have := nd_ix g.nd n1 n2
      omega
    have hl : kvs.length = (v.deeds.take i).length := codes_len hc
    have hl8 : (v.deeds.take i).length ≤ 8 := by rw [List.length_take]; have := g.d1; omega
    refine ⟨kvs, Sum.inr d.1, rfl, s7 _ _ eD, by rw [sizeLine_eq]; omega, _, ?_, upd_same, ?_⟩
    · exact fun b' o e => by
        rw [upd_ne (ne_of_none e hD)]
        exact s7 _ _ (s _ _ e)
    · rw [putK_new u (codes_no hc nn), take_more ec]
      exact codes_snoc (dp_but (.dK (s7 _ _ eD)) But.upd hu (code_noL _)) (codes_but (.dK (s7 _ _ eD)) But.upd (codes_same s7 hc))
  · rintro H6 ⟨kvs, s6, eD, hc⟩
    rw [ly, List.take_length] at hc
    have hp6 := s6 _ _ hp5
    refine ⟨_, rfl, p, _, dx, _, rfl, hp6, T.c_Vault, T.n_Vault_codes, (by show 2 < 1000; decide), ?_⟩
    have cp6 : Ch H6 p := .ins hp6
    have nDp : D ≠ p := fun e => by rw [e, hp5] at hD; cases hD
    generalize eH7 : upd H6 p (.ins (He.ga K "Vault") dx (putF "_codes" (.ref D) (putF "_deeds" (.ref t2) (putF "_cells" (.ref t1) [])))) = H7
    have b7 : But p H6 H7 := eH7 ▸ But.upd
    have hp7 : H7 p = some (.ins (He.ga K "Vault") dx (putF "_codes" (.ref D) (putF "_deeds" (.ref t2) (putF "_cells" (.ref t1) [])))) := by rw [← eH7, upd_same]
    have eD7 := b7 _ _ nDp eD
    have hc7 := codes_but cp6 b7 hc
    refine ⟨_, rfl, p, _, dx, _, _, rfl, hp7, T.c_Vault, T.n_Vault_codes, vf_codes0 .., D, kvs, v.deeds, "coin", rfl, eD7, hc7, ?_⟩
    refine ⟨_, rfl, p, _, dx, _, rfl, hp7, T.c_Vault, T.n_Vault_coins, (by show 3 < 1000; decide), ?_⟩
    generalize eH8 : upd H7 p (.ins (He.ga K "Vault") dx (putF "_coins" (.bl (hasW v.deeds "coin")) (putF "_codes" (.ref D) (putF "_deeds" (.ref t2) (putF "_cells" (.ref t1) []))))) = H8
    have b8 : But p H7 H8 := eH8 ▸ But.upd
    have hp8 : H8 p = some (.ins (He.ga K "Vault") dx (putF "_coins" (.bl (hasW v.deeds "coin")) (putF "_codes" (.ref D) (putF "_deeds" (.ref t2) (putF "_cells" (.ref t1) []))))) := by rw [← eH8, upd_same]
    have b58 : But p H5 H8 := ((same_but s6).trans b7).trans b8
    have cp5 : Ch H5 p := .ins hp5
    refine q H8 ((same_but s2).trans (b25.trans b58)) ⟨dx, t1, t2, D, hasW v.deeds "coin", kvs, hp8, ?_, ?_, b8 _ _ nDp eD7, codes_but (.ins hp7) b8 hc7⟩ ⟨dx, t1, t2, D, hp8⟩
    · exact .tup (.of (b58 _ _ nt1p at5)) (cells_but cp5 b58 hxs5)
    · exact .tup (.of (b58 _ _ nt2p at52)) (deeds_but cp5 b58 hys5)
end
end F
section
variable {P : Program} {w : World} {K : PySem.W.Frag} {mg : Str → Option Value} {base : Heap}
def spHasCoins (K : PySem.W.Frag) : Sp := fun vs H Q _ => ∃ (p : Addr) (v : Vlt), vs = [.ref p] ∧ FlagAt K H p v ∧ Q (.bl (hasW v.deeds "coin")) H
end

end M

set_option Elab.async false
set_option linter.all false
set_option maxRecDepth 100000
set_option maxHeartbeats 2000000
namespace M
open PySem PySem.Spec PyProof.Rows L2

namespace F
section
variable {P : Program} {w : World} {K : PySem.W.Frag} {mg : Str → Option Value} {base : Heap}
def spBegun (K : PySem.W.Frag) : Sp := fun vs H Q _ => ∃ (p b : Addr) (v : Vlt) (hs : List Int), vs = [.ref p, .ref b] ∧ VaultAt K H p v ∧ VGood v ∧ SqT K H b (hs.map .int) ∧ StateOk (v.cells.map (·.1)) hs ∧ ∀ (x : Addr) (H' : Hp), Same H H' → H x = none → VaultAt K H' x ⟨begunC v hs, v.deeds⟩ → FlagAt K H' x ⟨begunC v hs, v.deeds⟩ → Q (.ref x) H'
theorem ca_begun (T : Txt w K mg) : Ca P w K mg base 55 "begun" (spBegun K) := by
  refine ca_of (N := ["vault", "state"]) (ps := ["vault", "state"]) T.f_begun T.g_begun ⟨rfl, rfl, rfl, by decide +kernel, rfl, by decide +kernel, by decide +kernel⟩ (fun _ _ _ _ _ _ us hl => match us, hl with | [_, _], _ => rfl)
    (fun vs H Q E h => by obtain ⟨p, b, v, hs, rfl, hv, gd, hb, so, q⟩ := h; rfl) (fun cdv A outer s H vs Q E hr h => ?_)
  have nd : (["vault", "state"] : List Str).Nodup := by decide +kernel
  obtain ⟨p, b, v, hs, rfl, hv, gd, hb, so, q⟩ := h
  refine ⟨_, (pss_cons (ps_expr (pe_ca (ca_check_state T) hr (pa_cons (pv 0) (pa_cons (pv 1) pa_nil))))
      (pss_one (ps_ret (pe_ma (ma_Vault T) hr (pa_cons (pe_lstZip (by rfl) (by rfl) T.b_list (by rfl) T.b_zip (pa_cons (pe_me0 (me_Vault_sizes T) hr (pv 0)) (pa_cons (pv 1) pa_nil))) (pa_cons (pe_callTy call_list_of (by rfl) T.b_list boot_list (pa_cons (pe_ix ix_tup (pe_me0 (me_Vault_shape T) hr (pv 0)) pe_int (fun _ _ => rfl)) pa_nil)) pa_nil)))))), ?_⟩
  refine ⟨_, rfl, _, rfl, p, b, v, hs, rfl, hv, gd.ok, hb, so, fun H1 s1 => ?_⟩
  obtain ⟨dx, gs, e1, e2⟩ := (hv.same s1).me "sizes"
  refine ⟨_, rfl, p, dx, gs, rfl, e1, e2, p, v, rfl, hv.same s1, gd.c1, fun sa H2 s2 hsz => ?_⟩
  have s12 := s1.trans s2
  have lhs : v.cells.length = hs.length := by
    have := so.1
    rw [List.length_map] at this
    exact this
  have c6 := gd.c1
  refine ⟨_, rfl, sa, b, _, _, rfl, .of hsz, same_t s12 hb, by simp [lhs], by simp; omega, fun l acc H3 nl s3 hl la pr => ?_⟩
  have s13 := s12.trans s3
  have la' : acc.length = (v.cells.map (·.1)).length := by simpa using la
  have dcs : DpAll K H3 acc ((begunC v hs).map cellD) := pairs_cells la' (by simp [lhs]) pr
  obtain ⟨dx2, gs2, e3, e4⟩ := (hv.same s13).me "shape"
  refine ⟨_, rfl, p, dx2, gs2, rfl, e3, e4, p, v, rfl, hv.same s13, fun t xx dd H4 s4 ht _ hdd => ?_⟩
  obtain ⟨da, dxs, rfl, hda, hdx⟩ := dp_tup hdd
  refine ⟨_, _, _, _, rfl, rfl, .of ht, at1, da, dxs, rfl, .inr hda, fun l2 nl2 => ?_⟩
  have s5 : Same H4 (upd H4 l2 (.lst dxs)) := same_new nl2
  have x2 : upd H4 l2 (.lst dxs) l2 = some (.lst dxs) := upd_same
  generalize upd H4 l2 (.lst dxs) = H5 at s5 x2 ⊢
  intro x dxa hx hdxa ne
  have w3 : Same H5 (upd (upd H5 dxa (.own x)) x (.ins (He.ga K "Vault") dxa [])) := (same_new hdxa).trans (same_new (by rw [upd_ne (Ne.symm ne)]; exact hx))
  have s35 := s4.trans s5
  have s05 := (s13.trans s4).trans s5
  refine ⟨x, dxa, l, l2, acc, dxs, ⟨begunC v hs, v.deeds⟩, rfl, upd_same, .of ((s35.trans w3) _ _ hl), dps_same (s35.trans w3) dcs, .of (w3 _ _ x2), dps_same (s5.trans w3) hdx, begun_good gd so, fun H6 b6 vt fl => ⟨rfl, q x H6 (fun b o e => b6 _ _ (ne_of_none (s05 _ _ e) hx) ((s05.trans w3) _ _ e)) (none_of s05 hx) vt fl⟩⟩
end
end F
section
variable {P : Program} {w : World} {K : PySem.W.Frag} {mg : Str → Option Value} {base : Heap}
def spPlain (K : PySem.W.Frag) : Sp := fun vs H Q _ => ∃ (p : Addr) (v : Vlt), vs = [.ref p] ∧ VaultAt K H p v ∧ FlagAt K H p v ∧ hasW v.deeds "coin" = false ∧ Q .non H
end

end M

set_option Elab.async false
set_option linter.all false
set_option maxRecDepth 100000
set_option maxHeartbeats 2000000
namespace M
open PySem PySem.Spec PyProof.Rows L2

/-- a row of calls as it stands -/
def RowIs (H : Hp) (xs : List V) (cs : List (Str × Int)) : Prop := xs.length = cs.length ∧ ∀ (i : Nat) (y : V), xs[i]? = some y → ∃ (t : Addr) (c : Str × Int), y = .ref t ∧ cs[i]? = some c ∧ H t = some (.tup [.str c.1, .int c.2])
theorem RowIs.same {H H' : Hp} {xs : List V} {cs : List (Str × Int)} (s : Same H H') (h : RowIs H xs cs) : RowIs H' xs cs := ⟨h.1, fun i y e => by
  obtain ⟨t, c, e1, e2, e3⟩ := h.2 i y e
  exact ⟨t, c, e1, e2, s _ _ e3⟩⟩
section
variable {P : Program} {w : World} {K : PySem.W.Frag} {mg : Str → Option Value} {base : Heap}
def spRowN (K : PySem.W.Frag) : Sp := fun vs H Q _ => ∃ (d r : Addr) (v : Vlt) (xs : List V) (cs : List (Str × Int)), vs = [.ref d, .ref r] ∧ H d = some (.dT (numK v.calls)) ∧ VOk v ∧ SqL K H r xs ∧ RowIs H xs cs ∧ (∀ c ∈ cs, c ∈ v.calls) ∧ ∀ H', Same H H' → Q .non H'
theorem ca_wrong_item (T : Txt w K mg) : Ca P w K mg base 4 "wrong_item" (spRowN K) := by
  refine ca_of (N := ["numbers", "row", "index", "item"]) (ps := ["numbers", "row"]) T.f_wrong_item T.g_wrong_item ⟨rfl, rfl, rfl, by decide +kernel, rfl, by decide +kernel, by decide +kernel⟩ (fun _ _ _ _ _ _ us hl => match us, hl with | [_, _], _ => rfl)
    (fun vs H Q E h => by obtain ⟨d, r, v, xs, cs, rfl, hd, ok, hr', rw', hc, q⟩ := h; rfl) (fun cdv A outer s H vs Q E hr h => ?_)
  have nd : (["numbers", "row", "index", "item"] : List Str).Nodup := by decide +kernel
  obtain ⟨d, r, v, xs, cs, rfl, hd, ok, hr', rw', hc, q⟩ := h
  refine ⟨_, (pss_cons (ps_for PassesOwn.never rfl (pi_enum (by rfl) T.b_enumerate (pa_cons (pv 1) pa_nil)) (pg_two K 2 3 rfl rfl nd rfl rfl (.inl rfl) (.inl rfl) (.inr rfl) (.inr rfl)) (pss_one (ps_if (pt_cmpR op_lt (pe_ca (ca_call_number T) hr (pa_cons (pv 0) (pa_cons (pv 3) pa_nil))) pe_int (nomark _)) (pss_one (ps_ret (pv 2))) pss_nil)))
      (pss_one (ps_ret pe_non))), ?_⟩
  refine ⟨_, rfl, r, xs, rfl, hr', for_it (n := xs.length) walk_enum (fun i σ' H' => ∃ (x2 x3 : Option V), σ' = [some (.ref d), some (.ref r), x2, x3] ∧ Same H H') ⟨none, none, rfl, Same.refl _⟩ (fun i σ' H' _ ⟨_, _, _, s⟩ => s.seq hr') ?_ ?_⟩
  · rintro i x σ' H1 H2 hi ⟨x2, x3, rfl, s⟩ ⟨T, a, b, rfl, hT, rfl, ea, eb⟩
    cases (Option.some.inj ea)
    obtain ⟨t, c, rfl, e2, e3⟩ := rw'.2 i b eb
    have w1 : Same H1 (upd H1 T (.tup [.int (i : Nat), .ref t])) := same_new hT
    have s2 := s.trans w1
    obtain ⟨j, hj, ej⟩ := List.mem_iff_getElem.mp (hc c (List.mem_of_getElem? e2))
    have hj' : v.calls[j]? = some c := by rw [List.getElem?_eq_getElem hj, ej]
    refine ⟨T, _, rfl, .of upd_same, rfl, _, _, rfl, _, _, rfl, rfl, ?_⟩
    refine ⟨_, rfl, _, rfl, d, t, _, c, (j : Nat), rfl, s2 _ _ hd, s2 _ _ e3, numK_val (calls_nd ok.nd) hj', ?_⟩
    refine ⟨_, _, rfl, rfl, _, rfl, ?_⟩
    rw [decide_eq_false (show ¬ ((j : Nat) : Int) < 0 from by omega)]
    exact iteF ⟨_, _, rfl, s2⟩
  · rintro σ' H1 ⟨x2, x3, rfl, s⟩
    exact q H1 s
theorem ca_check_row (T : Txt w K mg) : Ca P w K mg base 6 "check_row" (spRowN K) := by
  refine ca_of (N := ["numbers", "row", "index"]) (ps := ["numbers", "row"]) T.f_check_row T.g_check_row ⟨rfl, rfl, rfl, by decide +kernel, rfl, by decide +kernel, by decide +kernel⟩ (fun _ _ _ _ _ _ us hl => match us, hl with | [_, _], _ => rfl)
    (fun vs H Q E h => by obtain ⟨d, r, v, xs, cs, rfl, hd, ok, hr', rw', hc, q⟩ := h; rfl) (fun cdv A outer s H vs Q E hr h => ?_)
  have nd : (["numbers", "row", "index"] : List Str).Nodup := by decide +kernel
  obtain ⟨d, r, v, xs, cs, rfl, hd, ok, hr', rw', hc, q⟩ := h
  refine ⟨_, (pss_cons (ps_if (pt_not (pt_val (pe_is .list T.b_isinstance (pv 1) T.b_list boot_list))) (pss_one ps_never) pss_nil)
      (pss_cons (ps_set (i := 2) nd rfl (.inl rfl) (pe_ca (ca_wrong_item T) hr (pa_cons (pv 0) (pa_cons (pv 1) pa_nil))))
      (pss_one (ps_if (pt_cmp (pc_notN (pv 2))) (pss_one ps_never) pss_nil)))), ?_⟩
  refine ⟨_, rfl, _, _, rfl, .list hr', _, rfl, iteF ?_⟩
  refine ⟨_, rfl, _, rfl, d, r, v, xs, cs, rfl, hd, ok, hr', rw', hc, fun H1 s1 => ?_⟩
  refine ⟨_, rfl, _, rfl, ?_⟩
  exact iteF (q H1 s1)
end

end M

set_option Elab.async false
set_option linter.all false
set_option maxRecDepth 100000
set_option maxHeartbeats 2000000
namespace M
open PySem PySem.Spec PyProof.Rows L2

/-- one call without coins -/
def Way1 (code : List FR) (sides hs : List Int) (a r : Int) (cs : List Int) : Prop := ∃ (n : Nat) (st' : Mst), Fin n (mst0 code sides hs [] a) st' ∧ st'.res = some r ∧ st'.cells = cs
/-- a row of calls, one behind the other: the answers and the cells behind -/
inductive PastM (v : Vlt) : List Int → List (Str × Int) → List Int → List Int → Prop
  | nil {hs : List Int} : PastM v hs [] [] hs
  | cons {hs hs1 hs2 : List Int} {a r : Int} {cs : List (Str × Int)} {rs : List Int} {d : Str × Int × List Row} (hd : d ∈ v.deeds) (ar : 0 ≤ a ∧ a < d.2.1) (so : StateOk (v.cells.map (·.1)) hs) (h : Way1 (codeOf d.2.2) (v.cells.map (·.1)) hs a r hs1) (k : PastM v hs1 cs rs hs2) : PastM v hs ((d.1, a) :: cs) (r :: rs) hs2
section
variable {P : Program} {w : World} {K : PySem.W.Frag} {mg : Str → Option Value} {base : Heap}
def spMade (K : PySem.W.Frag) : Sp := fun vs H Q _ => ∃ (p r : Addr) (v : Vlt) (xs : List V) (cs : List (Str × Int)) (rs hs2 : List Int), vs = [.ref p, .ref r] ∧ VaultAt K H p v ∧ FlagAt K H p v ∧ hasW v.deeds "coin" = false ∧ VGood v ∧ SqL K H r xs ∧ RowIs H xs cs ∧ (∀ c ∈ cs, c ∈ v.calls) ∧ cs.length ≤ 1000 ∧ PastM v (v.cells.map (·.2)) cs rs hs2 ∧
  ∀ (z za zc : Addr) (H' : Hp), Same H H' → H' z = some (.tup [.ref za, .ref zc]) → H' za = some (.lst (rs.map .int)) → H' zc = some (.tup (hs2.map .int)) → H za = none → Q (.ref z) H'
end

end M

set_option Elab.async false
set_option linter.all false
set_option maxRecDepth 100000
set_option maxHeartbeats 2000000
namespace M
open PySem PySem.Spec PyProof.Rows L2

section
variable {P : Program} {w : World} {K : PySem.W.Frag} {mg : Str → Option Value} {base : Heap}
/-- a plain vault, a good row, and what comes of it -/
structure PastAt (K : PySem.W.Frag) (H : Hp) (p r : Addr) (v : Vlt) (xs : List V) (cs : List (Str × Int)) (rs hs2 : List Int) : Prop where
  vt : VaultAt K H p v
  fl : FlagAt K H p v
  pl : hasW v.deeds "coin" = false
  gd : VGood v
  sq : SqL K H r xs
  rw : RowIs H xs cs
  ca : ∀ c ∈ cs, c ∈ v.calls
  ln : cs.length ≤ 1000
  pm : PastM v (v.cells.map (·.2)) cs rs hs2
def spLed (K : PySem.W.Frag) : Sp := fun vs H Q _ => ∃ (p r : Addr) (v : Vlt) (xs : List V) (cs : List (Str × Int)) (rs hs2 : List Int), vs = [.ref p, .ref r] ∧ PastAt K H p r v xs cs rs hs2 ∧ ∀ (z : Addr) (H' : Hp), Same H H' → H' z = some (.tup (hs2.map .int)) → Q (.ref z) H'
def spAnswered (K : PySem.W.Frag) : Sp := fun vs H Q _ => ∃ (p r : Addr) (v : Vlt) (xs : List V) (cs : List (Str × Int)) (rs hs2 : List Int), vs = [.ref p, .ref r] ∧ PastAt K H p r v xs cs rs hs2 ∧ ∀ (z : Addr) (H' : Hp), Same H H' → H z = none → H' z = some (.lst (rs.map .int)) → Q (.ref z) H'
end

end M

set_option Elab.async false
set_option linter.all false
set_option maxRecDepth 100000
set_option maxHeartbeats 2000000
namespace M
open PySem PySem.Spec PyProof.Rows L2

def NoCoin (c : List FR) : Prop := ∀ f ∈ c, ¬ f.hd = some "coin"
theorem NoCoin.app {a b : List FR} (h : NoCoin a) (k : NoCoin b) : NoCoin (a ++ b) := fun f m => (List.mem_append.mp m).elim (h f) (k f)
theorem NoCoin.one {f : FR} (h : ¬ f.hd = some "coin") : NoCoin [f] := fun g m => by rw [List.mem_singleton.mp m]; exact h
theorem NoCoin.put {a : List FR} {f : FR} {i : Nat} (h : NoCoin a) (k : ¬ f.hd = some "coin") : NoCoin (a.set i f) := fun g m => by
  rcases List.mem_or_eq_of_mem_set m with e | e
  · exact h g e
  · rw [e]
    exact k
theorem hd_ne {s : Str} (h : ¬ s = ("coin" : Str)) : ¬ (some s : Option Str) = some ("coin" : Str) := fun e => h (Option.some.inj e)
theorem hd_un (e : Exp) (p : Nat) : ¬ (FR.unless e p).hd = some ("coin" : Str) := hd_ne (s := "unless") (by decide +kernel)
theorem hd_on (p : Nat) : ¬ (FR.on p).hd = some ("coin" : Str) := hd_ne (s := "on") (by decide +kernel)
theorem hd_rs (e : Exp) : ¬ (FR.rounds e).hd = some ("coin" : Str) := hd_ne (s := "rounds") (by decide +kernel)
theorem hd_rd (p : Nat) : ¬ (FR.round p).hd = some ("coin" : Str) := hd_ne (s := "round") (by decide +kernel)
theorem hd_ho : ¬ FR.hole.hd = some ("coin" : Str) := fun e => nomatch e
theorem hd_row {r : Row} (h : r.cc = 0) : ¬ (FR.row r).hd = some ("coin" : Str) := by
  cases r with
  | coin x => exact absurd (show (1 : Nat) = 0 from h) (by decide)
  | read => exact hd_ne (s := "read") (by decide +kernel)
  | set => exact hd_ne (s := "set") (by decide +kernel)
  | swap => exact hd_ne (s := "swap") (by decide +kernel)
  | keep => exact hd_ne (s := "keep") (by decide +kernel)
  | iff => exact hd_ne (s := "if") (by decide +kernel)
  | times => exact hd_ne (s := "times") (by decide +kernel)
  | ans => exact hd_ne (s := "answer") (by decide +kernel)
mutual
theorem putRow_nc : ∀ {r : Row} {c : List FR}, r.cc = 0 → NoCoin c → NoCoin (putRow r c)
  | .iff e a b, c, h, n => by
    have h : rowsCc a + rowsCc b = 0 := h
    exact (putRows_nc (rs := b) (by omega) (((putRows_nc (rs := a) (by omega) (n.app (.one hd_ho))).app (.one hd_ho)).put (hd_un _ _))).put (hd_on _)
  | .times e a, c, h, n => by
    have h : rowsCc a = 0 := h
    exact ((putRows_nc (rs := a) h (n.app (NoCoin.app (a := [FR.rounds e]) (.one (hd_rs _)) (.one hd_ho)))).app (.one (hd_on _))).put (hd_rd _)
  | .read r k, c, h, n => n.app (.one (hd_row h))
  | .set k e, c, h, n => n.app (.one (hd_row h))
  | .swap r k e f, c, h, n => n.app (.one (hd_row h))
  | .keep r e, c, h, n => n.app (.one (hd_row h))
  | .coin r, c, h, n => n.app (.one (hd_row h))
  | .ans e, c, h, n => n.app (.one (hd_row h))
theorem putRows_nc : ∀ {rs : List Row} {c : List FR}, rowsCc rs = 0 → NoCoin c → NoCoin (putRows rs c)
  | [], c, _, n => n
  | r :: rs, c, h, n => by
    have h : r.cc + rowsCc rs = 0 := h
    exact putRows_nc (rs := rs) (by omega) (putRow_nc (r := r) (by omega) n)
end
theorem plain_hasW {ds : List (Str × Int × List Row)} (h : ∀ d ∈ ds, rowsCc d.2.2 = 0) : hasW ds "coin" = false := by
  unfold hasW
  rw [List.any_eq_false]
  intro d hd
  rw [Bool.not_eq_true, List.any_eq_false]
  intro f hf
  have := ((putRows_nc (c := []) (h d hd) (fun f m => by simp at m)).app (NoCoin.one (f := .row (.ans (.num 0))) (hd_row rfl))) f hf
  simpa using this

end M

set_option Elab.async false
set_option linter.all false
set_option maxRecDepth 100000
set_option maxHeartbeats 2000000
namespace M
open PySem PySem.Spec PyProof.Rows L2

/-! ### what the law draws -/
def PoolAt (H : Hp) (a : Addr) : Prop := ∃ g s n : Int, H a = some (.lst [.int g, .int s, .int n]) ∧ 0 ≤ g ∧ (0 ≤ s ∧ s < 1099511627776) ∧ 0 ≤ n
section
variable {P : Program} {w : World} {K : PySem.W.Frag} {mg : Str → Option Value} {base : Heap}
def spPool (K : PySem.W.Frag) : Sp := fun vs H Q _ => ∃ (a : Addr) (ns : List Int) (k : Int), vs = [.ref a, .int k] ∧ SqL K H a (ns.map .int) ∧ ns.length ≤ 63 ∧ (0 ≤ k ∧ k ≤ 63) ∧ ∀ (p : Addr) (H' : Hp), Same H H' → H p = none → PoolAt H' p → Q (.ref p) H'
theorem ca_l_pool (T : Txt w K mg) : Ca P w K mg base 1 "_law_pool" (spPool K) := by
  refine ca_of (N := ["_law_script", "_law_k", "_law_cell", "_law_seed"]) (ps := ["_law_script", "_law_k"]) T.f_l_pool T.g_law_pool ⟨rfl, rfl, rfl, by decide +kernel, rfl, by decide +kernel, by decide +kernel⟩ (fun _ _ _ _ _ _ us hl => match us, hl with | [_, _], _ => rfl)
    (fun vs H Q E h => by obtain ⟨a, ns, k, rfl, ha, hl, hk, q⟩ := h; rfl) (fun cdv A outer s H vs Q E hr h => ?_)
  have nd : (["_law_script", "_law_k", "_law_cell", "_law_seed"] : List Str).Nodup := by decide +kernel
  obtain ⟨a, ns, k, rfl, ha, hl, hk, q⟩ := h
  refine ⟨_, (pss_cons (ps_if (pt_cmpR op_eq (pe_callB call_len_seq (by rfl) T.b_len PySem.boot_len (pa_cons (pv 0) pa_nil)) pe_int (nomark _)) (pss_one (ps_ret (pe_lst (pa_cons pe_int (pa_cons (pe_op op_add pe_int (pe_op op_mul pe_int (pv 1))) (pa_cons pe_int pa_nil)))))) pss_nil)
      (pss_cons (ps_set (i := 2) nd rfl (.inl rfl) (pe_callB call_abs (by rfl) T.b_abs boot_abs (pa_cons (pe_ix ix_list (pv 0) (pe_op op_mod (pv 1) (pe_callB call_len_seq (by rfl) T.b_len PySem.boot_len (pa_cons (pv 0) pa_nil))) (fun _ _ => rfl)) pa_nil)))
      (pss_cons (ps_set (i := 3) nd rfl (.inl rfl) (pe_op op_add (pe_op op_add (pe_op op_mod (pe_callTy call_int1 (by rfl) T.b_int boot_int (pa_cons (pv 2) pa_nil)) pe_int) (pe_op op_mul pe_int (pv 1))) (pe_callTy call_int1 (by rfl) T.b_int boot_int (pa_cons (pe_cmpR op_lt (pe_ix ix_list (pv 0) (pe_op op_mod (pv 1) (pe_callB call_len_seq (by rfl) T.b_len PySem.boot_len (pa_cons (pv 0) pa_nil))) (fun _ _ => rfl)) pe_int (nomark _)) pa_nil))))
      (pss_cons (ps_if (PW.pt (pw_and (pt_cmpR op_lt (pv 1) (pe_callB call_len_seq (by rfl) T.b_len PySem.boot_len (pa_cons (pv 0) pa_nil)) (nomark _)) (pw_and1 (pt_cmpR op_ge (pv 2) (pe_op op_pow pe_int pe_int) (nomark _))))) (pss_one (ps_ret (pe_lst (pa_cons (pv 2) (pa_cons (pv 3) (pa_cons pe_int pa_nil)))))) pss_nil)
      (pss_one (ps_ret (pe_lst (pa_cons pe_int (pa_cons (pv 3) (pa_cons pe_int pa_nil)))))))))), ?_⟩
  refine ⟨_, rfl, _, _, rfl, .inl ha, rfl, _, rfl, ?_⟩
  by_cases c : ns.length = 0
  · rw [decide_eq_true (show V.int ((ns.map V.int).length : Nat) = V.int 0 from by rw [List.length_map, c]; rfl)]
    refine iteT ⟨_, rfl, _, _, rfl, rfl, .inl (by decide), _, _, rfl, rfl, (by show 3 ≤ sizeLine; decide), fun p np => ?_⟩
    exact q p _ (same_new np) np ⟨_, _, _, upd_same, by decide, by omega, by decide⟩
  · rw [decide_eq_false (show ¬ V.int ((ns.map V.int).length : Nat) = V.int 0 from fun z => c (by have := V.int.inj z; rw [List.length_map] at this; omega))]
    refine iteF ?_
    have hm0 := Int.emod_nonneg k (show ((ns.map V.int).length : Int) ≠ 0 by rw [List.length_map]; omega)
    have hm1 := Int.emod_lt_of_pos k (show (0 : Int) < ((ns.map V.int).length : Nat) by rw [List.length_map]; omega)
    have hat := atK (l := ns) hm0 hm1 (by rw [List.length_map])
    generalize ns.getD (k % ((ns.map V.int).length : Nat)).toNat 0 = x at hat
    have pos : (fun (_ j : Int) => 0 < j) k ((ns.map V.int).length : Nat) := by show (0 : Int) < ((ns.map V.int).length : Nat); rw [List.length_map]; omega
    refine ⟨_, rfl, _, rfl, _, rfl, _, _, rfl, .inl ha, _, _, rfl, rfl, pos, _, _, _, _, rfl, rfl, ha, hat, _, rfl, ?_⟩
    have hx : 0 ≤ (if x < 0 then -x else x) := by split <;> omega
    generalize (if x < 0 then -x else x) = z at hx
    refine ⟨_, rfl, .inl ⟨_, rfl, _, _, rfl, rfl, (by show (0 : Int) < 2147483629; decide), _, rfl, _, _, rfl, rfl, .inl (by decide), _, _, rfl, rfl, ?_⟩⟩
    refine ⟨_, rfl, _, rfl, _, rfl, _, _, rfl, .inl ha, _, _, rfl, rfl, pos, _, _, _, _, rfl, rfl, ha, hat, _, _, rfl, rfl, .inr ⟨_, rfl, _, _, rfl, rfl, ?_⟩⟩
    have s0 : 0 ≤ (if decide (x < 0) = true then (1 : Int) else 0) ∧ (if decide (x < 0) = true then (1 : Int) else 0) ≤ 1 := by split <;> omega
    have z0 := Int.emod_nonneg z (show (2147483629 : Int) ≠ 0 by decide)
    have z1 := Int.emod_lt_of_pos z (show (0 : Int) < 2147483629 by decide)
    have sb : 0 ≤ z % 2147483629 + 1009 * k + (if decide (x < 0) = true then (1 : Int) else 0) ∧ z % 2147483629 + 1009 * k + (if decide (x < 0) = true then (1 : Int) else 0) < 1099511627776 := by omega
    refine ⟨_, rfl, _, rfl, _, _, rfl, .inl ha, _, _, rfl, rfl, _, rfl, ?_⟩
    have no : ∀ p, H p = none → Q (.ref p) (upd H p (.lst [.int 0, .int (z % 2147483629 + 1009 * k + (if decide (x < 0) = true then (1 : Int) else 0)), .int 0])) := fun p np => q p _ (same_new np) np ⟨_, _, _, upd_same, by decide, sb, by decide⟩
    by_cases c1 : k < ((ns.map V.int).length : Nat)
    · rw [decide_eq_true c1]
      refine iteT ⟨_, rfl, _, _, rfl, rfl, ⟨by decide, by decide, by decide⟩, _, _, rfl, rfl, _, rfl, ?_⟩
      by_cases c2 : (10 ^ (18 : Int).toNat : Int) ≤ z
      · rw [decide_eq_true c2]
        refine iteT ⟨_, rfl, _, rfl, (by show 3 ≤ sizeLine; decide), fun p np => ?_⟩
        exact q p _ (same_new np) np ⟨_, _, _, upd_same, hx, sb, by decide⟩
      · rw [decide_eq_false c2]
        exact iteF ⟨_, rfl, (by show 3 ≤ sizeLine; decide), no⟩
    · rw [decide_eq_false c1]
      exact iteF ⟨_, rfl, (by show 3 ≤ sizeLine; decide), no⟩
def spDraw : Sp := fun vs H Q _ => ∃ (a : Addr) (m : Int), vs = [.ref a, .int m] ∧ PoolAt H a ∧ (1 ≤ m ∧ m ≤ 1000000000) ∧ ∀ (i : Int) (H' : Hp), But a H H' → PoolAt H' a → (0 ≤ i ∧ i < m) → Q (.int i) H'
theorem ca_l_draw (T : Txt w K mg) : Ca P w K mg base 1 "_law_draw" (spDraw) := by
  refine ca_of (N := ["_law_pool_here", "_law_many", "_law_digit", "_law_number"]) (ps := ["_law_pool_here", "_law_many"]) T.f_l_draw T.g_law_draw ⟨rfl, rfl, rfl, by decide +kernel, rfl, by decide +kernel, by decide +kernel⟩ (fun _ _ _ _ _ _ us hl => match us, hl with | [_, _], _ => rfl)
    (fun vs H Q E h => by obtain ⟨a, m, rfl, ⟨g, sd, n, hp, hg, hs, hn⟩, hm, q⟩ := h; rfl) (fun cdv A outer s H vs Q E hr h => ?_)
  have nd : (["_law_pool_here", "_law_many", "_law_digit", "_law_number"] : List Str).Nodup := by decide +kernel
  obtain ⟨a, m, rfl, ⟨g, sd, n, hp, hg, hs, hn⟩, hm, q⟩ := h
  refine ⟨_, (pss_cons (ps_if (pt_cmpR op_gt (pe_ix ix_list (pv 0) pe_int (fun _ _ => rfl)) pe_int (nomark _)) (pss_cons (ps_set (i := 2) nd rfl (.inl rfl) (pe_op op_mod (pe_callTy call_int1 (by rfl) T.b_int boot_int (pa_cons (pe_ix ix_list (pv 0) pe_int (fun _ _ => rfl)) pa_nil)) (pv 1)))
      (pss_cons (ps_asg (pe_op op_fdiv (pe_ix ix_list (pv 0) pe_int (fun _ _ => rfl)) (pv 1)) (pg_sub (pv 0) pe_int set_list))
      (pss_one (ps_ret (pv 2))))) pss_nil)
      (pss_cons (ps_asg (pe_op op_add (pe_ix ix_list (pv 0) pe_int (fun _ _ => rfl)) pe_int) (pg_sub (pv 0) pe_int set_list))
      (pss_cons (ps_set (i := 3) nd rfl (.inl rfl) (pe_op op_mod (pe_callTy call_int1 (by rfl) T.b_int boot_int (pa_cons (pe_op op_mul (pe_op op_add (pe_ix ix_list (pv 0) pe_int (fun _ _ => rfl)) pe_int) (pe_op op_add (pe_op op_mul pe_int (pe_ix ix_list (pv 0) pe_int (fun _ _ => rfl))) pe_int)) pa_nil)) pe_int))
      (pss_cons (ps_set (i := 3) nd rfl (.inl rfl) (pe_op op_mod (pe_callTy call_int1 (by rfl) T.b_int boot_int (pa_cons (pe_op op_mul (pv 3) (pe_op op_add (pe_op op_fdiv (pv 3) pe_int) pe_int)) pa_nil)) pe_int))
      (pss_cons (ps_set (i := 3) nd rfl (.inl rfl) (pe_op op_mod (pe_callTy call_int1 (by rfl) T.b_int boot_int (pa_cons (pe_op op_mul (pv 3) (pe_op op_add (pe_op op_fdiv (pv 3) pe_int) pe_int)) pa_nil)) pe_int))
      (pss_one (ps_ret (pe_op op_mod (pe_callTy call_int1 (by rfl) T.b_int boot_int (pa_cons (pe_op op_fdiv (pv 3) pe_int) pa_nil)) (pv 1))))))))), ?_⟩
  have hsq : SqL K H a [.int g, .int sd, .int n] := .of hp
  refine ⟨_, rfl, _, _, _, _, rfl, rfl, hsq, at0, _, _, rfl, rfl, _, rfl, ?_⟩
  by_cases c : (0 : Int) < g
  · rw [decide_eq_true c]
    refine iteT ?_
    refine ⟨_, rfl, _, _, _, _, rfl, rfl, hsq, at0, .inl ⟨_, rfl, _, rfl, _, _, rfl, rfl, (by show (0 : Int) < m; omega), ?_⟩⟩
    refine ⟨_, rfl, _, _, _, _, rfl, rfl, hsq, at0, _, rfl, _, _, rfl, rfl, ⟨(by show (0 : Int) < m; omega), (by show m < 1073741824; omega)⟩, ?_⟩
    refine ⟨_, rfl, a, _, _, 0, rfl, rfl, hp, rfl, ?_⟩
    refine ⟨_, rfl, q _ _ But.upd ⟨g / m, sd, n, upd_same, Int.ediv_nonneg (by omega) (by omega), hs, hn⟩ ⟨Int.emod_nonneg _ (by omega), Int.emod_lt_of_pos _ (by omega)⟩⟩
  · rw [decide_eq_false c]
    refine iteF ?_
    refine ⟨_, rfl, _, _, _, _, rfl, rfl, hsq, at2, _, _, rfl, rfl, _, rfl, a, _, _, 2, rfl, rfl, hp, rfl, ?_⟩
    have hp2 : upd H a (.lst (([.int g, .int sd, .int n] : List V).set 2 (.int (n + 1)))) a = some (.lst [.int g, .int sd, .int (n + 1)]) := upd_same
    have b2 : But a H (upd H a (.lst (([.int g, .int sd, .int n] : List V).set 2 (.int (n + 1))))) := But.upd
    have hsq2 : SqL K _ a [.int g, .int sd, .int (n + 1)] := .of hp2
    have md : ∀ (u : Int), (fun (_ j : Int) => 0 < j) u m := fun u => by show (0 : Int) < m; omega
    refine ⟨_, rfl, _, _, _, _, rfl, rfl, hsq2, at1, _, _, rfl, rfl, _, rfl, _, _, _, _, rfl, rfl, hsq2, at2, _, _, rfl, rfl, .inl (by decide), _, _, rfl, rfl, _, _, rfl, rfl, .inl ?_, .inl ⟨_, rfl, _, _, rfl, rfl, (by show (0 : Int) < 2147483647; decide), ?_⟩⟩
    · show -(2 ^ 64) < sd + 1 ∧ sd + 1 < 2 ^ 64
      omega
    have mb : ∀ u : Int, -(2 ^ 64) < u % 2147483647 ∧ u % 2147483647 < 2 ^ 64 := fun u => by
      have h0 := Int.emod_nonneg u (show (2147483647 : Int) ≠ 0 by decide)
      have h1 := Int.emod_lt_of_pos u (show (0 : Int) < 2147483647 by decide)
      omega
    refine ⟨_, rfl, _, rfl, _, _, rfl, rfl, ⟨(by show (0 : Int) < 1009; decide), (by show (1009 : Int) < 1073741824; decide)⟩, _, _, rfl, rfl, _, _, rfl, rfl, .inl (by constructor <;> omega), .inl ⟨_, rfl, _, _, rfl, rfl, (by show (0 : Int) < 2147483647; decide), ?_⟩⟩
    refine ⟨_, rfl, _, rfl, _, _, rfl, rfl, ⟨(by show (0 : Int) < 2003; decide), (by show (2003 : Int) < 1073741824; decide)⟩, _, _, rfl, rfl, _, _, rfl, rfl, .inl (by constructor <;> omega), .inl ⟨_, rfl, _, _, rfl, rfl, (by show (0 : Int) < 2147483399; decide), ?_⟩⟩
    refine ⟨_, rfl, _, _, rfl, rfl, ⟨(by show (0 : Int) < 16; decide), (by show (16 : Int) < 1073741824; decide)⟩, .inl ⟨_, rfl, _, rfl, _, _, rfl, rfl, (by show (0 : Int) < m; omega), ?_⟩⟩
    exact q _ _ b2 ⟨g, sd, n + 1, hp2, hg, hs, by omega⟩ ⟨Int.emod_nonneg _ (by omega), Int.emod_lt_of_pos _ (by omega)⟩
end

end M

set_option Elab.async false
set_option linter.all false
set_option maxRecDepth 100000
set_option maxHeartbeats 2000000
namespace M
open PySem PySem.Spec PyProof.Rows L2

theorem let5 {i : Int} (h : 0 ≤ i ∧ i < 5) : ∃ c, atI ("abcdx" : Str).cps.toList i = some c ∧ (⟨#[c]⟩ : Str) ∈ regs5 := by
  have : i = 0 ∨ i = 1 ∨ i = 2 ∨ i = 3 ∨ i = 4 := by omega
  rcases this with rfl | rfl | rfl | rfl | rfl
  · exact ⟨97, by decide +kernel, by decide +kernel⟩
  · exact ⟨98, by decide +kernel, by decide +kernel⟩
  · exact ⟨99, by decide +kernel, by decide +kernel⟩
  · exact ⟨100, by decide +kernel, by decide +kernel⟩
  · exact ⟨120, by decide +kernel, by decide +kernel⟩
theorem let4 {i : Int} (h : 0 ≤ i ∧ i < 4) : ∃ c, atI ("abcd" : Str).cps.toList i = some c ∧ (⟨#[c]⟩ : Str) ∈ regs4 := by
  have : i = 0 ∨ i = 1 ∨ i = 2 ∨ i = 3 := by omega
  rcases this with rfl | rfl | rfl | rfl
  · exact ⟨97, by decide +kernel, by decide +kernel⟩
  · exact ⟨98, by decide +kernel, by decide +kernel⟩
  · exact ⟨99, by decide +kernel, by decide +kernel⟩
  · exact ⟨100, by decide +kernel, by decide +kernel⟩
theorem sgn5 {i : Int} (h : 0 ≤ i ∧ i < 5) : ∃ c, atI ("+-*=<" : Str).cps.toList i = some c ∧ (⟨#[c]⟩ : Str) ∈ signs := by
  have : i = 0 ∨ i = 1 ∨ i = 2 ∨ i = 3 ∨ i = 4 := by omega
  rcases this with rfl | rfl | rfl | rfl | rfl
  · exact ⟨43, by decide +kernel, by decide +kernel⟩
  · exact ⟨45, by decide +kernel, by decide +kernel⟩
  · exact ⟨42, by decide +kernel, by decide +kernel⟩
  · exact ⟨61, by decide +kernel, by decide +kernel⟩
  · exact ⟨60, by decide +kernel, by decide +kernel⟩
theorem PoolAt.ch {H : Hp} {a : Addr} (h : PoolAt H a) : Ch H a := by
  obtain ⟨_, _, _, h, _⟩ := h
  exact .lst h
theorem PoolAt.same {H H' : Hp} {a : Addr} (s : Same H H') (h : PoolAt H a) : PoolAt H' a := by
  obtain ⟨_, _, _, h, r⟩ := h
  exact ⟨_, _, _, s _ _ h, r⟩
theorem PoolAt.at {H : Hp} {a : Addr} (h : PoolAt H a) : ∃ l, H a = some (.lst l) := by
  obtain ⟨_, _, _, h, _⟩ := h
  exact ⟨_, h⟩
section
variable {P : Program} {w : World} {K : PySem.W.Frag} {mg : Str → Option Value} {base : Heap}
def spLE (K : PySem.W.Frag) (n : Nat) : Sp := fun vs H Q _ => ∃ (a : Addr) (k : Nat), vs = [.ref a, .int (k : Int)] ∧ PoolAt H a ∧ k < n ∧ ∀ (v : V) (e : Exp) (H' : Hp), But a H H' → PoolAt H' a → e.ok → e.dep ≤ k → Dp K H' v e.d → Q v H'
theorem ca_l_e : ∀ (n : Nat) (T : Txt w K mg), Ca P w K mg base (n + 2) "_law_e" (spLE K n)
  | 0, T => by
    refine ca_of (N := ["_law_pool_here", "_law_depth", "_law_kind", "_law_sign", "_law_left"]) (ps := ["_law_pool_here", "_law_depth"]) T.f_l_e T.g_law_e ⟨rfl, rfl, rfl, by decide +kernel, rfl, by decide +kernel, by decide +kernel⟩ (fun _ _ _ _ _ _ us hl => match us, hl with | [_, _], _ => rfl)
      (fun vs H Q E h => by obtain ⟨a, k, rfl, hp, hk, q⟩ := h; rfl) (fun cdv A outer s H vs Q E hr h => ?_)
    have nd : (["_law_pool_here", "_law_depth", "_law_kind", "_law_sign", "_law_left"] : List Str).Nodup := by decide +kernel
    obtain ⟨a, k, rfl, hp, hk, q⟩ := h
    omega
  | n + 1, T => by
    refine ca_of (N := ["_law_pool_here", "_law_depth", "_law_kind", "_law_sign", "_law_left"]) (ps := ["_law_pool_here", "_law_depth"]) T.f_l_e T.g_law_e ⟨rfl, rfl, rfl, by decide +kernel, rfl, by decide +kernel, by decide +kernel⟩ (fun _ _ _ _ _ _ us hl => match us, hl with | [_, _], _ => rfl)
      (fun vs H Q E h => by obtain ⟨a, k, rfl, hp, hk, q⟩ := h; rfl) (fun cdv A outer s H vs Q E hr h => ?_)
    have nd : (["_law_pool_here", "_law_depth", "_law_kind", "_law_sign", "_law_left"] : List Str).Nodup := by decide +kernel
    obtain ⟨a, k, rfl, hp, hk, q⟩ := h
    refine ⟨_, (pss_cons (ps_set (i := 2) nd rfl (.inl rfl) (pe_ca (ca_l_draw T) hr (pa_cons (pv 0) (pa_cons pe_int pa_nil)) (by omega)))
      (pss_cons (ps_if (PW.pt (pw_or (pt_cmpR op_eq (pv 2) pe_int (nomark _)) (pw_or1 (PW.pt (pw_and (pt_cmpR op_eq (pv 2) pe_int (nomark _)) (pw_and1 (pt_cmpR op_eq (pv 1) pe_int (nomark _)))))))) (pss_one (ps_ret (pe_ca (ca_l_draw T) hr (pa_cons (pv 0) (pa_cons pe_int pa_nil)) (by omega)))) pss_nil)
      (pss_cons (ps_if (pt_cmpR op_lt (pv 2) pe_int (nomark _)) (pss_one (ps_ret (pe_ix ix_str pe_str (pe_ca (ca_l_draw T) hr (pa_cons (pv 0) (pa_cons pe_int pa_nil)) (by omega)) (fun _ _ => rfl)))) pss_nil)
      (pss_cons (ps_set (i := 3) nd rfl (.inl rfl) (pe_ix ix_str pe_str (pe_ca (ca_l_draw T) hr (pa_cons (pv 0) (pa_cons pe_int pa_nil)) (by omega)) (fun _ _ => rfl)))
      (pss_cons (ps_set (i := 4) nd rfl (.inl rfl) (pe_ca (ca_l_e n T) hr (pa_cons (pv 0) (pa_cons (pe_op op_sub (pv 1) pe_int) pa_nil)) (by omega)))
      (pss_one (ps_ret (pe_tup (pa_cons (pv 3) (pa_cons (pv 4) (pa_cons (pe_ca (ca_l_e n T) hr (pa_cons (pv 0) (pa_cons (pe_op op_sub (pv 1) pe_int) pa_nil)) (by omega)) pa_nil))))))))))), ?_⟩
    refine ⟨_, rfl, a, 4, rfl, hp, by omega, fun i H1 b1 p1 hi => ?_⟩
    have num : ∀ (j : Int) (H2 : Hp), But a H1 H2 → PoolAt H2 a → (0 ≤ j ∧ j < 10) → Q (.int j) H2 := fun j H2 b2 p2 hj => q _ (.num j) H2 (b1.trans b2) p2 (by show 0 ≤ j ∧ j ≤ 9; omega) (Nat.zero_le _) (.int j)
    refine ⟨_, rfl, rfl, _, rfl, ?_⟩
    by_cases c0 : i = 0
    · rw [decide_eq_true (show V.int i = V.int 0 from congrArg V.int c0)]
      exact iteT ⟨_, rfl, a, 10, rfl, p1, by omega, num⟩
    · rw [decide_eq_false (show ¬ V.int i = V.int 0 from fun z => c0 (V.int.inj z))]
      refine iteF ⟨_, rfl, rfl, _, rfl, ?_⟩
      by_cases c3 : i = 3
      · rw [decide_eq_true (show V.int i = V.int 3 from congrArg V.int c3)]
        refine iteT ⟨_, rfl, rfl, _, rfl, ?_⟩
        by_cases ck : k = 0
        · rw [decide_eq_true (show V.int (k : Int) = V.int 0 from by rw [ck]; rfl)]
          exact iteT ⟨_, rfl, a, 10, rfl, p1, by omega, num⟩
        · rw [decide_eq_false (show ¬ V.int (k : Int) = V.int 0 from fun z => ck (by have := V.int.inj z; omega))]
          refine iteF ⟨_, rfl, _, _, rfl, rfl, _, rfl, ?_⟩
          rw [decide_eq_false (show ¬ i < 3 by omega)]
          refine iteF ⟨_, rfl, a, 5, rfl, p1, by omega, fun j H2 b2 p2 hj => ?_⟩
          obtain ⟨cd, hcd, hsg⟩ := sgn5 hj
          refine ⟨_, j, cd, rfl, rfl, (by decide +kernel), hcd, ?_⟩
          have ek : ((k : Nat) : Int) - 1 = ((k - 1 : Nat) : Int) := by omega
          refine ⟨_, rfl, _, rfl, _, _, rfl, rfl, a, k - 1, by rw [← ek]; rfl, p2, by omega, fun v1 e1 H3 b3 p3 o1 d1 y1 => ?_⟩
          refine ⟨_, rfl, _, rfl, _, rfl, _, rfl, _, _, rfl, rfl, a, k - 1, by rw [← ek]; rfl, p3, by omega, fun v2 e2 H4 b4 p4 o2 d2 y2 => ?_⟩
          refine ⟨(by show 3 ≤ sizeLine; decide), fun t nt => ?_⟩
          have s5 : Same H4 (upd H4 t (.tup [.str ⟨#[cd]⟩, v1, v2])) := same_new nt
          refine q _ (.op ⟨#[cd]⟩ e1 e2) _ ((((b1.trans b2).trans b3).trans b4).trans (same_but s5)) (p4.same s5) ⟨hsg, o1, o2⟩ ?_ (.tup (.of upd_same) (.cons (.str _) (.cons (dp_same s5 (dp_but p3.ch b4 y1 e1.noL)) (.cons (dp_same s5 y2) .nil))))
          show Nat.max e1.dep e2.dep + 1 ≤ k
          have := Nat.max_le.mpr ⟨d1, d2⟩
          have : Nat.max e1.dep e2.dep ≤ k - 1 := this
          omega
      · rw [decide_eq_false (show ¬ V.int i = V.int 3 from fun z => c3 (V.int.inj z))]
        refine iteF ⟨_, rfl, _, _, rfl, rfl, _, rfl, ?_⟩
        rw [decide_eq_true (show i < 3 by omega)]
        refine iteT ⟨_, rfl, a, 5, rfl, p1, by omega, fun j H2 b2 p2 hj => ?_⟩
        obtain ⟨cd, hcd, hsg⟩ := let5 hj
        exact ⟨_, j, cd, rfl, rfl, (by decide +kernel), hcd, q _ (.reg ⟨#[cd]⟩) H2 (b1.trans b2) p2 hsg (Nat.zero_le _) (.str _)⟩
/-! ### what the law works out itself -/
def spLV (K : PySem.W.Frag) (n : Nat) : Sp := fun vs H Q _ => ∃ (v : V) (e : Exp) (h : Addr) (r : Str → Int), vs = [v, .ref h] ∧ Dp K H v e.d ∧ e.ok ∧ e.dep < n ∧ H h = some (.dK (heldK r)) ∧ RegOk r ∧ Q (.int (e.ev r)) H
theorem ca_l_value : ∀ (n : Nat) (T : Txt w K mg), Ca P w K mg base (n + 1) "_law_value" (spLV K n)
  | 0, T => by
    refine ca_of (N := ["_law_e_here", "_law_held", "_law_one", "_law_two"]) (ps := ["_law_e_here", "_law_held"]) T.f_l_value T.g_law_value ⟨rfl, rfl, rfl, by decide +kernel, rfl, by decide +kernel, by decide +kernel⟩ (fun _ _ _ _ _ _ us hl => match us, hl with | [_, _], _ => rfl)
      (fun vs H Q E h => by obtain ⟨v, e, h, r, rfl, hv, ok, hd, hh, ro, q⟩ := h; rfl) (fun cdv A outer s H vs Q E hr h => ?_)
    have nd : (["_law_e_here", "_law_held", "_law_one", "_law_two"] : List Str).Nodup := by decide +kernel
    obtain ⟨v, e, h, r, rfl, hv, ok, hd, hh, ro, q⟩ := h
    omega
  | n + 1, T => by
    refine ca_of (N := ["_law_e_here", "_law_held", "_law_one", "_law_two"]) (ps := ["_law_e_here", "_law_held"]) T.f_l_value T.g_law_value ⟨rfl, rfl, rfl, by decide +kernel, rfl, by decide +kernel, by decide +kernel⟩ (fun _ _ _ _ _ _ us hl => match us, hl with | [_, _], _ => rfl)
      (fun vs H Q E h => by obtain ⟨v, e, h, r, rfl, hv, ok, hd, hh, ro, q⟩ := h; rfl) (fun cdv A outer s H vs Q E hr h => ?_)
    have nd : (["_law_e_here", "_law_held", "_law_one", "_law_two"] : List Str).Nodup := by decide +kernel
    obtain ⟨v, e, h, r, rfl, hv, ok, hd, hh, ro, q⟩ := h
    refine ⟨_, (pss_cons (ps_if (pt_val (pe_is .tuple T.b_isinstance (pv 0) T.b_tuple boot_tuple)) (pss_cons (ps_set (i := 2) nd rfl (.inl rfl) (pe_ca (ca_l_value n T) hr (pa_cons (pe_ix ix_tup (pv 0) pe_int (fun _ _ => rfl)) (pa_cons (pv 1) pa_nil)) (by omega)))
      (pss_cons (ps_set (i := 3) nd rfl (.inl rfl) (pe_ca (ca_l_value n T) hr (pa_cons (pe_ix ix_tup (pv 0) pe_int (fun _ _ => rfl)) (pa_cons (pv 1) pa_nil)) (by omega)))
      (pss_cons (ps_if (pt_cmpR op_eq (pe_ix ix_tup (pv 0) pe_int (fun _ _ => rfl)) pe_str (nomark _)) (pss_one (ps_ret (pe_callTy call_int1 (by rfl) T.b_int boot_int (pa_cons (pe_cmpR op_eq (pv 2) (pv 3) (nomark _)) pa_nil)))) pss_nil)
      (pss_cons (ps_if (pt_cmpR op_eq (pe_ix ix_tup (pv 0) pe_int (fun _ _ => rfl)) pe_str (nomark _)) (pss_one (ps_ret (pe_callTy call_int1 (by rfl) T.b_int boot_int (pa_cons (pe_cmpR op_lt (pv 2) (pv 3) (nomark _)) pa_nil)))) pss_nil)
      (pss_cons (ps_if (pt_cmpR op_eq (pe_ix ix_tup (pv 0) pe_int (fun _ _ => rfl)) pe_str (nomark _)) (pss_one (ps_ret (pe_op op_mod (pe_callTy call_int1 (by rfl) T.b_int boot_int (pa_cons (pe_op op_mul (pv 2) (pv 3)) pa_nil)) pe_int))) pss_nil)
      (pss_one (ps_ret (pe_op op_mod (pe_callTy call_int1 (by rfl) T.b_int boot_int (pa_cons (pe_op op_add (pv 2) (pe_op op_mul (pv 3) (pe_op op_sub pe_int (pe_op op_mul pe_int (pe_callTy call_int1 (by rfl) T.b_int boot_int (pa_cons (pe_cmpR op_eq (pe_ix ix_tup (pv 0) pe_int (fun _ _ => rfl)) pe_str (nomark _)) pa_nil)))))) pa_nil)) pe_int)))))))) pss_nil)
      (pss_cons (ps_if (pt_val (pe_is .str T.b_isinstance (pv 0) T.b_str boot_str)) (pss_one (ps_ret (pe_dget (hu_of hr) (pv 1) (pv 0) (fun _ _ => rfl)))) pss_nil)
      (pss_one (ps_ret (pv 0))))), ?_⟩
    cases e with
    | num m =>
      cases dp_int hv
      refine ⟨_, rfl, _, _, rfl, .int m, _, rfl, iteF ?_⟩
      exact ⟨_, rfl, _, _, rfl, .int m, _, rfl, iteF ⟨_, rfl, q⟩⟩
    | reg s =>
      cases dp_str hv
      refine ⟨_, rfl, _, _, rfl, .str s, _, rfl, iteF ?_⟩
      refine ⟨_, rfl, _, _, rfl, .str s, _, rfl, iteT ?_⟩
      refine ⟨_, rfl, _, rfl, h, _, rfl, ?_, q⟩
      show DGet H h (.str s) (some (V.int (r s)))
      rw [← held_get ok]
      exact DGet.k (k := Sum.inr s) hh
    | op s a b =>
      obtain ⟨t, x1, x2, x3, rfl, ht, e1, e2, e3⟩ := dp3 hv
      cases dp_str e1
      obtain ⟨o1, o2, o3⟩ := ok
      have hd : Nat.max a.dep b.dep + 1 < n + 1 := hd
      have da : a.dep < n := Nat.lt_of_le_of_lt (Nat.le_max_left _ _) (Nat.lt_of_succ_lt_succ hd)
      have db : b.dep < n := Nat.lt_of_le_of_lt (Nat.le_max_right _ _) (Nat.lt_of_succ_lt_succ hd)
      refine ⟨_, rfl, _, _, rfl, .tuple ht, _, rfl, iteT ?_⟩
      refine ⟨_, rfl, _, _, _, _, rfl, rfl, ht, at1, _, rfl, x2, a, h, r, rfl, e2, o2, da, hh, ro, ?_⟩
      refine ⟨_, rfl, _, _, _, _, rfl, rfl, ht, at2, _, rfl, x3, b, h, r, rfl, e3, o3, db, hh, ro, ?_⟩
      have ba := ev_bd ro o2
      have bb := ev_bd ro o3
      have q : Q (.int (opv s (a.ev r) (b.ev r))) H := q
      generalize a.ev r = l at q ba
      generalize b.ev r = m at q bb
      have n1 : ¬ (("-" : Str) = "+") := by decide +kernel
      have n2 : ¬ (("*" : Str) = "+") := by decide +kernel
      have n3 : ¬ (("*" : Str) = "-") := by decide +kernel
      have n4 : ¬ (("=" : Str) = "+") := by decide +kernel
      have n5 : ¬ (("=" : Str) = "-") := by decide +kernel
      have n6 : ¬ (("=" : Str) = "*") := by decide +kernel
      have n7 : ¬ (("<" : Str) = "+") := by decide +kernel
      have n8 : ¬ (("<" : Str) = "-") := by decide +kernel
      have n9 : ¬ (("<" : Str) = "*") := by decide +kernel
      have n10 : ¬ (("<" : Str) = "=") := by decide +kernel
      have last : ∀ s : Str, (s = "+" ∨ s = "-") → (l + m * (1 - 2 * (if decide (V.str s = V.str "-") = true then (1 : Int) else 0))) % 10 = opv s l m := by
        intro s hs
        unfold opv
        rcases hs with rfl | rfl
        · rw [if_neg (by rw [decide_eq_true_eq]; exact fun z => n1 (V.str.inj z).symm), if_pos rfl]
          congr 1
          omega
        · rw [if_pos (by rw [decide_eq_true_eq]), if_neg n1, if_pos rfl]
          congr 1
          omega
      unfold signs at o1
      simp only [List.mem_cons, List.not_mem_nil, or_false] at o1
      rcases o1 with rfl | rfl | rfl | rfl | rfl
      · refine ⟨_, rfl, _, _, _, _, rfl, rfl, ht, at0, rfl, _, rfl, iteF ⟨_, rfl, _, _, _, _, rfl, rfl, ht, at0, rfl, _, rfl, iteF ⟨_, rfl, _, _, _, _, rfl, rfl, ht, at0, rfl, _, rfl, iteF ?_⟩⟩⟩
        rw [← last _ (.inl rfl)] at q
        exact ⟨_, rfl, _, rfl, _, rfl, _, _, _, _, rfl, rfl, ht, at0, rfl, .inr ⟨_, rfl, _, _, rfl, rfl, .inl (by decide), _, _, rfl, rfl, _, _, rfl, rfl, .inl (by omega), _, _, rfl, rfl, .inl ⟨_, rfl, _, _, rfl, rfl, (by show (0 : Int) < 10; decide), q⟩⟩⟩
      · refine ⟨_, rfl, _, _, _, _, rfl, rfl, ht, at0, rfl, _, rfl, iteF ⟨_, rfl, _, _, _, _, rfl, rfl, ht, at0, rfl, _, rfl, iteF ⟨_, rfl, _, _, _, _, rfl, rfl, ht, at0, rfl, _, rfl, iteF ?_⟩⟩⟩
        rw [← last _ (.inr rfl)] at q
        exact ⟨_, rfl, _, rfl, _, rfl, _, _, _, _, rfl, rfl, ht, at0, rfl, .inr ⟨_, rfl, _, _, rfl, rfl, .inl (by decide), _, _, rfl, rfl, _, _, rfl, rfl, .inl (by omega), _, _, rfl, rfl, .inl ⟨_, rfl, _, _, rfl, rfl, (by show (0 : Int) < 10; decide), q⟩⟩⟩
      · refine ⟨_, rfl, _, _, _, _, rfl, rfl, ht, at0, rfl, _, rfl, iteF ⟨_, rfl, _, _, _, _, rfl, rfl, ht, at0, rfl, _, rfl, iteF ⟨_, rfl, _, _, _, _, rfl, rfl, ht, at0, rfl, _, rfl, iteT ?_⟩⟩⟩
        unfold opv at q
        rw [if_neg n2, if_neg n3, if_pos rfl] at q
        exact ⟨_, rfl, _, rfl, _, _, rfl, rfl, .inl (by omega), .inl ⟨_, rfl, _, _, rfl, rfl, (by show (0 : Int) < 10; decide), q⟩⟩
      · refine ⟨_, rfl, _, _, _, _, rfl, rfl, ht, at0, rfl, _, rfl, iteT ?_⟩
        unfold opv at q
        rw [if_neg n4, if_neg n5, if_neg n6, if_pos rfl] at q
        refine ⟨_, rfl, _, rfl, rfl, .inr ⟨_, rfl, ?_⟩⟩
        by_cases c : l = m
        · rw [if_pos c] at q
          rw [decide_eq_true (show V.int l = V.int m from congrArg V.int c)]
          exact q
        · rw [if_neg c] at q
          rw [decide_eq_false (show ¬ V.int l = V.int m from fun z => c (V.int.inj z))]
          exact q
      · refine ⟨_, rfl, _, _, _, _, rfl, rfl, ht, at0, rfl, _, rfl, iteF ⟨_, rfl, _, _, _, _, rfl, rfl, ht, at0, rfl, _, rfl, iteT ?_⟩⟩
        unfold opv at q
        rw [if_neg n7, if_neg n8, if_neg n9, if_neg n10] at q
        refine ⟨_, rfl, _, rfl, _, _, rfl, rfl, .inr ⟨_, rfl, ?_⟩⟩
        by_cases c : l < m
        · rw [if_pos c] at q
          rw [decide_eq_true c]
          exact q
        · rw [if_neg c] at q
          rw [decide_eq_false c]
          exact q
end

end M

set_option Elab.async false
set_option linter.all false
set_option maxRecDepth 100000
set_option maxHeartbeats 2000000
namespace M
open PySem PySem.Spec PyProof.Rows L2

/-- the tuple (tuple, list) of types -/
abbrev two_ty : List V := [.ty "tuple", .ty "list"]
theorem of_ty {K : PySem.W.Frag} {H : Hp} {v : V} {k : Kd} (h : Of K H v k) (hk : k ≠ .obj) : TyX K H v (.type k.name) := by
  cases h with
  | non => exact .base .non
  | bl b => exact .base (.bl b)
  | int b => exact .base (.int b)
  | str b => exact .base (.str b)
  | list b => exact ty_sqL b
  | tuple b => exact ty_sqT b
  | dict b => exact b
  | obj b _ => exact absurd rfl hk
def rIs2 (K : PySem.W.Frag) : List V → Hp → VK → Prop := fun xs H Q => ∃ (v : V) (k : Kd) (tp : Addr), xs = [v, .ref tp] ∧ H tp = some (.tup two_ty) ∧ Of K H v k ∧ k ≠ .obj ∧ Q (.bl (k.is .tuple || k.is .list)) H
theorem call_is2 {X : Cx} : CallR X (.builtin "isinstance") (rIs2 X.K) := callR_imp call_isiT fun vs H Q ⟨v, k, tp, e, ht, h, hk, q⟩ => by
  subst e
  refine ⟨v, tp, two_ty, .type k.name, [.type "tuple", .type "list"], _, rfl, ht, .cons (.ty _) (.cons (.ty _) .nil), of_ty h hk, ?_, q⟩
  have h1 := kd_kit (K := X.K) k .tuple hk (by decide)
  have h2 := kd_kit (K := X.K) k .list hk (by decide)
  exact kitAny_cons h1 (fun e => kitAny_cons h2 (fun e2 => by rw [kitAny_nil, e, e2]; rfl) (fun e2 => by rw [e2, Bool.or_true])) (fun e => by rw [e, Bool.true_or])
theorem kdOf_obj (d : PyData) : kdOf d ≠ .obj := by
  cases d <;> simp [kdOf]
mutual
def dpt : PyData → Nat
  | .tuple ds => dpts ds + 1
  | .list ds => dpts ds + 1
  | _ => 0
def dpts : List PyData → Nat
  | [] => 0
  | d :: r => Nat.max (dpt d) (dpts r)
end
mutual
/-- no sequence in it is longer than this -/
def nar : PyData → Prop
  | .tuple ds => ds.length ≤ 100000 ∧ nars ds
  | .list ds => ds.length ≤ 100000 ∧ nars ds
  | _ => True
def nars : List PyData → Prop
  | [] => True
  | d :: r => nar d ∧ nars r
end
theorem nars_at : ∀ {ds : List PyData} {i : Nat} {d : PyData}, nars ds → ds[i]? = some d → nar d
  | [], i, d, _, h => by simp at h
  | e :: r, 0, d, n, h => by
    cases (Option.some.inj h)
    exact n.1
  | e :: r, i + 1, d, n, h => nars_at (ds := r) (i := i) n.2 h
theorem dpts_at : ∀ {ds : List PyData} {i : Nat} {d : PyData}, ds[i]? = some d → dpt d ≤ dpts ds
  | [], i, d, h => by simp at h
  | e :: r, 0, d, h => by
    cases (Option.some.inj h)
    exact Nat.le_max_left _ _
  | e :: r, i + 1, d, h => Nat.le_trans (dpts_at (ds := r) (i := i) h) (Nat.le_max_right _ _)

end M

set_option Elab.async false
set_option linter.all false
set_option maxRecDepth 100000
set_option maxHeartbeats 2000000
namespace M
open PySem PySem.Spec PyProof.Rows L2

/-! ### rows without "if", "times", "coin" -/
def flat : Row → Prop
  | .iff .. => False
  | .times .. => False
  | .coin .. => False
  | _ => True
theorem putRows_flat : ∀ (rs : List Row) (c : List FR), (∀ r ∈ rs, flat r) → putRows rs c = c ++ rs.map FR.row
  | [], c, _ => by simp [putRows]
  | r :: rs, c, h => by
    have e : putRow r c = c ++ [.row r] := by
      have := h r List.mem_cons_self
      cases r <;> first | rfl | exact this.elim
    show putRows rs (putRow r c) = _
    rw [e, putRows_flat rs _ fun x hx => h x (List.mem_cons_of_mem _ hx), List.append_assoc]
    rfl
theorem code_flat {rs : List Row} (h : ∀ r ∈ rs, flat r) : codeOf rs = rs.map FR.row ++ [.row (.ans (.num 0))] := by
  unfold codeOf
  rw [putRows_flat rs [] h]
  rfl
/-- the state behind one row -/
def one (r : Row) (st : Mst) : Mst := stp1 (.row r) { st with place := st.place + 1 }
def goR : List Row → Mst → Mst × List PyData
  | [], st => (one (.ans (.num 0)) st, [])
  | r :: rs, st => if (one r st).res.isSome = true then (one r st, tell (.row r) (one r st)) else ((goR rs (one r st)).1, tell (.row r) (one r st) ++ (goR rs (one r st)).2)
theorem one_place {r : Row} {st : Mst} (h : flat r) : (one r st).place = st.place + 1 := by
  cases r with
  | swap r k e g =>
    show (if st.cells.getD k.toNat 0 = e.ev st.regs then ({ st with place := st.place + 1, cells := st.cells.set k.toNat (g.ev st.regs % st.sides.getD k.toNat 0), regs := rset st.regs r 1 } : Mst) else { st with place := st.place + 1, regs := rset st.regs r 0 }).place = _
    split <;> rfl
  | iff e a b => exact h.elim
  | times e a => exact h.elim
  | coin r => exact h.elim
  | _ => rfl
theorem fin_flat : ∀ (rs : List Row) (pre : List FR) (st : Mst), (∀ r ∈ rs, flat r) → st.code = pre ++ (rs.map FR.row ++ [.row (.ans (.num 0))]) → st.place = pre.length → st.res = none → ∃ n, n ≤ rs.length + 1 ∧ FinT n st (goR rs st).1 (goR rs st).2 ∧ ∃ v, (goR rs st).1.res = some v
  | [], pre, st, _, hc, hp, hr => by
    refine ⟨1, Nat.le_refl _, ?_, 0, rfl⟩
    have hf : st.code[st.place.toNat]? = some (.row (.ans (.num 0))) := by
      rw [hc, hp]
      simp
    exact FinT.step hr (by omega) hf trivial (.stop rfl)
  | r :: rs, pre, st, hfl, hc, hp, hr => by
    have fr := hfl r List.mem_cons_self
    have hf : st.code[st.place.toNat]? = some (.row r) := by
      rw [hc, hp]
      simp
    have can : Can (.row r) { st with place := st.place + 1 } := by
      cases r <;> first | trivial | exact fr.elim
    by_cases c : (one r st).res.isSome = true
    · have e : goR (r :: rs) st = (one r st, tell (.row r) (one r st)) := if_pos c
      rw [e]
      obtain ⟨v, hv⟩ := Option.isSome_iff_exists.mp c
      refine ⟨1, by omega, ?_, v, hv⟩
      have := FinT.step hr (by omega) hf can (.stop hv)
      rw [List.append_nil] at this
      exact this
    · have e : goR (r :: rs) st = ((goR rs (one r st)).1, tell (.row r) (one r st) ++ (goR rs (one r st)).2) := if_neg c
      rw [e]
      have hn : (one r st).res = none := by
        cases q : (one r st).res with
        | none => rfl
        | some v => rw [q] at c; exact absurd rfl c
      obtain ⟨n, h1, h2, h3⟩ := fin_flat rs (pre ++ [.row r]) (one r st) (fun x hx => hfl x (List.mem_cons_of_mem _ hx)) (by rw [show (one r st).code = st.code from stp1_code _ _, hc]; simp) (by rw [one_place fr, hp]; simp) hn
      exact ⟨n + 1, by simp; omega, FinT.step hr (by omega) hf can h2, h3⟩
/-- rows "keep" and "answer" alone -/
def ka : Row → Prop
  | .keep .. => True
  | .ans .. => True
  | _ => False
def dueK : List Row → (Str → Int) → Int
  | [], _ => 0
  | .keep s e :: rs, r => dueK rs (rset r s (e.ev r))
  | .ans e :: _, r => e.ev r
  | _ :: rs, r => dueK rs r
theorem ka_flat {r : Row} (h : ka r) : flat r := by
  cases r <;> first | trivial | exact h.elim
theorem goR_ka : ∀ (rs : List Row) (st : Mst), (∀ r ∈ rs, ka r) → st.res = none → (goR rs st).1.res = some (dueK rs st.regs) ∧ (goR rs st).1.cells = st.cells ∧ (goR rs st).2 = []
  | [], st, _, _ => ⟨rfl, rfl, rfl⟩
  | .keep s e :: rs, st, h, hr => by
    have c : ¬ (one (.keep s e) st).res.isSome = true := by
      show ¬ st.res.isSome = true
      rw [hr]
      decide
    have e1 : goR (.keep s e :: rs) st = ((goR rs (one (.keep s e) st)).1, tell (.row (.keep s e)) (one (.keep s e) st) ++ (goR rs (one (.keep s e) st)).2) := if_neg c
    obtain ⟨h1, h2, h3⟩ := goR_ka rs (one (.keep s e) st) (fun x hx => h x (List.mem_cons_of_mem _ hx)) hr
    rw [e1]
    exact ⟨h1, h2, h3⟩
  | .ans e :: rs, st, h, hr => by
    have e1 : goR (.ans e :: rs) st = (one (.ans e) st, tell (.row (.ans e)) (one (.ans e) st)) := if_pos rfl
    rw [e1]
    exact ⟨rfl, rfl, rfl⟩
  | .read .. :: _, _, h, _ => (h _ List.mem_cons_self).elim
  | .set .. :: _, _, h, _ => (h _ List.mem_cons_self).elim
  | .swap .. :: _, _, h, _ => (h _ List.mem_cons_self).elim
  | .coin .. :: _, _, h, _ => (h _ List.mem_cons_self).elim
  | .iff .. :: _, _, h, _ => (h _ List.mem_cons_self).elim
  | .times .. :: _, _, h, _ => (h _ List.mem_cons_self).elim

end M

set_option Elab.async false
set_option linter.all false
set_option maxRecDepth 100000
set_option maxHeartbeats 2000000
namespace M
open PySem PySem.Spec PyProof.Rows L2

theorem rowsOk_of {c : Int} : ∀ {rs : List Row}, (∀ r ∈ rs, r.ok c 1 0) → rowsOk c 1 0 rs
  | [], _ => trivial
  | r :: rs, h => ⟨by decide, h r List.mem_cons_self, rowsOk_of fun x hx => h x (List.mem_cons_of_mem _ hx)⟩
theorem flat_cl : ∀ {rs : List Row}, (∀ r ∈ rs, flat r) → rowsCl rs = rs.length
  | [], _ => rfl
  | r :: rs, h => by
    have e : r.cl = 1 := by
      have := h r List.mem_cons_self
      cases r <;> first | rfl | exact this.elim
    show r.cl + rowsCl rs = _
    rw [e, flat_cl fun x hx => h x (List.mem_cons_of_mem _ hx), List.length_cons]
    omega
theorem flat_cc : ∀ {rs : List Row}, (∀ r ∈ rs, flat r) → rowsCc rs = 0
  | [], _ => rfl
  | r :: rs, h => by
    have e : r.cc = 0 := by
      have := h r List.mem_cons_self
      cases r <;> first | rfl | exact this.elim
    show r.cc + rowsCc rs = _
    rw [e, flat_cc fun x hx => h x (List.mem_cons_of_mem _ hx)]
theorem PoolAt.but {H H' : Hp} {a D : Addr} (ne : a ≠ D) (b : But D H H') (h : PoolAt H a) : PoolAt H' a := by
  obtain ⟨_, _, _, h, r⟩ := h
  exact ⟨_, _, _, b _ _ ne h, r⟩
theorem rows_noL' {rs : List Row} : ∀ d ∈ rs.map Row.d, NoL d := fun d hd => by
  obtain ⟨r, _, rfl⟩ := List.mem_map.mp hd
  exact r.noL
/-- a vault of one deed without "if", "times", "coin" -/
def oneV (cells : List (Int × Int)) (nm : Str) (rs : List Row) : Vlt := ⟨cells, [(nm, 9, rs)]⟩
theorem oneV_good {cells : List (Int × Int)} {nm : Str} {rs : List Row} (c0 : 1 ≤ cells.length) (c6 : cells.length ≤ 6) (hc : ∀ c ∈ cells, CellOk c) (hn : NameOk nm) (fl : ∀ r ∈ rs, flat r) (ok : ∀ r ∈ rs, r.ok cells.length 1 0) (hl : rs.length ≤ 2000) : VGood (oneV cells nm rs) :=
  ⟨c0, c6, hc, Nat.le_refl 1, by show 1 ≤ 8; decide, fun d hd => by
    rw [List.mem_singleton.mp hd]
    exact ⟨hn, ⟨by show (1 : Int) ≤ 9; decide, by show (9 : Int) ≤ 9; decide⟩, rowsOk_of ok, by rw [flat_cc fl]; decide, by rw [flat_cl fl]; exact hl⟩, List.nodup_cons.mpr ⟨by simp, List.nodup_nil⟩⟩

end M

set_option Elab.async false
set_option linter.all false
set_option maxRecDepth 100000
set_option maxHeartbeats 2000000
namespace M
open PySem PySem.Spec PyProof.Rows L2

/-! ### what "if" and "times" mean -/
def plainR : Row → Prop
  | .read .. => True
  | .set .. => True
  | .swap .. => True
  | .keep .. => True
  | _ => False
mutual
/-- a row done: the state behind it, the answer if there is one, the steps told -/
inductive RowS : Row → Mst → Mst → Option Int → List PyData → Prop
  | plain {r : Row} {st : Mst} (h : plainR r) : RowS r st (stp1 (.row r) st) none (tell (.row r) (stp1 (.row r) st))
  | coin {x : Str} {st : Mst} (h : 0 ≤ st.fallen ∧ st.fallen < st.coins.length) : RowS (.coin x) st (stp1 (.row (.coin x)) st) none []
  | ans {e : Exp} {st : Mst} : RowS (.ans e) st st (some (e.ev st.regs)) []
  | yes {e : Exp} {a b : List Row} {st s : Mst} {o : Option Int} {t : List PyData} (h : e.ev st.regs ≠ 0) (r : RowsS a st s o t) : RowS (.iff e a b) st s o t
  | no {e : Exp} {a b : List Row} {st s : Mst} {o : Option Int} {t : List PyData} (h : e.ev st.regs = 0) (r : RowsS b st s o t) : RowS (.iff e a b) st s o t
  | times {e : Exp} {a : List Row} {n : Nat} {st s : Mst} {o : Option Int} {t : List PyData} (hn : e.ev st.regs = ((n : Nat) : Int)) (r : TimesS n a st s o t) : RowS (.times e a) st s o t
inductive RowsS : List Row → Mst → Mst → Option Int → List PyData → Prop
  | nil {st : Mst} : RowsS [] st st none []
  | stop {r : Row} {rs : List Row} {st s : Mst} {v : Int} {t : List PyData} (h : RowS r st s (some v) t) : RowsS (r :: rs) st s (some v) t
  | cons {r : Row} {rs : List Row} {st s s' : Mst} {o : Option Int} {t u : List PyData} (h : RowS r st s none t) (k : RowsS rs s s' o u) : RowsS (r :: rs) st s' o (t ++ u)
inductive TimesS : Nat → List Row → Mst → Mst → Option Int → List PyData → Prop
  | zero {a : List Row} {st : Mst} : TimesS 0 a st st none []
  | stop {n : Nat} {a : List Row} {st s : Mst} {v : Int} {t : List PyData} (h : RowsS a st s (some v) t) : TimesS (n + 1) a st s (some v) t
  | more {n : Nat} {a : List Row} {st s s' : Mst} {o : Option Int} {t u : List PyData} (h : RowsS a st s none t) (k : TimesS n a s s' o u) : TimesS (n + 1) a st s' o (t ++ u)
end
/-- the machine that stands at p, with these rounds -/
def emb (C : List FR) (p : Int) (ro : List Int) (s : Mst) : Mst := { s with code := C, place := p, rounds := ro, res := none }
/-- what goes back from row to row -/
def Fut (P : Nat → Mst → List PyData → Prop) : Prop := ∀ (st : Mst) (f : FR) (n : Nat) (tr : List PyData), st.res = none → 0 ≤ st.place → st.code[st.place.toNat]? = some f → Can f { st with place := st.place + 1 } → P n (stp1 f { st with place := st.place + 1 }) tr → P (n + 1) st (tell f (stp1 f { st with place := st.place + 1 }) ++ tr)
theorem fut_fin (Z : Mst) : Fut fun n M u => FinT n M Z u := fun _ _ _ _ h h0 hf c r => .step h h0 hf c r
/-- from M the machine comes to M' and tells t -/
def ReachT (M M' : Mst) (t : List PyData) : Prop := ∀ P, Fut P → ∀ (m : Nat) (u : List PyData), P m M' u → ∃ n, P n M (t ++ u)
theorem ReachT.refl (M : Mst) : ReachT M M [] := fun _ _ m u h => ⟨m, h⟩
theorem ReachT.trans {M M' M'' : Mst} {t u : List PyData} (h : ReachT M M' t) (k : ReachT M' M'' u) : ReachT M M'' (t ++ u) := fun P F m w f => by
  obtain ⟨n, f⟩ := k P F m w f
  obtain ⟨n', f⟩ := h P F n _ f
  rw [← List.append_assoc] at f
  exact ⟨n', f⟩
/-- one step -/
theorem ReachT.one {M : Mst} {f : FR} (h : M.res = none) (h0 : 0 ≤ M.place) (hf : M.code[M.place.toNat]? = some f) (c : Can f { M with place := M.place + 1 }) : ReachT M (stp1 f { M with place := M.place + 1 }) (tell f (stp1 f { M with place := M.place + 1 })) := fun P F m u k => ⟨m + 1, F _ _ _ _ h h0 hf c k⟩
/-- the answer stands: the machine stops there -/
def StopT (M : Mst) (v : Int) (cells : List Int) (t : List PyData) : Prop := ∃ (n : Nat) (Z : Mst), FinT n M Z t ∧ Z.res = some v ∧ Z.cells = cells
theorem StopT.from {M M' : Mst} {v : Int} {cells : List Int} {t u : List PyData} (r : ReachT M M' t) (s : StopT M' v cells u) : StopT M v cells (t ++ u) := by
  obtain ⟨n, Z, f, h1, h2⟩ := s
  obtain ⟨n', f⟩ := r _ (fut_fin Z) n u f
  exact ⟨n', Z, f, h1, h2⟩
/-- C holds what c' holds, from c's end on -/
def Agr (C c c' : List FR) : Prop := ∀ i, c.length ≤ i → i < c'.length → C[i]? = c'[i]?
/-- what the rows from c to c' do -/
def Does (C c c' : List FR) (ro : List Int) (st s : Mst) (t : List PyData) : Option Int → Prop
  | none => ReachT (emb C c.length ro st) (emb C c'.length ro s) t
  | some v => StopT (emb C c.length ro st) v s.cells t
section
variable {C : List FR} {ro : List Int} {st s : Mst}
theorem emb_step {p : Nat} {f : FR} (hp : C[p]? = some f) (c : Can f (emb C ((p : Int) + 1) ro st)) : ReachT (emb C p ro st) (stp1 f (emb C ((p : Int) + 1) ro st)) (tell f (stp1 f (emb C ((p : Int) + 1) ro st))) :=
  ReachT.one (M := emb C p ro st) (f := f) rfl (Int.natCast_nonneg p) (by show C[((p : Nat) : Int).toNat]? = _; rw [Int.toNat_natCast]; exact hp) c
theorem emb_plain {r : Row} (h : plainR r) (p : Int) : stp1 (.row r) (emb C p ro st) = emb C p ro (stp1 (.row r) st) := by
  cases r with
  | swap r k e f =>
    show (if st.cells.getD k.toNat 0 = e.ev st.regs then ({ emb C p ro st with cells := st.cells.set k.toNat (f.ev st.regs % st.sides.getD k.toNat 0), regs := rset st.regs r 1 } : Mst) else { emb C p ro st with regs := rset st.regs r 0 }) = emb C p ro (if st.cells.getD k.toNat 0 = e.ev st.regs then { st with cells := st.cells.set k.toNat (f.ev st.regs % st.sides.getD k.toNat 0), regs := rset st.regs r 1 } else { st with regs := rset st.regs r 0 })
    split <;> rfl
  | read r k => rfl
  | set k e => rfl
  | keep r e => rfl
  | coin r => exact h.elim
  | iff e a b => exact h.elim
  | times e a => exact h.elim
  | ans e => exact h.elim
theorem tell_emb {r : Row} (p : Int) : tell (.row r) (emb C p ro s) = tell (.row r) s := by cases r <;> rfl
/-- on p -/
theorem emb_on {p q : Nat} (hp : C[p]? = some (.on q)) : ReachT (emb C p ro st) (emb C q ro st) [] := emb_step hp trivial
theorem emb_no {p q : Nat} {e : Exp} (hp : C[p]? = some (.unless e q)) (h : e.ev st.regs = 0) : ReachT (emb C p ro st) (emb C q ro st) [] := by
  have z := emb_step (ro := ro) (st := st) hp trivial
  have e1 : stp1 (.unless e q) (emb C ((p : Int) + 1) ro st) = emb C q ro st := if_pos h
  rw [e1] at z
  exact z
theorem emb_yes {p q : Nat} {e : Exp} (hp : C[p]? = some (.unless e q)) (h : e.ev st.regs ≠ 0) : ReachT (emb C p ro st) (emb C ((p + 1 : Nat) : Int) ro st) [] := by
  have z := emb_step (ro := ro) (st := st) hp trivial
  have e1 : stp1 (.unless e q) (emb C ((p : Int) + 1) ro st) = emb C ((p : Int) + 1) ro st := if_neg h
  rw [e1] at z
  exact z
theorem emb_rounds {p : Nat} {e : Exp} {n : Nat} (hp : C[p]? = some (.rounds e)) (h : e.ev st.regs = ((n : Nat) : Int)) (hr : ro.length < 9) : ReachT (emb C p ro st) (emb C ((p + 1 : Nat) : Int) (ro ++ [((n : Nat) : Int)]) st) [] := by
  have z := emb_step (ro := ro) (st := st) hp hr
  have e1 : stp1 (.rounds e) (emb C ((p : Int) + 1) ro st) = emb C ((p : Int) + 1) (ro ++ [((n : Nat) : Int)]) st := by
    show ({ emb C ((p : Int) + 1) ro st with rounds := ro ++ [e.ev st.regs] } : Mst) = _
    rw [h]
    rfl
  rw [e1] at z
  exact z
theorem emb_round {p q : Nat} (hp : C[p]? = some (.round q)) (n : Nat) : ReachT (emb C p (ro ++ [((n : Nat) : Int)]) st) (if n = 0 then emb C q ro st else emb C ((p + 1 : Nat) : Int) (ro ++ [((n : Nat) : Int) - 1]) st) [] := by
  have z := emb_step (ro := ro ++ [((n : Nat) : Int)]) (st := st) hp (by show ro ++ [((n : Nat) : Int)] ≠ []; simp)
  have el : (ro ++ [((n : Nat) : Int)]).getLast?.getD 0 = n := by simp
  have ed : (ro ++ [((n : Nat) : Int)]).dropLast = ro := List.dropLast_concat
  have e1 : stp1 (.round q) (emb C ((p : Int) + 1) (ro ++ [((n : Nat) : Int)]) st) = if n = 0 then emb C q ro st else emb C ((p + 1 : Nat) : Int) (ro ++ [((n : Nat) : Int) - 1]) st := by
    show (if (ro ++ [((n : Nat) : Int)]).getLast?.getD 0 = 0 then ({ emb C ((p : Int) + 1) (ro ++ [((n : Nat) : Int)]) st with rounds := (ro ++ [((n : Nat) : Int)]).dropLast, place := q } : Mst) else { emb C ((p : Int) + 1) (ro ++ [((n : Nat) : Int)]) st with rounds := (ro ++ [((n : Nat) : Int)]).dropLast ++ [(ro ++ [((n : Nat) : Int)]).getLast?.getD 0 - 1] }) = _
    rw [el, ed]
    by_cases c : n = 0
    · rw [if_pos c, if_pos (by omega)]
      rfl
    · rw [if_neg c, if_neg (by omega)]
      rfl
  rw [e1] at z
  exact z
end

end M

set_option Elab.async false
set_option linter.all false
set_option maxRecDepth 100000
set_option maxHeartbeats 2000000
namespace M
open PySem PySem.Spec PyProof.Rows L2

/-! ### the machine does what "if" and "times" mean -/
theorem lay_iff {e : Exp} {a b : List Row} {c c1 c2 : List FR} (h1 : c1 = putRows a (c ++ [FR.hole])) (h2 : c2 = putRows b ((c1 ++ [FR.hole]).set c.length (FR.unless e (c1.length + 1)))) :
    putRow (.iff e a b) c = c2.set c1.length (FR.on c2.length) ∧ c.length + 1 ≤ c1.length ∧ c1.length + 1 ≤ c2.length ∧ (c2.set c1.length (FR.on c2.length))[c.length]? = some (.unless e (c1.length + 1)) ∧ (∀ i, c.length + 1 ≤ i → i < c1.length → (c2.set c1.length (FR.on c2.length))[i]? = c1[i]?) ∧
    (c2.set c1.length (FR.on c2.length))[c1.length]? = some (.on c2.length) ∧ ∀ i, c1.length + 1 ≤ i → (c2.set c1.length (FR.on c2.length))[i]? = c2[i]? := by
  have g1 := putRows_goes a (c ++ [FR.hole])
  have g2 := putRows_goes b ((c1 ++ [FR.hole]).set c.length (FR.unless e (c1.length + 1)))
  rw [← h1] at g1
  rw [← h2] at g2
  have l1 := g1.le
  have l2 := g2.le
  simp only [List.length_append, List.length_set, List.length_cons, List.length_nil] at l1 l2
  refine ⟨by rw [h2, h1]; rfl, by omega, by omega, ?_, fun i hi hj => ?_, List.getElem?_set_self (by omega), fun i hi => List.getElem?_set_ne (by omega)⟩
  · rw [List.getElem?_set_ne (by omega), g2.old _ (by simp; omega), List.getElem?_set_self (by simp; omega)]
  · rw [List.getElem?_set_ne (by omega), g2.old _ (by simp; omega), List.getElem?_set_ne (by omega), List.getElem?_append_left hj]
theorem lay_times {e : Exp} {a : List Row} {c c1 : List FR} (h1 : c1 = putRows a (c ++ [FR.rounds e, FR.hole])) :
    putRow (.times e a) c = (c1 ++ [FR.on (c.length + 1)]).set (c.length + 1) (FR.round (c1.length + 1)) ∧ c.length + 2 ≤ c1.length ∧ ((c1 ++ [FR.on (c.length + 1)]).set (c.length + 1) (FR.round (c1.length + 1)))[c.length]? = some (.rounds e) ∧ ((c1 ++ [FR.on (c.length + 1)]).set (c.length + 1) (FR.round (c1.length + 1)))[c.length + 1]? = some (.round (c1.length + 1)) ∧
    (∀ i, c.length + 2 ≤ i → i < c1.length → ((c1 ++ [FR.on (c.length + 1)]).set (c.length + 1) (FR.round (c1.length + 1)))[i]? = c1[i]?) ∧ ((c1 ++ [FR.on (c.length + 1)]).set (c.length + 1) (FR.round (c1.length + 1)))[c1.length]? = some (.on (c.length + 1)) := by
  have g1 := putRows_goes a (c ++ [FR.rounds e, FR.hole])
  rw [← h1] at g1
  have l1 := g1.le
  simp only [List.length_append, List.length_cons, List.length_nil] at l1
  refine ⟨by rw [h1]; rfl, by omega, ?_, List.getElem?_set_self (by simp; omega), fun i hi hj => ?_, ?_⟩
  · rw [List.getElem?_set_ne (by omega), List.getElem?_append_left (by omega), g1.old _ (by simp)]
    simp
  · rw [List.getElem?_set_ne (by omega), List.getElem?_append_left hj]
  · rw [List.getElem?_set_ne (by omega)]
    simp
/-- what a body within rounds does -/
def DoesL (C : List FR) (q z : Nat) (ro : List Int) (n : Nat) (st s : Mst) (t : List PyData) : Option Int → Prop
  | none => ReachT (emb C q (ro ++ [((n : Nat) : Int)]) st) (emb C z ro s) t
  | some v => StopT (emb C q (ro ++ [((n : Nat) : Int)]) st) v s.cells t
theorem agr_one {C c : List FR} {f : FR} (h : Agr C c (c ++ [f])) : C[c.length]? = some f := (h _ (Nat.le_refl _) (by simp)).trans (by simp)
theorem ReachT.end {M M' : Mst} {t : List PyData} (r : ReachT M M' ([] ++ (t ++ []))) : ReachT M M' t := by
  rw [List.nil_append, List.append_nil] at r
  exact r
section
variable {C : List FR} {k : Int}
mutual
theorem simRow {ro : List Int} : ∀ {r : Row} {st s : Mst} {o : Option Int} {t : List PyData} {c : List FR} {deep loops : Nat}, RowS r st s o t → r.ok k deep loops → ro.length ≤ loops → Agr C c (putRow r c) → Does C c (putRow r c) ro st s t o
  | r, _, _, _, _, c, _, _, .plain (st := st) h, ok, _, ag => by
    have e : putRow r c = c ++ [.row r] := by cases r <;> first | rfl | exact h.elim
    rw [e] at ag ⊢
    have can : Can (.row r) (emb C ((c.length : Int) + 1) ro st) := by cases r <;> first | trivial | exact h.elim
    have z := emb_step (agr_one ag) can
    rw [emb_plain h, tell_emb] at z
    show ReachT _ (emb C ((c ++ [FR.row r]).length : Nat) ro _) _
    rw [List.length_append]
    exact z
  | _, _, _, _, _, c, _, _, .coin (x := x) (st := st) h, ok, _, ag => by
    have z := emb_step (ro := ro) (st := st) (agr_one (f := .row (.coin x)) ag) h
    show ReachT _ (emb C ((c ++ [FR.row (.coin x)]).length : Nat) ro _) _
    rw [List.length_append]
    exact z
  | _, _, _, _, _, c, _, _, .ans (e := e) (st := st), ok, _, ag => by
    have z := FinT.step (st := emb C c.length ro st) (f := .row (.ans e)) rfl (Int.natCast_nonneg _) (by show C[((c.length : Nat) : Int).toNat]? = _; rw [Int.toNat_natCast]; exact agr_one (f := .row (.ans e)) ag) trivial (.stop rfl)
    exact ⟨_, _, z, rfl, rfl⟩
  | _, _, _, o, t, c, _, _, .yes (e := e) (a := a) (b := b) h r, ok, hl, ag => by
    obtain ⟨c1, h1⟩ : ∃ c1, c1 = putRows a (c ++ [FR.hole]) := ⟨_, rfl⟩
    obtain ⟨c2, h2⟩ : ∃ c2, c2 = putRows b ((c1 ++ [FR.hole]).set c.length (FR.unless e (c1.length + 1))) := ⟨_, rfl⟩
    obtain ⟨ec, l1, l2, p0, pa, p1, pb⟩ := lay_iff h1 h2
    rw [ec] at ag ⊢
    have lc : (c2.set c1.length (FR.on c2.length)).length = c2.length := List.length_set
    have C0 := (ag c.length (Nat.le_refl _) (by omega)).trans p0
    have C1 := (ag c1.length (by omega) (by omega)).trans p1
    have lh : (c ++ [FR.hole]).length = c.length + 1 := by simp
    have ih := simRows r ok.2.1 hl (c := c ++ [FR.hole]) (fun i hi hj => (ag i (by omega) (by rw [← h1] at hj; omega)).trans ((pa i (by omega) (by rw [← h1] at hj; exact hj)).trans (by rw [h1])))
    rw [← h1] at ih
    unfold Does at ih ⊢
    rw [lh] at ih
    rw [lc]
    cases o with
    | none => exact ((emb_yes C0 h).trans (ReachT.trans ih (emb_on C1))).end
    | some v => exact StopT.from (emb_yes C0 h) ih
  | _, _, _, o, _, c, _, _, .no (e := e) (a := a) (b := b) h r, ok, hl, ag => by
    obtain ⟨c1, h1⟩ : ∃ c1, c1 = putRows a (c ++ [FR.hole]) := ⟨_, rfl⟩
    obtain ⟨c2, h2⟩ : ∃ c2, c2 = putRows b ((c1 ++ [FR.hole]).set c.length (FR.unless e (c1.length + 1))) := ⟨_, rfl⟩
    obtain ⟨ec, l1, l2, p0, pa, p1, pb⟩ := lay_iff h1 h2
    rw [ec] at ag ⊢
    have lc : (c2.set c1.length (FR.on c2.length)).length = c2.length := List.length_set
    have C0 := (ag c.length (Nat.le_refl _) (by omega)).trans p0
    have ld : ((c1 ++ [FR.hole]).set c.length (FR.unless e (c1.length + 1))).length = c1.length + 1 := by simp
    have ih := simRows r ok.2.2 hl (c := (c1 ++ [FR.hole]).set c.length (FR.unless e (c1.length + 1))) (fun i hi hj => (ag i (by omega) (by rw [← h2] at hj; omega)).trans ((pb i (by omega)).trans (by rw [h2])))
    rw [← h2] at ih
    unfold Does at ih ⊢
    rw [ld] at ih
    rw [lc]
    cases o with
    | none => exact (emb_no C0 h).trans ih
    | some v => exact StopT.from (emb_no C0 h) ih
  | _, _, _, o, _, c, _, loops, .times (e := e) (a := a) (n := n) hn r, ok, hl, ag => by
    obtain ⟨c1, h1⟩ : ∃ c1, c1 = putRows a (c ++ [FR.rounds e, FR.hole]) := ⟨_, rfl⟩
    obtain ⟨ec, l1, p0, p1, pa, p2⟩ := lay_times (e := e) h1
    rw [ec] at ag ⊢
    have lc : ((c1 ++ [FR.on (c.length + 1)]).set (c.length + 1) (FR.round (c1.length + 1))).length = c1.length + 1 := by simp
    have C0 := (ag c.length (Nat.le_refl _) (by omega)).trans p0
    have C1 := (ag (c.length + 1) (by omega) (by omega)).trans p1
    have C2 := (ag c1.length (by omega) (by omega)).trans p2
    have lh : (c ++ [FR.rounds e, FR.hole]).length = c.length + 1 + 1 := by simp
    have l2 : loops < 2 := ok.2.1
    have ih := simTimes (ro := ro) (q := c.length + 1) (z := c1.length + 1) r ok.2.2 (by omega) C1 lh (fun i hi hj => (ag i (by omega) (by rw [← h1] at hj; omega)).trans ((pa i (by omega) (by rw [← h1] at hj; exact hj)).trans (by rw [h1]))) (by rw [← h1]; exact C2)
    unfold Does
    unfold DoesL at ih
    rw [lc]
    cases o with
    | none => exact (emb_rounds C0 hn (by omega)).trans ih
    | some v => exact StopT.from (emb_rounds C0 hn (by omega)) ih
theorem simRows {ro : List Int} : ∀ {rs : List Row} {st s : Mst} {o : Option Int} {t : List PyData} {c : List FR} {deep loops : Nat}, RowsS rs st s o t → rowsOk k deep loops rs → ro.length ≤ loops → Agr C c (putRows rs c) → Does C c (putRows rs c) ro st s t o
  | _, _, _, _, _, c, _, _, .nil, _, _, _ => ReachT.refl _
  | _, _, _, _, _, c, _, _, .stop (r := r) (rs := rs) h, ok, hl, ag => by
    have g := putRows_goes rs (putRow r c)
    have ih := simRow h ok.2.1 hl (c := c) (fun i hi hj => (ag i hi (Nat.lt_of_lt_of_le hj g.le)).trans (g.old i hj))
    exact ih
  | _, _, _, o, _, c, _, _, .cons (r := r) (rs := rs) h kk, ok, hl, ag => by
    have g := putRows_goes rs (putRow r c)
    have g0 := (putRow_goes r c).le
    have i1 := simRow h ok.2.1 hl (c := c) (fun i hi hj => (ag i hi (Nat.lt_of_lt_of_le hj g.le)).trans (g.old i hj))
    have i2 := simRows kk ok.2.2 hl (c := putRow r c) (fun i hi hj => ag i (Nat.le_trans g0 hi) hj)
    cases o with
    | none => exact ReachT.trans i1 i2
    | some v => exact StopT.from i1 i2
theorem simTimes {ro : List Int} : ∀ {n : Nat} {a : List Row} {st s : Mst} {o : Option Int} {t : List PyData} {c0 : List FR} {q z deep loops : Nat}, TimesS n a st s o t → rowsOk k deep loops a → ro.length + 1 ≤ loops → C[q]? = some (.round z) → c0.length = q + 1 → Agr C c0 (putRows a c0) → C[(putRows a c0).length]? = some (.on q) → DoesL C q z ro n st s t o
  | _, a, _, _, _, _, c0, q, z, _, _, .zero (st := st), ok, hl, hq, h0, ag, hon => by
    have r := emb_round (ro := ro) (st := st) hq 0
    rw [if_pos rfl] at r
    exact r
  | _, a, _, _, _, _, c0, q, z, _, _, .stop (n := n) (st := st) h, ok, hl, hq, h0, ag, hon => by
    have r := emb_round (ro := ro) (st := st) hq (n + 1)
    rw [if_neg (Nat.succ_ne_zero n), show (((n + 1 : Nat) : Int) - 1) = ((n : Nat) : Int) from by omega] at r
    have ih := simRows (ro := ro ++ [((n : Nat) : Int)]) h ok (by simp; omega) ag
    unfold Does at ih
    rw [h0] at ih
    exact StopT.from r ih
  | _, a, _, _, o, _, c0, q, z, _, _, .more (n := n) (st := st) h kk, ok, hl, hq, h0, ag, hon => by
    have r := emb_round (ro := ro) (st := st) hq (n + 1)
    rw [if_neg (Nat.succ_ne_zero n), show (((n + 1 : Nat) : Int) - 1) = ((n : Nat) : Int) from by omega] at r
    have i1 := simRows (ro := ro ++ [((n : Nat) : Int)]) h ok (by simp; omega) ag
    unfold Does at i1
    rw [h0] at i1
    have i2 := simTimes kk ok hl hq h0 ag hon
    have i3 := (r.trans (ReachT.trans i1 (emb_on hon))).end
    cases o with
    | none => exact ReachT.trans i3 i2
    | some v => exact StopT.from i3 i2
end
end
/-- a body's run, from its beginning to its end -/
theorem body_fin {rs : List Row} {k : Int} {sides cells coins : List Int} {a : Int} {s : Mst} {o : Option Int} {t : List PyData} (ok : rowsOk k 1 0 rs) (r : RowsS rs (mst0 (codeOf rs) sides cells coins a) s o t) :
    ∃ (n : Nat) (Z : Mst), FinT n (mst0 (codeOf rs) sides cells coins a) Z t ∧ Z.res = some (o.getD 0) ∧ Z.cells = s.cells := by
  have g : Agr (codeOf rs) [] (putRows rs []) := fun i _ hj => List.getElem?_append_left hj
  have d := simRows (C := codeOf rs) (ro := []) r ok (Nat.le_refl 0) g
  cases o with
  | some v => exact d
  | none =>
    have hp : (codeOf rs)[(putRows rs []).length]? = some (.row (.ans (.num 0))) := by simp [codeOf]
    have z := FinT.step (st := emb (codeOf rs) (putRows rs []).length [] s) (f := .row (.ans (.num 0))) rfl (Int.natCast_nonneg _) (by show (codeOf rs)[((putRows rs []).length : Int).toNat]? = _; rw [Int.toNat_natCast]; exact hp) trivial (.stop rfl)
    obtain ⟨n, f⟩ := d _ (fut_fin _) _ _ z
    have e : t ++ (tell (.row (.ans (.num 0))) (stp1 (.row (.ans (.num 0))) { emb (codeOf rs) (putRows rs []).length [] s with place := (emb (codeOf rs) (putRows rs []).length [] s).place + 1 }) ++ []) = t := by
      show t ++ ([] ++ []) = t
      simp
    rw [e] at f
    exact ⟨n, _, f, rfl, rfl⟩

end M

set_option Elab.async false
set_option linter.all false
set_option maxRecDepth 100000
set_option maxHeartbeats 2000000
namespace M
open PySem PySem.Spec PyProof.Rows L2

/-! ### the law's own walker: one row that reads or changes a cell -/
structure LA where
  sz : Addr
  ce : Addr
  he : Addr
  fa : Addr
  tr : Addr
/-- how the law's walker stands: its lists and its registers, the steps told so far -/
structure Wkr (K : PySem.W.Frag) (H : Hp) (L : LA) (st : Mst) (so : List PyData) : Prop where
  sz : H L.sz = some (.lst (st.sides.map .int))
  ce : H L.ce = some (.lst (st.cells.map .int))
  he : H L.he = some (.dK (heldK st.regs))
  fa : H L.fa = some (.lst ((st.coins.drop st.fallen.toNat).map .int))
  tr : ∃ ys : List V, H L.tr = some (.lst ys) ∧ DpAll K H ys so
  nl : ∀ d ∈ so, NoL d
  d1 : L.sz ≠ L.ce ∧ L.sz ≠ L.fa ∧ L.sz ≠ L.tr
  d2 : L.ce ≠ L.fa ∧ L.ce ≠ L.tr ∧ L.fa ≠ L.tr
/-- all but the walker's own is as it was -/
def Bw (L : LA) (H H' : Hp) : Prop := ∀ b o, b ≠ L.ce → b ≠ L.he → b ≠ L.fa → b ≠ L.tr → H b = some o → H' b = some o
theorem Bw.refl (L : LA) (H : Hp) : Bw L H H := fun _ _ _ _ _ _ e => e
theorem Bw.trans {L : LA} {H1 H2 H3 : Hp} (s : Bw L H1 H2) (t : Bw L H2 H3) : Bw L H1 H3 := fun b o h1 h2 h3 h4 e => t b o h1 h2 h3 h4 (s b o h1 h2 h3 h4 e)
section
variable {K : PySem.W.Frag} {H H' : Hp} {L : LA} {st : Mst} {t : List PyData}
theorem Bw.same (s : Same H H') : Bw L H H' := fun b o _ _ _ _ e => s b o e
theorem Bw.ce (s : But L.ce H H') : Bw L H H' := fun b o h _ _ _ e => s b o h e
theorem Bw.he (s : But L.he H H') : Bw L H H' := fun b o _ h _ _ e => s b o h e
theorem Bw.fa (s : But L.fa H H') : Bw L H H' := fun b o _ _ h _ e => s b o h e
theorem Bw.tr (s : But L.tr H H') : Bw L H H' := fun b o _ _ _ h e => s b o h e
theorem Wkr.ceh (r : Wkr K H L st t) : L.ce ≠ L.he := ne_ho r.ce r.he fun e => nomatch e
theorem Wkr.szh (r : Wkr K H L st t) : L.sz ≠ L.he := ne_ho r.sz r.he fun e => nomatch e
theorem Wkr.fah (r : Wkr K H L st t) : L.fa ≠ L.he := ne_ho r.fa r.he fun e => nomatch e
theorem Wkr.trh (r : Wkr K H L st t) : L.tr ≠ L.he := by
  obtain ⟨ys, h, _⟩ := r.tr
  exact ne_ho h r.he fun e => nomatch e
theorem Wkr.same (s : Same H H') (r : Wkr K H L st t) : Wkr K H' L st t := by
  obtain ⟨ys, h, d⟩ := r.tr
  exact ⟨s _ _ r.sz, s _ _ r.ce, s _ _ r.he, s _ _ r.fa, ⟨ys, s _ _ h, dps_same s d⟩, r.nl, r.d1, r.d2⟩
theorem Wkr.setC (r : Wkr K H L st t) (cs : List Int) : Wkr K (upd H L.ce (.lst (cs.map .int))) L { st with cells := cs } t := by
  obtain ⟨ys, h, d⟩ := r.tr
  have b : But L.ce H (upd H L.ce (.lst (cs.map .int))) := But.upd
  exact ⟨b _ _ r.d1.1 r.sz, upd_same, b _ _ (Ne.symm r.ceh) r.he, b _ _ (Ne.symm r.d2.1) r.fa, ⟨ys, b _ _ (Ne.symm r.d2.2.1) h, dps_but (.lst r.ce) b d r.nl⟩, r.nl, r.d1, r.d2⟩
theorem Wkr.setH (r : Wkr K H L st t) (g : Str → Int) : Wkr K (upd H L.he (.dK (heldK g))) L { st with regs := g } t := by
  obtain ⟨ys, h, d⟩ := r.tr
  have b : But L.he H (upd H L.he (.dK (heldK g))) := But.upd
  exact ⟨b _ _ r.szh r.sz, b _ _ r.ceh r.ce, upd_same, b _ _ r.fah r.fa, ⟨ys, b _ _ r.trh h, dps_but (.dK r.he) b d r.nl⟩, r.nl, r.d1, r.d2⟩
/-- a step is told -/
theorem Wkr.told (r : Wkr K H L st t) {ys : List V} {v : V} {d : PyData} (h : H L.tr = some (.lst ys)) (hd : DpAll K H ys t) (dv : Dp K H v d) (nd : NoL d) : Wkr K (upd H L.tr (.lst (ys ++ [v]))) L st (t ++ [d]) := by
  have b : But L.tr H (upd H L.tr (.lst (ys ++ [v]))) := But.upd
  refine ⟨b _ _ r.d1.2.2 r.sz, b _ _ r.d2.2.1 r.ce, b _ _ (Ne.symm r.trh) r.he, b _ _ r.d2.2.2 r.fa, ⟨_, upd_same, dps_app (dps_but (.lst h) b hd r.nl) (.cons (dp_but (.lst h) b dv nd) .nil)⟩, fun x hx => ?_, r.d1, r.d2⟩
  rcases List.mem_append.mp hx with hx | hx
  · exact r.nl x hx
  · rw [List.mem_singleton.mp hx]
    exact nd
end
section
variable {P : Program} {w : World} {K : PySem.W.Frag} {mg : Str → Option Value} {base : Heap}
def stepR : Row → Prop
  | .read .. => True
  | .set .. => True
  | .swap .. => True
  | _ => False
def spStepL (K : PySem.W.Frag) : Sp := fun vs H Q _ => ∃ (v : V) (L : LA) (r : Row) (st : Mst) (t : List PyData), vs = [v, .ref L.sz, .ref L.ce, .ref L.he, .ref L.tr] ∧ Dp K H v r.d ∧ stepR r ∧ FOk st.cells.length (.row r) ∧ MOk st ∧ Wkr K H L st t ∧ t.length < 200000 ∧ ∀ H', Bw L H H' → Wkr K H' L (stp1 (.row r) st) (t ++ tell (.row r) (stp1 (.row r) st)) → Q .non H'
theorem ca_l_step (T : Txt w K mg) : Ca P w K mg base 9 "_law_step" (spStepL K) := by
  refine ca_of (N := ["_law_row_here", "_law_sizes", "_law_cells_here", "_law_held", "_law_trace", "_law_one", "_law_two", "_law_hit"]) (ps := ["_law_row_here", "_law_sizes", "_law_cells_here", "_law_held", "_law_trace"]) T.f_l_step T.g_law_step ⟨rfl, rfl, rfl, by decide +kernel, rfl, by decide +kernel, by decide +kernel⟩ (fun _ _ _ _ _ _ us hl => match us, hl with | [_, _, _, _, _], _ => rfl)
    (fun vs H Q E h => by obtain ⟨v, L, r, st, t, rfl, hv, hr', ok, m, wk, hlt, q⟩ := h; rfl) (fun cdv A outer s H vs Q E hr h => ?_)
  have nd : (["_law_row_here", "_law_sizes", "_law_cells_here", "_law_held", "_law_trace", "_law_one", "_law_two", "_law_hit"] : List Str).Nodup := by decide +kernel
  obtain ⟨v, L, r, st, t, rfl, hv, hr', ok, m, wk, hlt, q⟩ := h
  refine ⟨_, (pss_one (ps_if (pt_cmpR op_eq (pe_ix ix_tup (pv 0) pe_int (fun _ _ => rfl)) pe_str (nomark _)) (pss_cons (ps_dput (hu_of hr) (pv 3) (pe_ix ix_tup (pv 0) pe_int (fun _ _ => rfl)) (pe_ix ix_list (pv 2) (pe_ix ix_tup (pv 0) pe_int (fun _ _ => rfl)) (fun _ _ => rfl)) rfl)
      (pss_one (ps_expr (pe_bm PySem.F.plainAttrs_list PySem.F.slot_list_append PySem.F.type_list_append mt_append (pv 4) (pa_cons (pe_tup (pa_cons pe_str (pa_cons (pe_ix ix_tup (pv 0) pe_int (fun _ _ => rfl)) (pa_cons (pe_ix ix_list (pv 2) (pe_ix ix_tup (pv 0) pe_int (fun _ _ => rfl)) (fun _ _ => rfl)) (pa_cons (pe_tupleOf (by rfl) T.b_tuple (pv 2)) pa_nil))))) pa_nil))))) (pss_one (ps_if (pt_cmpR op_eq (pe_ix ix_tup (pv 0) pe_int (fun _ _ => rfl)) pe_str (nomark _)) (pss_cons (ps_asg (pe_op op_mod (pe_callTy call_int1 (by rfl) T.b_int boot_int (pa_cons (pe_ca (ca_l_value 7 T) hr (pa_cons (pe_ix ix_tup (pv 0) pe_int (fun _ _ => rfl)) (pa_cons (pv 3) pa_nil))) pa_nil)) (pe_ix ix_list (pv 1) (pe_ix ix_tup (pv 0) pe_int (fun _ _ => rfl)) (fun _ _ => rfl))) (pg_sub (pv 2) (pe_ix ix_tup (pv 0) pe_int (fun _ _ => rfl)) set_list))
      (pss_one (ps_expr (pe_bm PySem.F.plainAttrs_list PySem.F.slot_list_append PySem.F.type_list_append mt_append (pv 4) (pa_cons (pe_tup (pa_cons pe_str (pa_cons (pe_ix ix_tup (pv 0) pe_int (fun _ _ => rfl)) (pa_cons (pe_ix ix_list (pv 2) (pe_ix ix_tup (pv 0) pe_int (fun _ _ => rfl)) (fun _ _ => rfl)) (pa_cons (pe_tupleOf (by rfl) T.b_tuple (pv 2)) pa_nil))))) pa_nil))))) (pss_cons (ps_set (i := 5) nd rfl (.inl rfl) (pe_ca (ca_l_value 7 T) hr (pa_cons (pe_ix ix_tup (pv 0) pe_int (fun _ _ => rfl)) (pa_cons (pv 3) pa_nil))))
      (pss_cons (ps_set (i := 6) nd rfl (.inl rfl) (pe_ca (ca_l_value 7 T) hr (pa_cons (pe_ix ix_tup (pv 0) pe_int (fun _ _ => rfl)) (pa_cons (pv 3) pa_nil))))
      (pss_cons (ps_set (i := 7) nd rfl (.inl rfl) (pe_callTy call_int1 (by rfl) T.b_int boot_int (pa_cons (pe_cmpR op_eq (pe_ix ix_list (pv 2) (pe_ix ix_tup (pv 0) pe_int (fun _ _ => rfl)) (fun _ _ => rfl)) (pv 5) (nomark _)) pa_nil)))
      (pss_cons (ps_if (pt_cmpR op_eq (pv 7) pe_int (nomark _)) (pss_one (ps_asg (pe_op op_mod (pe_callTy call_int1 (by rfl) T.b_int boot_int (pa_cons (pv 6) pa_nil)) (pe_ix ix_list (pv 1) (pe_ix ix_tup (pv 0) pe_int (fun _ _ => rfl)) (fun _ _ => rfl))) (pg_sub (pv 2) (pe_ix ix_tup (pv 0) pe_int (fun _ _ => rfl)) set_list))) pss_nil)
      (pss_cons (ps_dput (hu_of hr) (pv 3) (pe_ix ix_tup (pv 0) pe_int (fun _ _ => rfl)) (pv 7) rfl)
      (pss_one (ps_expr (pe_bm PySem.F.plainAttrs_list PySem.F.slot_list_append PySem.F.type_list_append mt_append (pv 4) (pa_cons (pe_tup (pa_cons pe_str (pa_cons (pe_ix ix_tup (pv 0) pe_int (fun _ _ => rfl)) (pa_cons (pv 7) (pa_cons (pe_tupleOf (by rfl) T.b_tuple (pv 2)) pa_nil))))) pa_nil))))))))))))), ?_⟩
  obtain ⟨ys, hys, dys⟩ := wk.tr
  have lys : ys.length = t.length := dps_len dys
  -- what is told behind the row
  have fin : ∀ (st' : Mst) (H1 : Hp) (wd : Str) (k z : Int), Bw L H H1 → Wkr K H1 L st' t → stp1 (.row r) st = st' → tell (.row r) st' = [.tuple [.str wd, .int k, .int z, cellsD st']] →
      ∀ u, H1 u = none → ∀ u2, upd H1 u (.tup (st'.cells.map .int)) u2 = none → ∃ l xs y, V.ref L.tr = .ref l ∧ [V.ref u2] = [y] ∧ upd (upd H1 u (.tup (st'.cells.map .int))) u2 (.tup [.str wd, .int k, .int z, .ref u]) l = some (.lst xs) ∧ xs.length < sizeLine ∧ Q .non (upd (upd (upd H1 u (.tup (st'.cells.map .int))) u2 (.tup [.str wd, .int k, .int z, .ref u])) l (.lst (xs ++ [y]))) := by
    intro st' H1 wd k z bw wk1 e1 e2 u nu u2 nu2
    obtain ⟨ys1, hy1, dy1⟩ := wk1.tr
    have s1 : Same H1 (upd H1 u (.tup (st'.cells.map .int))) := same_new nu
    have s2 : Same (upd H1 u (.tup (st'.cells.map .int))) (upd (upd H1 u (.tup (st'.cells.map .int))) u2 (.tup [.str wd, .int k, .int z, .ref u])) := same_new nu2
    have s12 := s1.trans s2
    have ly1 : ys1.length = t.length := dps_len dy1
    refine ⟨L.tr, ys1, .ref u2, rfl, rfl, s12 _ _ hy1, by rw [sizeLine_eq]; omega, ?_⟩
    have wk2 := (wk1.same s12).told (s12 _ _ hy1) (dps_same s12 dy1) (v := .ref u2) (d := .tuple [.str wd, .int k, .int z, cellsD st']) (.tup (.of upd_same) (.cons (.str _) (.cons (.int _) (.cons (.int _) (.cons (.tup (.of (s2 _ _ upd_same)) ints_dps) .nil))))) (four_noL ..)
    refine q _ ((bw.trans (Bw.same s12)).trans (Bw.tr But.upd)) ?_
    rw [e1, e2]
    exact wk2
  cases r with
  | read rg k =>
    obtain ⟨a, x1, x2, x3, rfl, ht, e1, e2, e3⟩ := dp3 hv
    cases dp_str e1
    cases dp_str e2
    cases dp_int e3
    obtain ⟨o1, o2, o3⟩ := ok
    refine ⟨_, rfl, _, _, _, _, rfl, rfl, ht, at0, rfl, _, rfl, iteT ?_⟩
    refine ⟨_, rfl, _, rfl, _, _, _, _, rfl, rfl, ht, at2, _, _, _, _, rfl, rfl, .of wk.ce, atK o2 o3 rfl, ?_⟩
    refine ⟨_, rfl, _, rfl, _, _, _, _, rfl, rfl, ht, at1, L.he, _, rfl, DPut.k (k := Sum.inr rg) wk.he (by show 5 < sizeLine; decide), ?_⟩
    rw [held_put (in45 o1)]
    have b := But.upd (H := H) (D := L.he) (o := .dK (heldK (rset st.regs rg (st.cells.getD k.toNat 0))))
    have wk1 := wk.setH (rset st.regs rg (st.cells.getD k.toNat 0))
    have ht1 := sqT_but (.dK wk.he) b ht
    obtain ⟨ys1, hy1, dy1⟩ := wk1.tr
    refine ⟨_, rfl, .inl ⟨rfl, _, .of hy1⟩, _, rfl, _, _, _, _, rfl, rfl, ht1, at2, _, rfl, _, rfl, _, _, _, _, rfl, rfl, ht1, at2, _, _, _, _, rfl, rfl, .of wk1.ce, atK o2 o3 rfl, _, rfl, .inl ⟨L.ce, _, rfl, .of wk1.ce, fun u nu => ⟨(by show 4 ≤ sizeLine; decide), fun u2 nu2 => ?_⟩⟩⟩
    refine fin { st with regs := rset st.regs rg (st.cells.getD k.toNat 0) } _ "read" k (st.cells.getD k.toNat 0) (Bw.he b) wk1 rfl ?_ u nu u2 nu2
    show [PyData.tuple [.str "read", .int k, .int (rset st.regs rg (st.cells.getD k.toNat 0) rg), _]] = _
    rw [show rset st.regs rg (st.cells.getD k.toNat 0) rg = st.cells.getD k.toNat 0 from if_pos rfl]
  | set k e =>
    obtain ⟨a, x1, x2, x3, rfl, ht, e1, e2, e3⟩ := dp3 hv
    cases dp_str e1
    cases dp_int e2
    obtain ⟨⟨o1, o2⟩, o3, o4⟩ := ok
    have o2' : k < st.sides.length := by rw [m.le]; exact o2
    have pos : (0 : Int) < st.sides.getD k.toNat 0 := by
      have := m.sd _ (getD_mem (l := st.sides) (i := k.toNat) (d := 0) (by omega))
      omega
    refine ⟨_, rfl, _, _, _, _, rfl, rfl, ht, at0, rfl, _, rfl, iteF ⟨_, rfl, _, _, _, _, rfl, rfl, ht, at0, rfl, _, rfl, iteT ?_⟩⟩
    refine ⟨_, rfl, _, _, _, _, rfl, rfl, ht, at2, _, rfl, x3, e, L.he, st.regs, rfl, e3, o3, by omega, wk.he, m.rg, .inl ⟨_, rfl, _, rfl, _, rfl, _, _, _, _, rfl, rfl, ht, at1, _, _, _, _, rfl, rfl, .of wk.sz, atK o1 o2' rfl, _, _, rfl, rfl, pos, ?_⟩⟩
    refine ⟨_, rfl, _, rfl, _, _, _, _, rfl, rfl, ht, at1, L.ce, _, _, k.toNat, rfl, rfl, wk.ce, by rw [List.length_map]; exact ixK o1 o2, ?_⟩
    rw [setI]
    have b := But.upd (H := H) (D := L.ce) (o := .lst ((st.cells.set k.toNat (e.ev st.regs % st.sides.getD k.toNat 0)).map .int))
    have wk1 := wk.setC (st.cells.set k.toNat (e.ev st.regs % st.sides.getD k.toNat 0))
    have ht1 := sqT_but (.lst wk.ce) b ht
    obtain ⟨ys1, hy1, dy1⟩ := wk1.tr
    have o2c : k < ((st.cells.set k.toNat (e.ev st.regs % st.sides.getD k.toNat 0)).length : Nat) := by rw [List.length_set]; exact o2
    refine ⟨_, rfl, .inl ⟨rfl, _, .of hy1⟩, _, rfl, _, _, _, _, rfl, rfl, ht1, at1, _, rfl, _, rfl, _, _, _, _, rfl, rfl, ht1, at1, _, _, _, _, rfl, rfl, .of wk1.ce, atK o1 o2c rfl, _, rfl, .inl ⟨L.ce, _, rfl, .of wk1.ce, fun u nu => ⟨(by show 4 ≤ sizeLine; decide), fun u2 nu2 => ?_⟩⟩⟩
    exact fin { st with cells := st.cells.set k.toNat (e.ev st.regs % st.sides.getD k.toNat 0) } _ "set" k _ (Bw.ce b) wk1 rfl rfl u nu u2 nu2
  | swap rg k e f =>
    obtain ⟨a, xs, rfl, ht, hxs⟩ := dp_tup hv
    cases hxs with | cons e1 hxs => cases hxs with | cons e2 hxs => cases hxs with | cons e3 hxs => cases hxs with | cons e4 hxs => cases hxs with | cons e5 hxs => cases hxs with | nil =>
    cases dp_str e1
    cases dp_str e2
    cases dp_int e3
    obtain ⟨o0, ⟨o1, o2⟩, ⟨o3, o4⟩, o5, o6⟩ := ok
    have o2' : k < st.sides.length := by rw [m.le]; exact o2
    have pos : (0 : Int) < st.sides.getD k.toNat 0 := by
      have := m.sd _ (getD_mem (l := st.sides) (i := k.toNat) (d := 0) (by omega))
      omega
    refine ⟨_, rfl, _, _, _, _, rfl, rfl, ht, at0, rfl, _, rfl, iteF ⟨_, rfl, _, _, _, _, rfl, rfl, ht, at0, rfl, _, rfl, iteF ?_⟩⟩
    refine ⟨_, rfl, _, _, _, _, rfl, rfl, ht, at3, _, rfl, _, e, L.he, st.regs, rfl, e4, o3, by omega, wk.he, m.rg, ?_⟩
    refine ⟨_, rfl, _, _, _, _, rfl, rfl, ht, at4, _, rfl, _, f, L.he, st.regs, rfl, e5, o5, by omega, wk.he, m.rg, ?_⟩
    refine ⟨_, rfl, _, rfl, _, _, _, _, rfl, rfl, ht, at2, _, _, _, _, rfl, rfl, .of wk.ce, atK o1 o2 rfl, _, rfl, rfl, .inr ⟨_, rfl, ?_⟩⟩
    have est : stp1 (.row (.swap rg k e f)) st = if st.cells.getD k.toNat 0 = e.ev st.regs then { st with cells := st.cells.set k.toNat (f.ev st.regs % st.sides.getD k.toNat 0), regs := rset st.regs rg 1 } else { st with regs := rset st.regs rg 0 } := rfl
    by_cases c : st.cells.getD k.toNat 0 = e.ev st.regs
    · rw [decide_eq_true (show V.int (st.cells.getD k.toNat 0) = V.int (e.ev st.regs) from congrArg V.int c)]
      rw [if_pos c] at est
      refine ⟨_, rfl, rfl, _, rfl, iteT ?_⟩
      refine ⟨_, rfl, .inl ⟨_, rfl, _, rfl, _, rfl, _, _, _, _, rfl, rfl, ht, at2, _, _, _, _, rfl, rfl, .of wk.sz, atK o1 o2' rfl, _, _, rfl, rfl, pos, ?_⟩⟩
      refine ⟨_, rfl, _, rfl, _, _, _, _, rfl, rfl, ht, at2, L.ce, _, _, k.toNat, rfl, rfl, wk.ce, by rw [List.length_map]; exact ixK o1 o2, ?_⟩
      rw [setI]
      have b := But.upd (H := H) (D := L.ce) (o := .lst ((st.cells.set k.toNat (f.ev st.regs % st.sides.getD k.toNat 0)).map .int))
      have wk1 := wk.setC (st.cells.set k.toNat (f.ev st.regs % st.sides.getD k.toNat 0))
      have ht1 := sqT_but (.lst wk.ce) b ht
      generalize upd H L.ce (.lst ((st.cells.set k.toNat (f.ev st.regs % st.sides.getD k.toNat 0)).map .int)) = H1 at b wk1 ht1 ⊢
      refine ⟨_, rfl, _, rfl, _, rfl, _, _, _, _, rfl, rfl, ht1, at1, L.he, _, rfl, DPut.k (k := Sum.inr rg) wk1.he (by show 5 < sizeLine; decide), ?_⟩
      rw [show (if true = true then (1 : Int) else 0) = 1 from rfl, held_put (in45 o0)]
      have b2 := But.upd (H := H1) (D := L.he) (o := .dK (heldK (rset st.regs rg 1)))
      have wk2 := wk1.setH (rset st.regs rg 1)
      have ht2 := sqT_but (.dK wk1.he) b2 ht1
      obtain ⟨ys1, hy1, dy1⟩ := wk2.tr
      refine ⟨_, rfl, .inl ⟨rfl, _, .of hy1⟩, _, rfl, _, _, _, _, rfl, rfl, ht2, at2, _, rfl, _, rfl, .inl ⟨L.ce, _, rfl, .of wk2.ce, fun u nu => ⟨(by show 4 ≤ sizeLine; decide), fun u2 nu2 => ?_⟩⟩⟩
      refine fin { st with cells := st.cells.set k.toNat (f.ev st.regs % st.sides.getD k.toNat 0), regs := rset st.regs rg 1 } _ "swap" k 1 ((Bw.ce b).trans (Bw.he b2)) wk2 est ?_ u nu u2 nu2
      show [PyData.tuple [.str "swap", .int k, .int (rset st.regs rg 1 rg), _]] = _
      rw [show rset st.regs rg 1 rg = 1 from if_pos rfl]
    · rw [decide_eq_false (show ¬ V.int (st.cells.getD k.toNat 0) = V.int (e.ev st.regs) from fun z => c (V.int.inj z))]
      rw [if_neg c] at est
      refine ⟨_, rfl, rfl, _, rfl, iteF ?_⟩
      refine ⟨_, rfl, _, rfl, _, rfl, _, _, _, _, rfl, rfl, ht, at1, L.he, _, rfl, DPut.k (k := Sum.inr rg) wk.he (by show 5 < sizeLine; decide), ?_⟩
      rw [show (if false = true then (1 : Int) else 0) = 0 from rfl, held_put (in45 o0)]
      have b2 := But.upd (H := H) (D := L.he) (o := .dK (heldK (rset st.regs rg 0)))
      have wk2 := wk.setH (rset st.regs rg 0)
      have ht2 := sqT_but (.dK wk.he) b2 ht
      obtain ⟨ys1, hy1, dy1⟩ := wk2.tr
      refine ⟨_, rfl, .inl ⟨rfl, _, .of hy1⟩, _, rfl, _, _, _, _, rfl, rfl, ht2, at2, _, rfl, _, rfl, .inl ⟨L.ce, _, rfl, .of wk2.ce, fun u nu => ⟨(by show 4 ≤ sizeLine; decide), fun u2 nu2 => ?_⟩⟩⟩
      refine fin { st with regs := rset st.regs rg 0 } _ "swap" k 0 (Bw.he b2) wk2 est ?_ u nu u2 nu2
      show [PyData.tuple [.str "swap", .int k, .int (rset st.regs rg 0 rg), _]] = _
      rw [show rset st.regs rg 0 rg = 0 from if_pos rfl]
  | _ => exact hr'.elim
end

end M

set_option Elab.async false
set_option linter.all false
set_option maxRecDepth 100000
set_option maxHeartbeats 2000000
namespace M
open PySem PySem.Spec PyProof.Rows L2

/-! ### what rows may come to, all in all -/
mutual
/-- steps at most -/
def mxR : Row → Nat
  | .read .. => 1
  | .set .. => 1
  | .swap .. => 1
  | .iff _ a b => mxs a + mxs b
  | .times _ a => 9 * mxs a
  | _ => 0
def mxs : List Row → Nat
  | [] => 0
  | r :: rs => mxR r + mxs rs
end
mutual
theorem cc_loop {c : Int} : ∀ {r : Row} {deep loops : Nat}, r.ok c deep loops → 0 < loops → r.cc = 0
  | .read .., _, _, _, _ => rfl
  | .set .., _, _, _, _ => rfl
  | .swap .., _, _, _, _ => rfl
  | .keep .., _, _, _, _ => rfl
  | .ans .., _, _, _, _ => rfl
  | .coin .., _, _, h, l => by have := h.2; omega
  | .iff e a b, _, _, h, l => by
    show rowsCc a + rowsCc b = 0
    rw [ccs_loop h.2.1 l, ccs_loop h.2.2 l]
  | .times e a, _, loops, h, l => ccs_loop (rs := a) h.2.2 (Nat.succ_pos loops)
theorem ccs_loop {c : Int} : ∀ {rs : List Row} {deep loops : Nat}, rowsOk c deep loops rs → 0 < loops → rowsCc rs = 0
  | [], _, _, _, _ => rfl
  | r :: rs, _, _, h, l => by
    show r.cc + rowsCc rs = 0
    rw [cc_loop h.2.1 l, ccs_loop h.2.2 l]
end
/-- how things stand behind some rows -/
structure Aft (st s : Mst) (cc mx : Nat) (t : List PyData) : Prop where
  mo : MOk s
  sd : s.sides = st.sides
  co : s.coins = st.coins
  le : s.cells.length = st.cells.length
  f0 : st.fallen ≤ s.fallen
  f1 : s.fallen ≤ st.fallen + cc
  ln : t.length ≤ mx
theorem Aft.then {st m s : Mst} {c1 c2 m1 m2 : Nat} {t u : List PyData} (a : Aft st m c1 m1 t) (b : Aft m s c2 m2 u) : Aft st s (c1 + c2) (m1 + m2) (t ++ u) :=
  ⟨b.mo, b.sd.trans a.sd, b.co.trans a.co, b.le.trans a.le, Int.le_trans a.f0 b.f0, by have := a.f1; have := b.f1; omega, by rw [List.length_append]; have := a.ln; have := b.ln; omega⟩
theorem Aft.more {st s : Mst} {cc mx c2 m2 : Nat} {t : List PyData} (a : Aft st s cc mx t) (hc : cc ≤ c2) (hm : mx ≤ m2) : Aft st s c2 m2 t := ⟨a.mo, a.sd, a.co, a.le, a.f0, by have := a.f1; omega, Nat.le_trans a.ln hm⟩
theorem fok_of {n : Nat} {r : Row} {deep loops : Nat} (h : r.ok n deep loops) (p : plainR r ∨ (∃ x, r = .coin x)) : FOk n (.row r) := by
  cases r with
  | read r k => exact h
  | set k e => exact h
  | swap r k e f => exact h
  | keep r e => exact h
  | coin r => exact h.1
  | iff e a b => rcases p with p | ⟨x, p⟩; exact p.elim; cases p
  | times e a => rcases p with p | ⟨x, p⟩; exact p.elim; cases p
  | ans e => exact h
mutual
theorem aft_row : ∀ {r : Row} {st s : Mst} {o : Option Int} {t : List PyData} {deep loops : Nat}, RowS r st s o t → r.ok st.cells.length deep loops → MOk st → Aft st s r.cc (mxR r) t
  | r, _, _, _, _, _, _, .plain (st := st) h, ok, m => by
    have fk := fok_of ok (.inl h)
    have can : Can (.row r) st := by cases r <;> first | trivial | exact h.elim
    have mo := m.step fk can
    cases r with
    | read r k => exact ⟨mo, rfl, rfl, rfl, Int.le_refl _, by show st.fallen ≤ st.fallen + ((0 : Nat) : Int); omega, Nat.le_refl 1⟩
    | set k e => exact ⟨mo, rfl, rfl, List.length_set, Int.le_refl _, by show st.fallen ≤ st.fallen + ((0 : Nat) : Int); omega, Nat.le_refl 1⟩
    | swap r k e f =>
      have z : ∀ s', s' = stp1 (.row (.swap r k e f)) st → s'.sides = st.sides ∧ s'.coins = st.coins ∧ s'.cells.length = st.cells.length ∧ s'.fallen = st.fallen := fun s' e' => by
        rw [e']
        show (if st.cells.getD k.toNat 0 = e.ev st.regs then ({ st with cells := st.cells.set k.toNat (f.ev st.regs % st.sides.getD k.toNat 0), regs := rset st.regs r 1 } : Mst) else { st with regs := rset st.regs r 0 }).sides = _ ∧ (if st.cells.getD k.toNat 0 = e.ev st.regs then ({ st with cells := st.cells.set k.toNat (f.ev st.regs % st.sides.getD k.toNat 0), regs := rset st.regs r 1 } : Mst) else { st with regs := rset st.regs r 0 }).coins = _ ∧ (if st.cells.getD k.toNat 0 = e.ev st.regs then ({ st with cells := st.cells.set k.toNat (f.ev st.regs % st.sides.getD k.toNat 0), regs := rset st.regs r 1 } : Mst) else { st with regs := rset st.regs r 0 }).cells.length = _ ∧ (if st.cells.getD k.toNat 0 = e.ev st.regs then ({ st with cells := st.cells.set k.toNat (f.ev st.regs % st.sides.getD k.toNat 0), regs := rset st.regs r 1 } : Mst) else { st with regs := rset st.regs r 0 }).fallen = _
        split
        · exact ⟨rfl, rfl, List.length_set, rfl⟩
        · exact ⟨rfl, rfl, rfl, rfl⟩
      obtain ⟨z1, z2, z3, z4⟩ := z _ rfl
      exact ⟨mo, z1, z2, z3, by rw [z4]; exact Int.le_refl _, by rw [z4]; show st.fallen ≤ st.fallen + ((0 : Nat) : Int); omega, Nat.le_refl 1⟩
    | keep r e => exact ⟨mo, rfl, rfl, rfl, Int.le_refl _, by show st.fallen ≤ st.fallen + ((0 : Nat) : Int); omega, Nat.le_refl 0⟩
    | _ => exact h.elim
  | _, _, _, _, _, _, _, .coin (x := x) (st := st) h, ok, m => by
    have mo := m.step (f := .row (.coin x)) ok.1 h
    exact ⟨mo, rfl, rfl, rfl, by show st.fallen ≤ st.fallen + 1; omega, by show st.fallen + 1 ≤ st.fallen + ((1 : Nat) : Int); omega, Nat.le_refl 0⟩
  | _, _, _, _, _, _, _, .ans (e := e) (st := st), ok, m => ⟨m, rfl, rfl, rfl, Int.le_refl _, by show st.fallen ≤ st.fallen + ((0 : Nat) : Int); omega, Nat.le_refl 0⟩
  | _, _, _, _, _, _, _, .yes (e := e) (a := a) (b := b) h r, ok, m => (aft_rows r ok.2.1 m).more (Nat.le_add_right ..) (Nat.le_add_right ..)
  | _, _, _, _, _, _, _, .no (e := e) (a := a) (b := b) h r, ok, m => (aft_rows r ok.2.2 m).more (Nat.le_add_left ..) (Nat.le_add_left ..)
  | _, _, _, _, _, _, loops, .times (e := e) (a := a) (n := n) (st := st) hn r, ok, m => by
    have b := ev_bd m.rg ok.1.1
    have n9 : n ≤ 9 := by omega
    exact (aft_times r ok.2.2 (Nat.succ_pos _) m).more (Nat.zero_le _) (Nat.mul_le_mul_right _ n9)
theorem aft_rows : ∀ {rs : List Row} {st s : Mst} {o : Option Int} {t : List PyData} {deep loops : Nat}, RowsS rs st s o t → rowsOk st.cells.length deep loops rs → MOk st → Aft st s (rowsCc rs) (mxs rs) t
  | _, _, _, _, _, _, _, .nil (st := st), _, m => ⟨m, rfl, rfl, rfl, Int.le_refl _, by show st.fallen ≤ st.fallen + ((0 : Nat) : Int); omega, Nat.le_refl 0⟩
  | _, _, _, _, _, _, _, .stop h, ok, m => (aft_row h ok.2.1 m).more (Nat.le_add_right ..) (Nat.le_add_right ..)
  | _, _, _, _, _, _, _, .cons h k, ok, m => by
    have a := aft_row h ok.2.1 m
    exact a.then (aft_rows k (by rw [a.le]; exact ok.2.2) a.mo)
theorem aft_times : ∀ {n : Nat} {a : List Row} {st s : Mst} {o : Option Int} {t : List PyData} {deep loops : Nat}, TimesS n a st s o t → rowsOk st.cells.length deep loops a → 0 < loops → MOk st → Aft st s 0 (n * mxs a) t
  | _, a, _, _, _, _, _, _, .zero (st := st), _, _, m => ⟨m, rfl, rfl, rfl, Int.le_refl _, by omega, Nat.zero_le _⟩
  | _, a, _, _, _, _, _, _, .stop (n := n) h, ok, l, m => by
    have z := aft_rows h ok m
    rw [ccs_loop ok l] at z
    exact z.more (Nat.le_refl 0) (by rw [Nat.succ_mul]; exact Nat.le_add_left ..)
  | _, a, _, _, _, _, _, _, .more (n := n) h k, ok, l, m => by
    have z := aft_rows h ok m
    rw [ccs_loop ok l] at z
    have z2 := z.then (aft_times k (by rw [z.le]; exact ok) l z.mo)
    exact z2.more (Nat.le_refl 0) (by rw [Nat.succ_mul]; exact Nat.le_of_eq (Nat.add_comm ..))
end
/-! ### rows one behind the other -/
theorem rowsS_app : ∀ {as bs : List Row} {st m s : Mst} {o : Option Int} {t u : List PyData}, RowsS as st m none t → RowsS bs m s o u → RowsS (as ++ bs) st s o (t ++ u)
  | _, _, _, _, _, _, _, _, .nil, k => k
  | _, _, _, _, _, _, _, _, .cons h k0, k => by
    rw [List.append_assoc]
    exact .cons h (rowsS_app k0 k)
theorem rowsS_one {r : Row} {st s : Mst} {t : List PyData} (h : RowS r st s none t) : RowsS [r] st s none t := by
  have z := RowsS.cons h .nil
  rw [List.append_nil] at z
  exact z
/-- the next row, of those that are gone through -/
theorem rowsS_more {rs : List Row} {i : Nat} {r : Row} {st m s : Mst} {t u : List PyData} (hi : rs[i]? = some r) (h : RowsS (rs.take i) st m none t) (k : RowS r m s none u) : RowsS (rs.take (i + 1)) st s none (t ++ u) := by
  rw [take_more hi]
  exact rowsS_app h (rowsS_one k)
theorem rowsS_end {rs : List Row} {i : Nat} {r : Row} {st m s : Mst} {v : Int} {t u : List PyData} (hi : rs[i]? = some r) (h : RowsS (rs.take i) st m none t) (k : RowS r m s (some v) u) : RowsS rs st s (some v) (t ++ u) := by
  obtain ⟨hl, rfl⟩ := List.getElem?_eq_some_iff.mp hi
  have e : rs = rs.take i ++ rs[i] :: rs.drop (i + 1) := by rw [List.getElem_cons_drop, List.take_append_drop]
  have z := rowsS_app h (RowsS.stop (rs := rs.drop (i + 1)) k)
  rw [← e] at z
  exact z
theorem ok_take {c : Int} {deep loops : Nat} : ∀ {rs : List Row} (i : Nat), rowsOk c deep loops rs → rowsOk c deep loops (rs.take i)
  | [], i, _ => by rw [List.take_nil]; trivial
  | r :: rs, 0, _ => trivial
  | r :: rs, i + 1, h => ⟨h.1, h.2.1, ok_take i h.2.2⟩
theorem cc_take : ∀ {rs : List Row} {i : Nat} {r : Row}, rs[i]? = some r → rowsCc (rs.take i) + r.cc ≤ rowsCc rs
  | [], i, r, h => by simp at h
  | a :: rs, 0, r, h => by
    cases (Option.some.inj h)
    show 0 + a.cc ≤ a.cc + rowsCc rs
    omega
  | a :: rs, i + 1, r, h => by
    have := cc_take (rs := rs) (i := i) h
    show (a.cc + rowsCc (rs.take i)) + r.cc ≤ a.cc + rowsCc rs
    omega
theorem mx_take : ∀ {rs : List Row} {i : Nat} {r : Row}, rs[i]? = some r → mxs (rs.take i) + mxR r ≤ mxs rs
  | [], i, r, h => by simp at h
  | a :: rs, 0, r, h => by
    cases (Option.some.inj h)
    show 0 + mxR a ≤ mxR a + mxs rs
    omega
  | a :: rs, i + 1, r, h => by
    have := mx_take (rs := rs) (i := i) h
    show (mxR a + mxs (rs.take i)) + mxR r ≤ mxR a + mxs rs
    omega
/-- i turns without an answer -/
def TurnsT : Nat → List Row → Mst → Mst → List PyData → Prop
  | 0, _, st, s, t => st = s ∧ t = []
  | i + 1, a, st, s, t => ∃ m u v, t = u ++ v ∧ TurnsT i a st m u ∧ RowsS a m s none v
theorem turnsT_then : ∀ {i n : Nat} {a : List Row} {st m s : Mst} {o : Option Int} {t u : List PyData}, TurnsT i a st m t → TimesS n a m s o u → TimesS (i + n) a st s o (t ++ u)
  | 0, n, a, st, m, s, o, t, u, ⟨h1, h2⟩, k => by
    subst h1
    subst h2
    rw [Nat.zero_add]
    exact k
  | i + 1, n, a, st, m, s, o, t, u, ⟨x, v, w, e, h1, h2⟩, k => by
    have := turnsT_then (i := i) (n := n + 1) h1 (.more h2 k)
    rw [show i + 1 + n = i + (n + 1) from by omega, e, List.append_assoc]
    exact this
theorem turnsT_all {n : Nat} {a : List Row} {st s : Mst} {t : List PyData} (h : TurnsT n a st s t) : TimesS n a st s none t := by
  have z := turnsT_then (n := 0) h .zero
  rw [List.append_nil] at z
  exact z
theorem turnsT_stop {i n : Nat} {a : List Row} {st m s : Mst} {v : Int} {t u : List PyData} (hi : i < n) (h : TurnsT i a st m t) (k : RowsS a m s (some v) u) : TimesS n a st s (some v) (t ++ u) := by
  obtain ⟨j, rfl⟩ : ∃ j, n = i + (j + 1) := ⟨n - i - 1, by omega⟩
  exact turnsT_then h (.stop k)
/-! ### each step changes but its cell -/
inductive NearT : List Int → List PyData → List Int → Prop
  | nil {c : List Int} : NearT c [] c
  | cons {c d e : List Int} {wd : Str} {k z : Int} {t : List PyData} (h : ∀ j : Nat, d[j]? ≠ c[j]? → (j : Int) = k ∧ wd ≠ "read") (l : d.length = c.length) (r : NearT d t e) : NearT c (.tuple [.str wd, .int k, .int z, .tuple (d.map .int)] :: t) e
theorem NearT.app : ∀ {c d e : List Int} {t u : List PyData}, NearT c t d → NearT d u e → NearT c (t ++ u) e
  | _, _, _, _, _, .nil, k => k
  | _, _, _, _, _, .cons h l r, k => .cons h l (r.app k)
theorem near_set {c : List Int} {k v : Int} (h0 : 0 ≤ k) {wd : Str} (hw : wd ≠ "read") : ∀ j : Nat, (c.set k.toNat v)[j]? ≠ c[j]? → (j : Int) = k ∧ wd ≠ "read" := fun j hj => by
  by_cases e : k.toNat = j
  · exact ⟨by omega, hw⟩
  · exact absurd (List.getElem?_set_ne e) hj
theorem w_set : (("set" : Str) ≠ "read") := by decide +kernel
theorem w_swap : (("swap" : Str) ≠ "read") := by decide +kernel
mutual
theorem near_row : ∀ {r : Row} {st s : Mst} {o : Option Int} {t : List PyData} {deep loops : Nat}, RowS r st s o t → r.ok st.cells.length deep loops → MOk st → NearT st.cells t s.cells
  | r, _, _, _, _, _, _, .plain (st := st) h, ok, m => by
    cases r with
    | read r k => exact .cons (fun j hj => absurd rfl hj) rfl .nil
    | set k e => exact .cons (near_set ok.1.1 w_set) List.length_set .nil
    | swap r k e f =>
      show NearT st.cells (tell (.row (.swap r k e f)) (if st.cells.getD k.toNat 0 = e.ev st.regs then ({ st with cells := st.cells.set k.toNat (f.ev st.regs % st.sides.getD k.toNat 0), regs := rset st.regs r 1 } : Mst) else { st with regs := rset st.regs r 0 })) (if st.cells.getD k.toNat 0 = e.ev st.regs then ({ st with cells := st.cells.set k.toNat (f.ev st.regs % st.sides.getD k.toNat 0), regs := rset st.regs r 1 } : Mst) else { st with regs := rset st.regs r 0 }).cells
      split
      · exact .cons (near_set ok.2.1.1 w_swap) List.length_set .nil
      · exact .cons (fun j hj => absurd rfl hj) rfl .nil
    | keep r e => exact .nil
    | _ => exact h.elim
  | _, _, _, _, _, _, _, .coin (x := x) (st := st) h, ok, m => .nil
  | _, _, _, _, _, _, _, .ans (e := e) (st := st), ok, m => .nil
  | _, _, _, _, _, _, _, .yes h r, ok, m => near_rows r ok.2.1 m
  | _, _, _, _, _, _, _, .no h r, ok, m => near_rows r ok.2.2 m
  | _, _, _, _, _, _, _, .times hn r, ok, m => near_times r ok.2.2 (Nat.succ_pos _) m
theorem near_rows : ∀ {rs : List Row} {st s : Mst} {o : Option Int} {t : List PyData} {deep loops : Nat}, RowsS rs st s o t → rowsOk st.cells.length deep loops rs → MOk st → NearT st.cells t s.cells
  | _, _, _, _, _, _, _, .nil, _, m => .nil
  | _, _, _, _, _, _, _, .stop h, ok, m => near_row h ok.2.1 m
  | _, _, _, _, _, _, _, .cons h k, ok, m => by
    have a := aft_row h ok.2.1 m
    exact (near_row h ok.2.1 m).app (near_rows k (by rw [a.le]; exact ok.2.2) a.mo)
theorem near_times : ∀ {n : Nat} {a : List Row} {st s : Mst} {o : Option Int} {t : List PyData} {deep loops : Nat}, TimesS n a st s o t → rowsOk st.cells.length deep loops a → 0 < loops → MOk st → NearT st.cells t s.cells
  | _, a, _, _, _, _, _, _, .zero, _, _, m => .nil
  | _, a, _, _, _, _, _, _, .stop h, ok, l, m => near_rows h ok m
  | _, a, _, _, _, _, _, _, .more h k, ok, l, m => by
    have z := aft_rows h ok m
    exact (near_rows h ok m).app (near_times k (by rw [z.le]; exact ok) l z.mo)
end
/-! ### coins that are not needed do not matter -/
def cutM (m : Nat) (st : Mst) : Mst := { st with coins := st.coins.take m }
theorem cut_plain {r : Row} (h : plainR r) (m : Nat) (st : Mst) : stp1 (.row r) (cutM m st) = cutM m (stp1 (.row r) st) := by
  cases r with
  | swap r k e f =>
    show (if st.cells.getD k.toNat 0 = e.ev st.regs then ({ cutM m st with cells := st.cells.set k.toNat (f.ev st.regs % st.sides.getD k.toNat 0), regs := rset st.regs r 1 } : Mst) else { cutM m st with regs := rset st.regs r 0 }) = cutM m (if st.cells.getD k.toNat 0 = e.ev st.regs then { st with cells := st.cells.set k.toNat (f.ev st.regs % st.sides.getD k.toNat 0), regs := rset st.regs r 1 } else { st with regs := rset st.regs r 0 })
    split <;> rfl
  | read r k => rfl
  | set k e => rfl
  | keep r e => rfl
  | _ => exact h.elim
theorem cut_tell {r : Row} (m : Nat) (st : Mst) : tell (.row r) (cutM m st) = tell (.row r) st := by cases r <;> rfl
mutual
theorem cut_row (m : Nat) : ∀ {r : Row} {st s : Mst} {o : Option Int} {t : List PyData} {deep loops : Nat}, RowS r st s o t → r.ok st.cells.length deep loops → MOk st → s.fallen ≤ m → m ≤ st.coins.length → RowS r (cutM m st) (cutM m s) o t
  | r, _, _, _, _, _, _, .plain (st := st) h, ok, mo, hm, hl => by
    rw [← cut_plain h, ← cut_tell m, ← cut_plain h]
    exact .plain h
  | _, _, _, _, _, _, _, .coin (x := x) (st := st) h, ok, mo, hm, hl => by
    have hm : st.fallen + 1 ≤ m := hm
    have e : cutM m (stp1 (.row (.coin x)) st) = stp1 (.row (.coin x)) (cutM m st) := by
      show cutM m { st with regs := rset st.regs x (st.coins.getD st.fallen.toNat 0), fallen := st.fallen + 1 } = { cutM m st with regs := rset st.regs x ((st.coins.take m).getD st.fallen.toNat 0), fallen := st.fallen + 1 }
      have : (st.coins.take m).getD st.fallen.toNat 0 = st.coins.getD st.fallen.toNat 0 := by
        rw [List.getD_eq_getElem?_getD, List.getD_eq_getElem?_getD, List.getElem?_take, if_pos (by omega)]
      rw [this]
      rfl
    rw [e]
    exact .coin ⟨h.1, by show st.fallen < ((st.coins.take m).length : Nat); rw [List.length_take]; omega⟩
  | _, _, _, _, _, _, _, .ans (e := e) (st := st), ok, mo, hm, hl => .ans
  | _, _, _, _, _, _, _, .yes h r, ok, mo, hm, hl => .yes h (cut_rows m r ok.2.1 mo hm hl)
  | _, _, _, _, _, _, _, .no h r, ok, mo, hm, hl => .no h (cut_rows m r ok.2.2 mo hm hl)
  | _, _, _, _, _, _, _, .times hn r, ok, mo, hm, hl => .times hn (cut_times m r ok.2.2 (Nat.succ_pos _) mo hm hl)
theorem cut_rows (m : Nat) : ∀ {rs : List Row} {st s : Mst} {o : Option Int} {t : List PyData} {deep loops : Nat}, RowsS rs st s o t → rowsOk st.cells.length deep loops rs → MOk st → s.fallen ≤ m → m ≤ st.coins.length → RowsS rs (cutM m st) (cutM m s) o t
  | _, _, _, _, _, _, _, .nil, _, mo, hm, hl => .nil
  | _, _, _, _, _, _, _, .stop h, ok, mo, hm, hl => .stop (cut_row m h ok.2.1 mo hm hl)
  | _, _, _, _, _, _, _, .cons h k, ok, mo, hm, hl => by
    have a := aft_row h ok.2.1 mo
    have b := aft_rows k (by rw [a.le]; exact ok.2.2) a.mo
    exact .cons (cut_row m h ok.2.1 mo (Int.le_trans b.f0 hm) hl) (cut_rows m k (by rw [a.le]; exact ok.2.2) a.mo hm (by rw [a.co]; exact hl))
theorem cut_times (m : Nat) : ∀ {n : Nat} {a : List Row} {st s : Mst} {o : Option Int} {t : List PyData} {deep loops : Nat}, TimesS n a st s o t → rowsOk st.cells.length deep loops a → 0 < loops → MOk st → s.fallen ≤ m → m ≤ st.coins.length → TimesS n a (cutM m st) (cutM m s) o t
  | _, a, _, _, _, _, _, _, .zero, _, _, mo, hm, hl => .zero
  | _, a, _, _, _, _, _, _, .stop h, ok, l, mo, hm, hl => .stop (cut_rows m h ok mo hm hl)
  | _, a, _, _, _, _, _, _, .more h k, ok, l, mo, hm, hl => by
    have z := aft_rows h ok mo
    have b := aft_times k (by rw [z.le]; exact ok) l z.mo
    exact .more (cut_rows m h ok mo (Int.le_trans b.f0 hm) hl) (cut_times m k (by rw [z.le]; exact ok) l z.mo hm (by rw [z.co]; exact hl))
end
theorem aft_turns : ∀ {j : Nat} {a : List Row} {st s : Mst} {t : List PyData} {deep loops : Nat}, TurnsT j a st s t → rowsOk st.cells.length deep loops a → 0 < loops → MOk st → Aft st s 0 (j * mxs a) t
  | 0, a, st, s, t, _, _, ⟨h1, h2⟩, _, _, m => by
    subst h1
    subst h2
    exact ⟨m, rfl, rfl, rfl, Int.le_refl _, by omega, Nat.zero_le _⟩
  | j + 1, a, st, s, t, _, _, ⟨x, u, v, e, h1, h2⟩, ok, l, m => by
    have z := aft_turns h1 ok l m
    have z2 := aft_rows h2 (by rw [z.le]; exact ok) z.mo
    rw [ccs_loop ok l] at z2
    rw [e]
    exact (z.then z2).more (Nat.le_refl 0) (by rw [Nat.succ_mul]; exact Nat.le_refl _)
/-! ### the coins run out -/
mutual
inductive RowO : Row → Mst → Prop
  | coin {x : Str} {st : Mst} (h : st.fallen = st.coins.length) : RowO (.coin x) st
  | yes {e : Exp} {a b : List Row} {st : Mst} (h : e.ev st.regs ≠ 0) (r : RowsO a st) : RowO (.iff e a b) st
  | no {e : Exp} {a b : List Row} {st : Mst} (h : e.ev st.regs = 0) (r : RowsO b st) : RowO (.iff e a b) st
inductive RowsO : List Row → Mst → Prop
  | here {r : Row} {rs : List Row} {st : Mst} (h : RowO r st) : RowsO (r :: rs) st
  | later {r : Row} {rs : List Row} {st s : Mst} {t : List PyData} (h : RowS r st s none t) (k : RowsO rs s) : RowsO (r :: rs) st
end
theorem rowsO_app : ∀ {as bs : List Row} {st m : Mst} {t : List PyData}, RowsS as st m none t → RowsO bs m → RowsO (as ++ bs) st
  | _, _, _, _, _, .nil, k => k
  | _, _, _, _, _, .cons h k0, k => .later h (rowsO_app k0 k)
theorem rowsO_at {rs : List Row} {i : Nat} {r : Row} {st m : Mst} {t : List PyData} (hi : rs[i]? = some r) (h : RowsS (rs.take i) st m none t) (k : RowO r m) : RowsO rs st := by
  obtain ⟨hl, rfl⟩ := List.getElem?_eq_some_iff.mp hi
  have e : rs = rs.take i ++ rs[i] :: rs.drop (i + 1) := by rw [List.getElem_cons_drop, List.take_append_drop]
  have z := rowsO_app h (RowsO.here (rs := rs.drop (i + 1)) k)
  rw [← e] at z
  exact z
mutual
theorem no_out1 {c : Int} : ∀ {r : Row} {st : Mst} {deep loops : Nat}, RowO r st → r.ok c deep loops → 0 < loops → False
  | _, _, _, _, .coin h, ok, l => by have := ok.2; omega
  | _, _, _, _, .yes h r, ok, l => no_outs r ok.2.1 l
  | _, _, _, _, .no h r, ok, l => no_outs r ok.2.2 l
theorem no_outs {c : Int} : ∀ {rs : List Row} {st : Mst} {deep loops : Nat}, RowsO rs st → rowsOk c deep loops rs → 0 < loops → False
  | _, _, _, _, .here h, ok, l => no_out1 h ok.2.1 l
  | _, _, _, _, .later h k, ok, l => no_outs k ok.2.2 l
end
mutual
theorem out_cc1 : ∀ {r : Row} {st : Mst} {deep loops : Nat}, RowO r st → r.ok st.cells.length deep loops → MOk st → st.coins.length < st.fallen + r.cc
  | _, st, _, _, .coin h, ok, m => by show (st.coins.length : Int) < st.fallen + ((1 : Nat) : Int); omega
  | _, st, _, _, .yes (a := a) (b := b) h r, ok, m => by
    have := out_ccs r ok.2.1 m
    show (st.coins.length : Int) < st.fallen + ((rowsCc a + rowsCc b : Nat) : Int)
    omega
  | _, st, _, _, .no (a := a) (b := b) h r, ok, m => by
    have := out_ccs r ok.2.2 m
    show (st.coins.length : Int) < st.fallen + ((rowsCc a + rowsCc b : Nat) : Int)
    omega
theorem out_ccs : ∀ {rs : List Row} {st : Mst} {deep loops : Nat}, RowsO rs st → rowsOk st.cells.length deep loops rs → MOk st → st.coins.length < st.fallen + rowsCc rs
  | _, st, _, _, .here (r := r) (rs := rs) h, ok, m => by
    have := out_cc1 h ok.2.1 m
    show (st.coins.length : Int) < st.fallen + ((r.cc + rowsCc rs : Nat) : Int)
    omega
  | _, st, _, _, .later (r := r) (rs := rs) h k, ok, m => by
    have a := aft_row h ok.2.1 m
    have := out_ccs k (by rw [a.le]; exact ok.2.2) a.mo
    have := a.f1
    rw [a.co] at *
    show (st.coins.length : Int) < st.fallen + ((r.cc + rowsCc rs : Nat) : Int)
    omega
end
theorem fell_plain {r : Row} {st : Mst} (h : plainR r) : (stp1 (.row r) st).fallen = st.fallen ∧ (stp1 (.row r) st).coins = st.coins := by
  cases r with
  | swap r k e f =>
    show (if st.cells.getD k.toNat 0 = e.ev st.regs then ({ st with cells := st.cells.set k.toNat (f.ev st.regs % st.sides.getD k.toNat 0), regs := rset st.regs r 1 } : Mst) else { st with regs := rset st.regs r 0 }).fallen = _ ∧ (if st.cells.getD k.toNat 0 = e.ev st.regs then ({ st with cells := st.cells.set k.toNat (f.ev st.regs % st.sides.getD k.toNat 0), regs := rset st.regs r 1 } : Mst) else { st with regs := rset st.regs r 0 }).coins = _
    split <;> exact ⟨rfl, rfl⟩
  | read r k => exact ⟨rfl, rfl⟩
  | set k e => exact ⟨rfl, rfl⟩
  | keep r e => exact ⟨rfl, rfl⟩
  | _ => exact h.elim
mutual
theorem fell_row : ∀ {r : Row} {st s : Mst} {o : Option Int} {t : List PyData}, RowS r st s o t → st.fallen ≤ st.coins.length → s.fallen ≤ s.coins.length
  | _, _, _, _, _, .plain h, l => by
    obtain ⟨e1, e2⟩ := fell_plain h
    rw [e1, e2]
    exact l
  | _, _, _, _, _, .coin (st := st) h, l => by show st.fallen + 1 ≤ (st.coins.length : Int); omega
  | _, _, _, _, _, .ans, l => l
  | _, _, _, _, _, .yes h r, l => fell_rows r l
  | _, _, _, _, _, .no h r, l => fell_rows r l
  | _, _, _, _, _, .times hn r, l => fell_times r l
theorem fell_rows : ∀ {rs : List Row} {st s : Mst} {o : Option Int} {t : List PyData}, RowsS rs st s o t → st.fallen ≤ st.coins.length → s.fallen ≤ s.coins.length
  | _, _, _, _, _, .nil, l => l
  | _, _, _, _, _, .stop h, l => fell_row h l
  | _, _, _, _, _, .cons h k, l => fell_rows k (fell_row h l)
theorem fell_times : ∀ {n : Nat} {a : List Row} {st s : Mst} {o : Option Int} {t : List PyData}, TimesS n a st s o t → st.fallen ≤ st.coins.length → s.fallen ≤ s.coins.length
  | _, _, _, _, _, _, .zero, l => l
  | _, _, _, _, _, _, .stop h, l => fell_rows h l
  | _, _, _, _, _, _, .more h k, l => fell_times k (fell_rows h l)
end
theorem fell_turns : ∀ {j : Nat} {a : List Row} {st s : Mst} {t : List PyData}, TurnsT j a st s t → st.fallen ≤ st.coins.length → s.fallen ≤ s.coins.length
  | 0, _, _, _, _, ⟨h, _⟩, l => by
    subst h
    exact l
  | j + 1, _, _, _, _, ⟨_, _, _, _, h1, h2⟩, l => fell_rows h2 (fell_turns h1 l)

end M

set_option Elab.async false
set_option linter.all false
set_option maxRecDepth 100000
set_option maxHeartbeats 2000000
namespace M
open PySem PySem.Spec PyProof.Rows L2

section
variable {K : PySem.W.Frag} {H H' : Hp} {L : LA} {st : Mst} {t : List PyData}
/-- what the walker may change -/
structure Chs (H : Hp) (L : LA) : Prop where
  ce : Ch H L.ce
  he : Ch H L.he
  fa : Ch H L.fa
  tr : Ch H L.tr
theorem Wkr.chs (r : Wkr K H L st t) : Chs H L := by
  obtain ⟨ys, h, _⟩ := r.tr
  exact ⟨.lst r.ce, .dK r.he, .lst r.fa, .lst h⟩
theorem sqT_bw (c : Chs H L) (s : Bw L H H') {a : Addr} {xs : List V} (h : SqT K H a xs) : SqT K H' a xs := by
  rcases h with (h | ⟨o, h⟩) | h
  · exact .inl (.inl (s _ _ (fun e => c.ce.1 _ (e ▸ h)) (fun e => c.he.1 _ (e ▸ h)) (fun e => c.fa.1 _ (e ▸ h)) (fun e => c.tr.1 _ (e ▸ h)) h))
  · exact .inl (.inr ⟨o, s _ _ (fun e => c.ce.2 _ _ (e ▸ h)) (fun e => c.he.2 _ _ (e ▸ h)) (fun e => c.fa.2 _ _ (e ▸ h)) (fun e => c.tr.2 _ _ (e ▸ h)) h⟩)
  · exact .inr h
mutual
theorem dp_bw (c : Chs H L) (s : Bw L H H') : ∀ {v : V} {d : PyData}, Dp K H v d → NoL d → Dp K H' v d
  | _, _, .non, _ => .non
  | _, _, .bl b, _ => .bl b
  | _, _, .int i, _ => .int i
  | _, _, .str x, _ => .str x
  | _, _, .lst _ _, n => nomatch n
  | _, _, .tup h r, n => .tup (sqT_bw c s h) (dps_bw c s r (by cases n with | tup h => exact h))
theorem dps_bw (c : Chs H L) (s : Bw L H H') : ∀ {vs : List V} {ds : List PyData}, DpAll K H vs ds → (∀ d ∈ ds, NoL d) → DpAll K H' vs ds
  | _, _, .nil, _ => .nil
  | _, _, .cons h r, n => .cons (dp_bw c s h (n _ List.mem_cons_self)) (dps_bw c s r fun d hd => n d (List.mem_cons_of_mem _ hd))
end
/-- a coin is taken -/
theorem Wkr.setF (r : Wkr K H L st t) (h0 : 0 ≤ st.fallen) : Wkr K (upd H L.fa (.lst ((st.coins.drop (st.fallen + 1).toNat).map .int))) L { st with fallen := st.fallen + 1 } t := by
  obtain ⟨ys, h, d⟩ := r.tr
  have b : But L.fa H (upd H L.fa (.lst ((st.coins.drop (st.fallen + 1).toNat).map .int))) := But.upd
  exact ⟨b _ _ r.d1.2.1 r.sz, b _ _ r.d2.1 r.ce, b _ _ (Ne.symm r.fah) r.he, upd_same, ⟨ys, b _ _ (Ne.symm r.d2.2.2) h, dps_but (.lst r.fa) b d r.nl⟩, r.nl, r.d1, r.d2⟩
end
theorem step_ok {n : Nat} {r : Row} {deep loops : Nat} (h : r.ok n deep loops) (s : stepR r) : FOk n (.row r) := by
  cases r with
  | read r k => exact h
  | set k e => exact h
  | swap r k e f => exact h
  | _ => exact s.elim
theorem step_plain {r : Row} (s : stepR r) : plainR r := by
  cases r with
  | read r k => trivial
  | set k e => trivial
  | swap r k e f => trivial
  | _ => exact s.elim
theorem step_words {r : Row} (s : stepR r) : r.word ≠ "answer" ∧ r.word ≠ "keep" ∧ r.word ≠ "coin" ∧ r.word ≠ "if" ∧ r.word ≠ "times" := by
  cases r with
  | read r k => exact ⟨(by show (("read" : Str) ≠ "answer"); decide +kernel), (by show (("read" : Str) ≠ "keep"); decide +kernel), (by show (("read" : Str) ≠ "coin"); decide +kernel), (by show (("read" : Str) ≠ "if"); decide +kernel), (by show (("read" : Str) ≠ "times"); decide +kernel)⟩
  | set k e => exact ⟨(by show (("set" : Str) ≠ "answer"); decide +kernel), (by show (("set" : Str) ≠ "keep"); decide +kernel), (by show (("set" : Str) ≠ "coin"); decide +kernel), (by show (("set" : Str) ≠ "if"); decide +kernel), (by show (("set" : Str) ≠ "times"); decide +kernel)⟩
  | swap r k e f => exact ⟨(by show (("swap" : Str) ≠ "answer"); decide +kernel), (by show (("swap" : Str) ≠ "keep"); decide +kernel), (by show (("swap" : Str) ≠ "coin"); decide +kernel), (by show (("swap" : Str) ≠ "if"); decide +kernel), (by show (("swap" : Str) ≠ "times"); decide +kernel)⟩
  | _ => exact s.elim
section
variable {P : Program} {w : World} {K : PySem.W.Frag} {mg : Str → Option Value} {base : Heap}
def spDoX (K : PySem.W.Frag) : Nat → Sp
  | 0 => fun _ _ _ _ => False
  | n + 1 => fun vs H Q _ => ∃ (v : V) (L : LA) (rs : List Row) (st : Mst) (t : List PyData) (deep loops : Nat), vs = [v, .ref L.sz, .ref L.ce, .ref L.he, .ref L.fa, .ref L.tr] ∧ Dp K H v (.tuple (rowsD rs)) ∧ rowsOk st.cells.length deep loops rs ∧ 14 ≤ deep + (n + 1) ∧ MOk st ∧ Wkr K H L st t ∧
    (0 ≤ st.fallen ∧ st.fallen ≤ st.coins.length) ∧ t.length + mxs rs ≤ 200000 ∧ (∀ H' s o u, Bw L H H' → RowsS rs st s o u → Wkr K H' L s (t ++ u) → Q (resV o) H') ∧ ∀ H' s t', Bw L H H' → RowsO rs st → Wkr K H' L s t' → Q (.int (-1)) H'
theorem w_ne {a b : Str} (h : a ≠ b) : decide (V.str a = V.str b) = false := decide_eq_false fun z => h (V.str.inj z)
theorem ca_l_do1 {n : Nat} (R : Ca P w K mg base (n + 10) "_law_do" (spDoX K n)) (T : Txt w K mg) : Ca P w K mg base (n + 11) "_law_do" (spDoX K (n + 1)) := by
    refine ca_of (N := ["_law_rows_here", "_law_sizes", "_law_cells_here", "_law_held", "_law_falls", "_law_trace", "_law_row_here", "_law_answer", "_law_turn"]) (ps := ["_law_rows_here", "_law_sizes", "_law_cells_here", "_law_held", "_law_falls", "_law_trace"]) T.f_l_do T.g_law_do ⟨rfl, rfl, rfl, by decide +kernel, rfl, by decide +kernel, by decide +kernel⟩ (fun _ _ _ _ _ _ us hl => match us, hl with | [_, _, _, _, _, _], _ => rfl)
      (fun vs H Q E h => by obtain ⟨v, L, rs, st, t, deep, loops, rfl, hv, ok, hn, m, wk, hf, hlt, q, qo⟩ := h; rfl) (fun cdv A outer s H vs Q E hr h => ?_)
    have nd : (["_law_rows_here", "_law_sizes", "_law_cells_here", "_law_held", "_law_falls", "_law_trace", "_law_row_here", "_law_answer", "_law_turn"] : List Str).Nodup := by decide +kernel
    obtain ⟨v, L, rs, st, t, deep, loops, rfl, hv, ok, hn, m, wk, hf, hlt, q, qo⟩ := h
    obtain ⟨a, xs, rfl, ha, hxs⟩ := dp_tup hv
    have lxs : xs.length = rs.length := by rw [dps_len hxs, rowsD_map, List.length_map]
    refine ⟨_, (pss_cons (ps_for PassesOwn.never rfl (pi_tup (pv 0)) (pg_name (i := 6) nd rfl (.inl rfl)) (pss_cons (ps_set (i := 7) nd rfl (.inl rfl) pe_non)
      (pss_cons (ps_if (pt_cmpR op_eq (pe_ix ix_tup (pv 6) pe_int (fun _ _ => rfl)) pe_str (nomark _)) (pss_one (ps_ret (pe_ca (ca_l_value 7 T) hr (pa_cons (pe_ix ix_tup (pv 6) pe_int (fun _ _ => rfl)) (pa_cons (pv 3) pa_nil)) (by omega)))) pss_nil)
      (pss_cons (ps_if (pt_cmpR op_eq (pe_ix ix_tup (pv 6) pe_int (fun _ _ => rfl)) pe_str (nomark _)) (pss_one (ps_dput (hu_of hr) (pv 3) (pe_ix ix_tup (pv 6) pe_int (fun _ _ => rfl)) (pe_ca (ca_l_value 7 T) hr (pa_cons (pe_ix ix_tup (pv 6) pe_int (fun _ _ => rfl)) (pa_cons (pv 3) pa_nil)) (by omega)) rfl)) (pss_one (ps_if (pt_cmpR op_eq (pe_ix ix_tup (pv 6) pe_int (fun _ _ => rfl)) pe_str (nomark _)) (pss_cons (ps_if (pt_cmpR op_eq (pe_callB call_len_seq (by rfl) T.b_len PySem.boot_len (pa_cons (pv 4) pa_nil)) pe_int (nomark _)) (pss_one (ps_ret (pe_un un_neg pe_int))) pss_nil)
      (pss_one (ps_dput (hu_of hr) (pv 3) (pe_ix ix_tup (pv 6) pe_int (fun _ _ => rfl)) (pe_bm PySem.F.plainAttrs_list PySem.F.slot_list_pop PySem.F.type_list_pop mt_popAt (pv 4) (pa_cons pe_int pa_nil)) rfl))) (pss_one (ps_if (pt_cmpR op_eq (pe_ix ix_tup (pv 6) pe_int (fun _ _ => rfl)) pe_str (nomark _)) (pss_one (ps_set (i := 7) nd rfl (.inl rfl) (pe_ca R hr (pa_cons (pe_ix ix_tup (pv 6) (pe_op op_add pe_int (pe_callTy call_int1 (by rfl) T.b_int boot_int (pa_cons (pe_cmpR op_eq (pe_ca (ca_l_value 7 T) hr (pa_cons (pe_ix ix_tup (pv 6) pe_int (fun _ _ => rfl)) (pa_cons (pv 3) pa_nil)) (by omega)) pe_int (nomark _)) pa_nil))) (fun _ _ => rfl)) (pa_cons (pv 1) (pa_cons (pv 2) (pa_cons (pv 3) (pa_cons (pv 4) (pa_cons (pv 5) pa_nil)))))) (by omega)))) (pss_one (ps_if (pt_cmpR op_eq (pe_ix ix_tup (pv 6) pe_int (fun _ _ => rfl)) pe_str (nomark _)) (pss_one (ps_for PassesOwn.never rfl (pi_range1 rfl T.b_range (pa_cons (pe_ca (ca_l_value 7 T) hr (pa_cons (pe_ix ix_tup (pv 6) pe_int (fun _ _ => rfl)) (pa_cons (pv 3) pa_nil)) (by omega)) pa_nil)) (pg_name (i := 8) nd rfl (.inl rfl)) (pss_one (ps_if (pt_cmp (pc_isN (pv 7))) (pss_one (ps_set (i := 7) nd rfl (.inl rfl) (pe_ca R hr (pa_cons (pe_ix ix_tup (pv 6) pe_int (fun _ _ => rfl)) (pa_cons (pv 1) (pa_cons (pv 2) (pa_cons (pv 3) (pa_cons (pv 4) (pa_cons (pv 5) pa_nil)))))) (by omega)))) pss_nil)))) (pss_one (ps_expr (pe_ca (ca_l_step T) hr (pa_cons (pv 6) (pa_cons (pv 1) (pa_cons (pv 2) (pa_cons (pv 3) (pa_cons (pv 5) pa_nil))))) (by omega)))))))))))
      (pss_one (ps_if (pt_cmp (pc_notN (pv 7))) (pss_one (ps_ret (pv 7))) pss_nil))))))
      (pss_one (ps_ret pe_non))), ?_⟩
    have chs := wk.chs
    refine ⟨_, rfl, a, rfl, ⟨_, ha⟩, for_tup (xs := xs) (fun i σ' H' => ∃ x y z m1 u, σ' = [some (.ref a), some (.ref L.sz), some (.ref L.ce), some (.ref L.he), some (.ref L.fa), some (.ref L.tr), x, y, z] ∧ Bw L H H' ∧ Wkr K H' L m1 (t ++ u) ∧ RowsS (rs.take i) st m1 none u) ⟨none, none, none, st, [], rfl, Bw.refl L H, by rw [List.append_nil]; exact wk, .nil⟩ (fun i σ' H' _ ⟨_, _, _, _, _, _, bw, _⟩ => sqT_bw chs bw ha) ?_ ?_⟩
    · rintro i x σ' H' hx ⟨_, _, _, m1, u, rfl, bw, wk1, rw1⟩
      obtain ⟨dd, hdd, hxd⟩ := dps_get hxs hx
      rw [rowsD_map] at hdd
      obtain ⟨r, hr', rfl⟩ := get_mapA hdd
      have okr := rowsOkAt ok r (List.mem_of_getElem? hr')
      have af := aft_rows rw1 (ok_take i ok) m
      have ct := cc_take hr'
      have mt := mx_take hr'
      have lu := af.ln
      have hx2 : Dp K H' x r.d := dp_bw chs bw hxd r.noL
      have okr2 : r.ok m1.cells.length deep loops := by rw [af.le]; exact okr.2
      have hf1 : 0 ≤ m1.fallen ∧ m1.fallen ≤ m1.coins.length := ⟨by have := af.f0; omega, fell_rows rw1 hf.2⟩
      have hl1 : (t ++ u).length + mxR r ≤ 200000 := by rw [List.length_append]; omega
      -- what comes behind the row
      have nxt : ∀ (H3 : Hp) (z : Option V) (s : Mst) (u2 : List PyData), Bw L H' H3 → Wkr K H3 L s (t ++ u ++ u2) → RowS r m1 s none u2 → ∃ x' y' z' m1 u, [some (V.ref a), some (.ref L.sz), some (.ref L.ce), some (.ref L.he), some (.ref L.fa), some (.ref L.tr), some x, some .non, z] = [some (V.ref a), some (.ref L.sz), some (.ref L.ce), some (.ref L.he), some (.ref L.fa), some (.ref L.tr), x', y', z'] ∧ Bw L H H3 ∧ Wkr K H3 L m1 (t ++ u) ∧ RowsS (rs.take (i + 1)) st m1 none u :=
        fun H3 z s u2 b3 w3 r3 => ⟨_, _, _, s, u ++ u2, rfl, bw.trans b3, by rw [← List.append_assoc]; exact w3, rowsS_more hr' rw1 r3⟩
      have ret : ∀ (H3 : Hp) (s : Mst) (v : Int) (u2 : List PyData), Bw L H' H3 → Wkr K H3 L s (t ++ u ++ u2) → RowS r m1 s (some v) u2 → Q (.int v) H3 :=
        fun H3 s v u2 b3 w3 r3 => q H3 s (some v) (u ++ u2) (bw.trans b3) (rowsS_end hr' rw1 r3) (by rw [← List.append_assoc]; exact w3)
      have reto : ∀ (H3 : Hp) (s : Mst) (t' : List PyData), Bw L H' H3 → Wkr K H3 L s t' → RowO r m1 → Q (.int (-1)) H3 :=
        fun H3 s t' b3 w3 r3 => qo H3 s t' (bw.trans b3) (rowsO_at hr' rw1 r3) w3
      have hv' := hx2
      rw [row_d] at hx2
      obtain ⟨ra, zs, rfl, hra, hzs⟩ := dp_tup hx2
      obtain ⟨z0, zr, rfl, h0, hzr⟩ : ∃ y ys, zs = y :: ys ∧ Dp K H' y (.str r.word) ∧ DpAll K H' ys (r.prts.map Prt.d) := by
        cases hzs with | cons h1 h2 => exact ⟨_, _, rfl, h1, h2⟩
      cases dp_str h0
      refine ⟨_, rfl, _, _, _, _, rfl, rfl, hra, at0, rfl, _, rfl, ?_⟩
      cases r with
      | ans e =>
        cases hzr with | cons e1 hzr =>
        have e1 : Dp K H' _ e.d := e1
        have g : e.good := okr2
        refine iteT ⟨_, rfl, _, _, _, _, rfl, rfl, hra, at1, _, rfl, _, e, L.he, m1.regs, rfl, e1, g.1, by have := g.2; omega, wk1.he, af.mo.rg, ?_⟩
        exact ret H' m1 (e.ev m1.regs) [] (Bw.refl _ _) (by rw [List.append_nil]; exact wk1) .ans
      | keep rg e =>
        cases hzr with | cons e1 hzr => cases hzr with | cons e2 hzr =>
        cases dp_str (show Dp K H' _ (.str rg) from e1)
        have e2 : Dp K H' _ e.d := e2
        obtain ⟨o1, g⟩ : rg ∈ regs4 ∧ e.good := okr2
        refine iteF ⟨_, rfl, _, _, _, _, rfl, rfl, hra, at0, rfl, _, rfl, iteT ?_⟩
        refine ⟨_, rfl, _, _, _, _, rfl, rfl, hra, at2, _, rfl, _, e, L.he, m1.regs, rfl, e2, g.1, by have := g.2; omega, wk1.he, af.mo.rg, ?_⟩
        refine ⟨_, rfl, _, rfl, _, _, _, _, rfl, rfl, hra, at1, L.he, _, rfl, DPut.k (k := Sum.inr rg) wk1.he (by show 5 < sizeLine; decide), ?_⟩
        rw [held_put (in45 o1)]
        refine ⟨_, rfl, _, rfl, iteF ?_⟩
        exact nxt _ _ _ [] (Bw.he But.upd) (by rw [List.append_nil]; exact wk1.setH (rset m1.regs rg (e.ev m1.regs))) (.plain (r := .keep rg e) trivial)
      | coin rg =>
        cases hzr with | cons e1 hzr =>
        cases dp_str (show Dp K H' _ (.str rg) from e1)
        obtain ⟨o1, _⟩ : rg ∈ regs4 ∧ loops = 0 := okr2
        refine iteF ⟨_, rfl, _, _, _, _, rfl, rfl, hra, at0, rfl, _, rfl, iteF ?_⟩
        refine ⟨_, rfl, _, _, _, _, rfl, rfl, hra, at0, rfl, _, rfl, iteT ?_⟩
        refine ⟨_, rfl, _, _, rfl, .inl (.of wk1.fa), rfl, _, rfl, ?_⟩
        by_cases hc : m1.fallen < m1.coins.length
        case neg =>
          have eL : m1.coins.drop m1.fallen.toNat = [] := List.drop_eq_nil_of_le (by omega)
          rw [eL]
          exact iteT ⟨_, rfl, reto H' m1 (t ++ u) (Bw.refl _ _) wk1 (.coin (by omega))⟩
        have hc : 0 ≤ m1.fallen ∧ m1.fallen < m1.coins.length := ⟨hf1.1, hc⟩
        have hfk : m1.fallen.toNat < m1.coins.length := by omega
        have ed : m1.coins.drop m1.fallen.toNat = m1.coins.getD m1.fallen.toNat 0 :: m1.coins.drop (m1.fallen + 1).toNat := by
          rw [show (m1.fallen + 1).toNat = m1.fallen.toNat + 1 from by omega, List.drop_eq_getElem_cons hfk, List.getD_eq_getElem?_getD, List.getElem?_eq_getElem hfk]
          rfl
        have hfa := wk1.fa
        rw [ed] at hfa ⊢
        refine iteF ?_
        refine ⟨_, rfl, .inl ⟨rfl, _, .of hfa⟩, L.fa, _, 0, 0, _, rfl, rfl, hfa, by decide, by decide, by simp [seqIndex?], rfl, ?_⟩
        have wk2 := wk1.setF hf1.1
        have b2 := But.upd (H := H') (D := L.fa) (o := .lst ((m1.coins.drop (m1.fallen + 1).toNat).map V.int))
        have hra2 := sqT_but (.lst hfa) b2 hra
        rw [show (List.map V.int (m1.coins.getD m1.fallen.toNat 0 :: List.drop (m1.fallen + 1).toNat m1.coins)).eraseIdx 0 = (m1.coins.drop (m1.fallen + 1).toNat).map V.int from rfl]
        generalize upd H' L.fa (.lst ((m1.coins.drop (m1.fallen + 1).toNat).map V.int)) = H2 at wk2 b2 hra2 ⊢
        refine ⟨_, rfl, _, rfl, _, _, _, _, rfl, rfl, hra2, at1, L.he, _, rfl, DPut.k (k := Sum.inr rg) wk2.he (by show 5 < sizeLine; decide), ?_⟩
        rw [held_put (in45 o1)]
        refine ⟨_, rfl, _, rfl, iteF ?_⟩
        exact nxt _ _ _ [] ((Bw.fa b2).trans (Bw.he But.upd)) (by rw [List.append_nil]; exact wk2.setH (rset m1.regs rg (m1.coins.getD m1.fallen.toNat 0))) (.coin hc)
      | iff e b c =>
        cases hzr with | cons e1 hzr => cases hzr with | cons e2 hzr => cases hzr with | cons e3 hzr =>
        have e1 : Dp K H' _ e.d := e1
        have e2 : Dp K H' _ (.tuple (rowsD b)) := e2
        have e3 : Dp K H' _ (.tuple (rowsD c)) := e3
        obtain ⟨g, ob, oc⟩ : e.good ∧ rowsOk m1.cells.length (deep + 1) loops b ∧ rowsOk m1.cells.length (deep + 1) loops c := okr2
        obtain ⟨n0, rfl⟩ : ∃ n0, n = n0 + 1 := ⟨n - 1, by have := okr.1; omega⟩
        have hlb : (t ++ u).length + (mxs b + mxs c) ≤ 200000 := hl1
        refine iteF ⟨_, rfl, _, _, _, _, rfl, rfl, hra, at0, rfl, _, rfl, iteF ?_⟩
        refine ⟨_, rfl, _, _, _, _, rfl, rfl, hra, at0, rfl, _, rfl, iteF ?_⟩
        refine ⟨_, rfl, _, _, _, _, rfl, rfl, hra, at0, rfl, _, rfl, iteT ?_⟩
        refine ⟨_, rfl, _, rfl, _, _, _, _, rfl, rfl, hra, at1, _, rfl, _, e, L.he, m1.regs, rfl, e1, g.1, by have := g.2; omega, wk1.he, af.mo.rg, rfl, .inr ⟨_, rfl, ?_⟩⟩
        by_cases cz : e.ev m1.regs = 0
        · rw [decide_eq_true (show V.int (e.ev m1.regs) = V.int 0 from congrArg V.int cz)]
          refine ⟨_, _, rfl, rfl, _, _, _, _, rfl, rfl, hra, at3, _, rfl, _, rfl, _, rfl, _, rfl, _, rfl, _, L, c, m1, t ++ u, deep + 1, loops, rfl, e3, oc, by omega, af.mo, wk1, hf1, by omega, fun H3 s o u2 b3 r3 w3 => ?_, fun H3 s t' b3 r3 w3 => ⟨_, rfl, _, rfl, iteT ⟨_, rfl, reto H3 s t' b3 w3 (.no cz r3)⟩⟩⟩
          cases o with
          | none => exact ⟨_, rfl, _, rfl, iteF (nxt H3 _ s u2 b3 w3 (.no cz r3))⟩
          | some v => exact ⟨_, rfl, _, rfl, iteT ⟨_, rfl, ret H3 s v u2 b3 w3 (.no cz r3)⟩⟩
        · rw [decide_eq_false (show ¬ V.int (e.ev m1.regs) = V.int 0 from fun z => cz (V.int.inj z))]
          refine ⟨_, _, rfl, rfl, _, _, _, _, rfl, rfl, hra, at2, _, rfl, _, rfl, _, rfl, _, rfl, _, rfl, _, L, b, m1, t ++ u, deep + 1, loops, rfl, e2, ob, by omega, af.mo, wk1, hf1, by omega, fun H3 s o u2 b3 r3 w3 => ?_, fun H3 s t' b3 r3 w3 => ⟨_, rfl, _, rfl, iteT ⟨_, rfl, reto H3 s t' b3 w3 (.yes cz r3)⟩⟩⟩
          cases o with
          | none => exact ⟨_, rfl, _, rfl, iteF (nxt H3 _ s u2 b3 w3 (.yes cz r3))⟩
          | some v => exact ⟨_, rfl, _, rfl, iteT ⟨_, rfl, ret H3 s v u2 b3 w3 (.yes cz r3)⟩⟩
      | times e b =>
        cases hzr with | cons e1 hzr => cases hzr with | cons e2 hzr =>
        have e1 : Dp K H' _ e.d := e1
        have e2 : Dp K H' _ (.tuple (rowsD b)) := e2
        obtain ⟨g, l2, ob⟩ : e.good ∧ loops < 2 ∧ rowsOk m1.cells.length (deep + 1) (loops + 1) b := okr2
        obtain ⟨n0, rfl⟩ : ∃ n0, n = n0 + 1 := ⟨n - 1, by have := okr.1; omega⟩
        have hlb : (t ++ u).length + 9 * mxs b ≤ 200000 := hl1
        have cb := ccs_loop ob (Nat.succ_pos _)
        refine iteF ⟨_, rfl, _, _, _, _, rfl, rfl, hra, at0, rfl, _, rfl, iteF ?_⟩
        refine ⟨_, rfl, _, _, _, _, rfl, rfl, hra, at0, rfl, _, rfl, iteF ?_⟩
        refine ⟨_, rfl, _, _, _, _, rfl, rfl, hra, at0, rfl, _, rfl, iteF ?_⟩
        refine ⟨_, rfl, _, _, _, _, rfl, rfl, hra, at0, rfl, _, rfl, iteT ?_⟩
        refine ⟨_, rfl, _, _, _, _, rfl, rfl, hra, at1, _, rfl, _, e, L.he, m1.regs, rfl, e1, g.1, by have := g.2; omega, wk1.he, af.mo.rg, ?_⟩
        have nb := ev_bd af.mo.rg g.1
        generalize en : e.ev m1.regs = ev at nb ⊢
        have hn1 : ev = ((ev.toNat : Nat) : Int) := (Int.toNat_of_nonneg nb.1).symm
        have n9 : ev.toNat ≤ 9 := by omega
        refine ⟨ev, rfl, by omega, by omega, for_it (n := ev.toNat) walk_range (fun j σ' H2 => ∃ z m2 u2 o, σ' = [some (.ref a), some (.ref L.sz), some (.ref L.ce), some (.ref L.he), some (.ref L.fa), some (.ref L.tr), some (.ref ra), some (resV o), z] ∧ Bw L H' H2 ∧ Wkr K H2 L m2 (t ++ u ++ u2) ∧ ((o = none ∧ TurnsT j b m1 m2 u2) ∨ ∃ v, o = some v ∧ TimesS ev.toNat b m1 m2 (some v) u2)) ⟨_, m1, [], none, rfl, Bw.refl _ _, by rw [List.append_nil]; exact wk1, .inl ⟨rfl, rfl, rfl⟩⟩ (fun _ _ _ _ _ => trivial) ?_ ?_⟩
        · rintro j z σ' H0 H2 hj ⟨_, m2, u2, o, rfl, b2, w2, ho⟩ ⟨rfl, rfl⟩
          rcases ho with ⟨rfl, tu⟩ | ⟨v, rfl, ts⟩
          · have af2 : Aft m1 m2 0 (j * mxs b) u2 := aft_turns tu ob (Nat.succ_pos _) af.mo
            have hj9 : j * mxs b + mxs b ≤ 9 * mxs b := by
              have : (j + 1) * mxs b ≤ 9 * mxs b := Nat.mul_le_mul_right _ (by omega)
              rw [Nat.succ_mul] at this
              exact this
            have lu2 := af2.ln
            have f2 := af2.f0
            refine ⟨_, rfl, _, rfl, iteT ?_⟩
            refine ⟨_, rfl, _, _, _, _, rfl, rfl, sqT_bw wk1.chs b2 hra, at2, _, rfl, _, rfl, _, rfl, _, rfl, _, rfl, _, L, b, m2, t ++ u ++ u2, deep + 1, loops + 1, rfl, dp_bw wk1.chs b2 e2 (.tup (rows_noL b)), by rw [af2.le]; exact ob, by omega, af2.mo, w2, ⟨by have := hf1.1; omega, fell_turns tu hf1.2⟩, by rw [List.length_append]; omega, fun H3 s o u3 b3 r3 w3 => ?_, fun _ _ _ _ r3 _ => (no_outs r3 ob (Nat.succ_pos _)).elim⟩
            · refine ⟨_, s, u2 ++ u3, o, rfl, b2.trans b3, by rw [← List.append_assoc]; exact w3, ?_⟩
              cases o with
              | none => exact .inl ⟨rfl, m2, u2, u3, rfl, tu, r3⟩
              | some v => exact .inr ⟨v, rfl, turnsT_stop hj tu r3⟩
          · exact ⟨_, rfl, _, rfl, iteF ⟨_, m2, u2, some v, rfl, b2, w2, .inr ⟨v, rfl, ts⟩⟩⟩
        · rintro σ' H2 ⟨_, m2, u2, o, rfl, b2, w2, ho⟩
          rcases ho with ⟨rfl, tu⟩ | ⟨v, rfl, ts⟩
          · exact ⟨_, rfl, _, rfl, iteF (nxt H2 _ m2 u2 b2 w2 (.times (by rw [en]; exact hn1) (turnsT_all tu)))⟩
          · exact ⟨_, rfl, _, rfl, iteT ⟨_, rfl, ret H2 m2 v u2 b2 w2 (.times (by rw [en]; exact hn1) ts)⟩⟩
      | read rg k =>
        refine iteF ⟨_, rfl, _, _, _, _, rfl, rfl, hra, at0, rfl, _, rfl, iteF ?_⟩
        refine ⟨_, rfl, _, _, _, _, rfl, rfl, hra, at0, rfl, _, rfl, iteF ?_⟩
        refine ⟨_, rfl, _, _, _, _, rfl, rfl, hra, at0, rfl, _, rfl, iteF ?_⟩
        refine ⟨_, rfl, _, _, _, _, rfl, rfl, hra, at0, rfl, _, rfl, iteF ?_⟩
        refine ⟨_, rfl, _, rfl, _, rfl, _, rfl, _, rfl, _, L, .read rg k, m1, t ++ u, rfl, hv', trivial, step_ok okr2 trivial, af.mo, wk1, by have : (t ++ u).length + 1 ≤ 200000 := hl1; omega, fun H3 b3 w3 => ?_⟩
        exact ⟨_, rfl, _, rfl, iteF (nxt H3 _ _ _ b3 w3 (.plain trivial))⟩
      | set k e =>
        refine iteF ⟨_, rfl, _, _, _, _, rfl, rfl, hra, at0, rfl, _, rfl, iteF ?_⟩
        refine ⟨_, rfl, _, _, _, _, rfl, rfl, hra, at0, rfl, _, rfl, iteF ?_⟩
        refine ⟨_, rfl, _, _, _, _, rfl, rfl, hra, at0, rfl, _, rfl, iteF ?_⟩
        refine ⟨_, rfl, _, _, _, _, rfl, rfl, hra, at0, rfl, _, rfl, iteF ?_⟩
        refine ⟨_, rfl, _, rfl, _, rfl, _, rfl, _, rfl, _, L, .set k e, m1, t ++ u, rfl, hv', trivial, step_ok okr2 trivial, af.mo, wk1, by have : (t ++ u).length + 1 ≤ 200000 := hl1; omega, fun H3 b3 w3 => ?_⟩
        exact ⟨_, rfl, _, rfl, iteF (nxt H3 _ _ _ b3 w3 (.plain trivial))⟩
      | swap rg k e f =>
        refine iteF ⟨_, rfl, _, _, _, _, rfl, rfl, hra, at0, rfl, _, rfl, iteF ?_⟩
        refine ⟨_, rfl, _, _, _, _, rfl, rfl, hra, at0, rfl, _, rfl, iteF ?_⟩
        refine ⟨_, rfl, _, _, _, _, rfl, rfl, hra, at0, rfl, _, rfl, iteF ?_⟩
        refine ⟨_, rfl, _, _, _, _, rfl, rfl, hra, at0, rfl, _, rfl, iteF ?_⟩
        refine ⟨_, rfl, _, rfl, _, rfl, _, rfl, _, rfl, _, L, .swap rg k e f, m1, t ++ u, rfl, hv', trivial, step_ok okr2 trivial, af.mo, wk1, by have : (t ++ u).length + 1 ≤ 200000 := hl1; omega, fun H3 b3 w3 => ?_⟩
        exact ⟨_, rfl, _, rfl, iteF (nxt H3 _ _ _ b3 w3 (.plain trivial))⟩
    · rintro σ' H' ⟨_, _, _, m1, u, rfl, bw, wk1, rw1⟩
      rw [lxs, List.take_length] at rw1
      exact q H' m1 none u bw rw1 wk1
theorem ca_l_doX (T : Txt w K mg) : ∀ n, Ca P w K mg base (n + 10) "_law_do" (spDoX K n)
  | 0 => ca_false (ps := ["_law_rows_here", "_law_sizes", "_law_cells_here", "_law_held", "_law_falls", "_law_trace"]) T.f_l_do T.g_law_do (fun _ _ _ _ _ _ us hl => match us, hl with | [_, _, _, _, _, _], _ => rfl)
  | n + 1 => ca_l_do1 (ca_l_doX T n) T
theorem Ca.imp {k : Nat} {x : Str} {sp sp' : Sp} (c : Ca P w K mg base k x sp) (h : ∀ vs H Q E, sp' vs H Q E → sp vs H Q E) : Ca P w K mg base k x sp' := by
  obtain ⟨f, fd, ps, F, r⟩ := c.ex
  exact ⟨f, fd, ps, F.imp h, r⟩
/-- with coins enough -/
def spDoL (K : PySem.W.Frag) : Nat → Sp
  | 0 => fun _ _ _ _ => False
  | n + 1 => fun vs H Q _ => ∃ (v : V) (L : LA) (rs : List Row) (st : Mst) (t : List PyData) (deep loops : Nat), vs = [v, .ref L.sz, .ref L.ce, .ref L.he, .ref L.fa, .ref L.tr] ∧ Dp K H v (.tuple (rowsD rs)) ∧ rowsOk st.cells.length deep loops rs ∧ 14 ≤ deep + (n + 1) ∧ MOk st ∧ Wkr K H L st t ∧
    (0 ≤ st.fallen ∧ st.fallen + rowsCc rs ≤ st.coins.length) ∧ t.length + mxs rs ≤ 200000 ∧ ∀ H' s o u, Bw L H H' → RowsS rs st s o u → Wkr K H' L s (t ++ u) → Q (resV o) H'
theorem ca_l_do (T : Txt w K mg) : ∀ n, Ca P w K mg base (n + 10) "_law_do" (spDoL K n)
  | 0 => (ca_l_doX T 0).imp fun vs H Q E h => h
  | n + 1 => (ca_l_doX T (n + 1)).imp fun vs H Q E ⟨v, L, rs, st, t, deep, loops, e, hv, ok, hn, m, wk, hf, hlt, q⟩ => ⟨v, L, rs, st, t, deep, loops, e, hv, ok, hn, m, wk, ⟨hf.1, by omega⟩, hlt, q, fun _ _ _ _ r _ => by have := out_ccs r ok m; omega⟩
end

end M

set_option Elab.async false
set_option linter.all false
set_option maxRecDepth 100000
set_option maxHeartbeats 2000000
namespace M
open PySem PySem.Spec PyProof.Rows L2

/-! ### what the law draws: cells, rows -/
/-- all but what stands at p and at b is as it was -/
def But2 (p b : Addr) (H H' : Hp) : Prop := ∀ a o, a ≠ p → a ≠ b → H a = some o → H' a = some o
theorem But2.refl (p b : Addr) (H : Hp) : But2 p b H H := fun _ _ _ _ e => e
theorem But2.trans {p b : Addr} {H1 H2 H3 : Hp} (s : But2 p b H1 H2) (t : But2 p b H2 H3) : But2 p b H1 H3 := fun a o h1 h2 e => t a o h1 h2 (s a o h1 h2 e)
theorem But2.l {p b : Addr} {H H' : Hp} (s : But p H H') : But2 p b H H' := fun a o h _ e => s a o h e
theorem But2.r {p b : Addr} {H H' : Hp} (s : But b H H') : But2 p b H H' := fun a o _ h e => s a o h e
theorem But2.same {p b : Addr} {H H' : Hp} (s : Same H H') : But2 p b H H' := fun a o _ _ e => s a o e
theorem sqT_b2 {K : PySem.W.Frag} {p b : Addr} {H H' : Hp} (c1 : Ch H p) (c2 : Ch H b) (s : But2 p b H H') {a : Addr} {xs : List V} (h : SqT K H a xs) : SqT K H' a xs := by
  rcases h with (h | ⟨o, h⟩) | h
  · exact .inl (.inl (s _ _ (fun e => c1.1 _ (e ▸ h)) (fun e => c2.1 _ (e ▸ h)) h))
  · exact .inl (.inr ⟨o, s _ _ (fun e => c1.2 _ _ (e ▸ h)) (fun e => c2.2 _ _ (e ▸ h)) h⟩)
  · exact .inr h
section
variable {K : PySem.W.Frag} {H H' : Hp} {p b : Addr}
mutual
theorem dp_b2 (c1 : Ch H p) (c2 : Ch H b) (s : But2 p b H H') : ∀ {v : V} {d : PyData}, Dp K H v d → NoL d → Dp K H' v d
  | _, _, .non, _ => .non
  | _, _, .bl b, _ => .bl b
  | _, _, .int i, _ => .int i
  | _, _, .str x, _ => .str x
  | _, _, .lst _ _, n => nomatch n
  | _, _, .tup h r, n => .tup (sqT_b2 c1 c2 s h) (dps_b2 c1 c2 s r (by cases n with | tup h => exact h))
theorem dps_b2 (c1 : Ch H p) (c2 : Ch H b) (s : But2 p b H H') : ∀ {vs : List V} {ds : List PyData}, DpAll K H vs ds → (∀ d ∈ ds, NoL d) → DpAll K H' vs ds
  | _, _, .nil, _ => .nil
  | _, _, .cons h r, n => .cons (dp_b2 c1 c2 s h (n _ List.mem_cons_self)) (dps_b2 c1 c2 s r fun d hd => n d (List.mem_cons_of_mem _ hd))
end
end
/-- rows at most, steps at most, of rows that are drawn -/
def cR : Nat → Nat
  | 0 => 1
  | n + 1 => 1 + 2 * (3 * cR n)
def mR : Nat → Nat
  | 0 => 1
  | n + 1 => 1 + 9 * (3 * mR n)
theorem cR_pos : ∀ n, 1 ≤ cR n
  | 0 => Nat.le_refl 1
  | n + 1 => Nat.le_add_right ..
theorem mR_pos : ∀ n, 1 ≤ mR n
  | 0 => Nat.le_refl 1
  | n + 1 => Nat.le_add_right ..
theorem cl_app : ∀ (as bs : List Row), rowsCl (as ++ bs) = rowsCl as + rowsCl bs
  | [], bs => (Nat.zero_add _).symm
  | a :: as, bs => by
    show a.cl + rowsCl (as ++ bs) = a.cl + rowsCl as + rowsCl bs
    rw [cl_app as bs, Nat.add_assoc]
theorem cc_app : ∀ (as bs : List Row), rowsCc (as ++ bs) = rowsCc as + rowsCc bs
  | [], bs => (Nat.zero_add _).symm
  | a :: as, bs => by
    show a.cc + rowsCc (as ++ bs) = a.cc + rowsCc as + rowsCc bs
    rw [cc_app as bs, Nat.add_assoc]
theorem mx_app : ∀ (as bs : List Row), mxs (as ++ bs) = mxs as + mxs bs
  | [], bs => (Nat.zero_add _).symm
  | a :: as, bs => by
    show mxR a + mxs (as ++ bs) = mxR a + mxs as + mxs bs
    rw [mx_app as bs, Nat.add_assoc]
theorem ok_app {c : Int} {deep loops : Nat} : ∀ {as bs : List Row}, rowsOk c deep loops as → rowsOk c deep loops bs → rowsOk c deep loops (as ++ bs)
  | [], bs, _, h => h
  | a :: as, bs, h, k => ⟨h.1, h.2.1, ok_app h.2.2 k⟩
theorem in_x : ("x" : Str) ∈ regs5 := by decide +kernel
theorem let26 {i : Int} (h : 0 ≤ i ∧ i < 26) : atI ("abcdefghijklmnopqrstuvwxyz" : Str).cps.toList i = some (97 + i.toNat) := by
  obtain ⟨k, rfl⟩ : ∃ k : _root_.Fin 26, i = ((k.val : Nat) : Int) := ⟨⟨i.toNat, by omega⟩, by show i = ((i.toNat : Nat) : Int); omega⟩
  revert k
  decide +kernel
section
variable {P : Program} {w : World} {K : PySem.W.Frag} {mg : Str → Option Value} {base : Heap}
theorem cells_noL (cs : List (Int × Int)) : ∀ d ∈ cs.map cellD, NoL d := fun d h => by
  obtain ⟨c, _, rfl⟩ := List.mem_map.mp h
  exact cell_noL c
def spCellsL (K : PySem.W.Frag) : Sp := fun vs H Q _ => ∃ p : Addr, vs = [.ref p] ∧ PoolAt H p ∧ ∀ (l : Addr) (ys : List V) (cs : List (Int × Int)) (H' : Hp), But p H H' → PoolAt H' p → H l = none → l ≠ p → H' l = some (.lst ys) → DpAll K H' ys (cs.map cellD) → (1 ≤ cs.length ∧ cs.length ≤ 3) → (∀ c ∈ cs, CellOk c ∧ 2 ≤ c.1 ∧ c.1 ≤ 5) → Q (.ref l) H'
theorem ca_l_cells (T : Txt w K mg) : Ca P w K mg base 3 "_law_cells" (spCellsL K) := by
  refine ca_of (N := ["_law_pool_here", "_law_many", "_law_cells_here", "_law_k", "_law_size"]) (ps := ["_law_pool_here"]) T.f_l_cells T.g_law_cells ⟨rfl, rfl, rfl, by decide +kernel, rfl, by decide +kernel, by decide +kernel⟩ (fun _ _ _ _ _ _ us hl => match us, hl with | [_], _ => rfl)
    (fun vs H Q E h => by obtain ⟨p, rfl, hp, q⟩ := h; rfl) (fun cdv A outer s H vs Q E hr h => ?_)
  have nd : (["_law_pool_here", "_law_many", "_law_cells_here", "_law_k", "_law_size"] : List Str).Nodup := by decide +kernel
  obtain ⟨p, rfl, hp, q⟩ := h
  refine ⟨_, (pss_cons (ps_set (i := 1) nd rfl (.inl rfl) (pe_op op_add pe_int (pe_ca (ca_l_draw T) hr (pa_cons (pv 0) (pa_cons pe_int pa_nil)))))
      (pss_cons (ps_set (i := 2) nd rfl (.inl rfl) (pe_lst pa_nil))
      (pss_cons (ps_for PassesOwn.never rfl (pi_range1 rfl T.b_range (pa_cons (pv 1) pa_nil)) (pg_name (i := 3) nd rfl (.inl rfl)) (pss_cons (ps_set (i := 4) nd rfl (.inl rfl) (pe_op op_add pe_int (pe_ca (ca_l_draw T) hr (pa_cons (pv 0) (pa_cons (pe_op op_sub pe_int (pe_op op_mul pe_int (pe_callTy call_int1 (by rfl) T.b_int boot_int (pa_cons (pe_cmpR op_eq (pv 1) pe_int (nomark _)) pa_nil)))) pa_nil)))))
      (pss_one (ps_expr (pe_bm PySem.F.plainAttrs_list PySem.F.slot_list_append PySem.F.type_list_append mt_append (pv 2) (pa_cons (pe_tup (pa_cons (pv 4) (pa_cons (pe_ca (ca_l_draw T) hr (pa_cons (pv 0) (pa_cons (pv 4) pa_nil))) pa_nil))) pa_nil))))))
      (pss_one (ps_ret (pv 2)))))), ?_⟩
  refine ⟨_, rfl, p, 3, rfl, hp, by omega, fun m H1 b1 p1 hm => ?_⟩
  refine ⟨_, _, rfl, rfl, (by show 0 ≤ sizeLine; exact Nat.zero_le _), fun l nl => ?_⟩
  have nl0 : H l = none := by
    cases e : H l with
    | none => rfl
    | some o =>
      by_cases c : l = p
      · obtain ⟨_, _, _, h, _⟩ := p1
        rw [← c, nl] at h
        cases h
      · rw [b1 _ _ c e] at nl
        cases nl
  have nlp : l ≠ p := fun e => by
    obtain ⟨_, _, _, h, _⟩ := p1
    rw [← e, nl] at h
    cases h
  refine ⟨_, rfl, 1 + m, rfl, by omega, by omega, for_it (n := (1 + m).toNat) walk_range (fun i σ' H' => ∃ (x y : Option V) (ys : List V) (cs : List (Int × Int)), σ' = [some (.ref p), some (.int (1 + m)), some (.ref l), x, y] ∧ But p H H' ∧ PoolAt H' p ∧ H' l = some (.lst ys) ∧ DpAll K H' ys (cs.map cellD) ∧ cs.length = i ∧ ∀ c ∈ cs, CellOk c ∧ 2 ≤ c.1 ∧ c.1 ≤ 5) ⟨none, none, [], [], rfl, fun b o h e => by rw [upd_ne (ne_of_none e nl0)]; exact b1 _ _ h e, p1.same (same_new nl), upd_same, .nil, rfl, fun c h => by cases h⟩ (fun _ _ _ _ _ => trivial) ?_ ?_⟩
  · rintro i z σ' H0 H' hi ⟨_, _, ys, cs, rfl, bt, pt, hl, hys, el, hcs⟩ ⟨rfl, rfl⟩
    have lys : ys.length = cs.length := by rw [dps_len hys, List.length_map]
    have hk : ∀ u : Bool, 1 ≤ 4 - 2 * (if u = true then (1 : Int) else 0) ∧ 4 - 2 * (if u = true then (1 : Int) else 0) ≤ 4 := fun u => by cases u <;> decide
    refine ⟨_, rfl, _, rfl, rfl, .inr ⟨_, rfl, _, _, rfl, rfl, .inl (by decide), _, _, rfl, rfl, ?_⟩⟩
    have hk := hk (decide (V.int (1 + m) = V.int 3))
    refine ⟨p, _, rfl, pt, ⟨hk.1, by omega⟩, fun j H2 b2 p2 hj => ⟨_, _, rfl, rfl, ?_⟩⟩
    have hl2 := b2 _ _ nlp hl
    refine ⟨_, rfl, .inl ⟨rfl, _, .of hl2⟩, _, rfl, _, rfl, _, rfl, p, 2 + j, rfl, p2, by omega, fun k H3 b3 p3 hk3 => ⟨(by show 2 ≤ sizeLine; decide), fun t nt => ?_⟩⟩
    have s3 : Same H3 (upd H3 t (.tup [.int (2 + j), .int k])) := same_new nt
    have hl3 := s3 _ _ (b3 _ _ nlp hl2)
    have ht3 : upd H3 t (.tup [.int (2 + j), .int k]) t = some (.tup [.int (2 + j), .int k]) := upd_same
    have bb : But p H' (upd H3 t (.tup [.int (2 + j), .int k])) := (b2.trans b3).trans (same_but s3)
    have p4 := p3.same s3
    generalize upd H3 t (.tup [.int (2 + j), .int k]) = H4 at s3 hl3 ht3 bb p4 ⊢
    have b5 : But l H4 (upd H4 l (.lst (ys ++ [.ref t]))) := But.upd
    refine ⟨l, ys, _, rfl, rfl, hl3, by rw [sizeLine_eq]; omega, _, _, ys ++ [.ref t], cs ++ [(2 + j, k)], rfl, fun a o h e => b5 _ _ (ne_of_none e nl0) (bb _ _ h (bt _ _ h e)), p4.but (Ne.symm nlp) b5, upd_same, ?_, by simp [el], fun c hc => ?_⟩
    · rw [List.map_append]
      refine dps_app (dps_but (.lst hl3) b5 (dps_but pt.ch bb hys (cells_noL cs)) (cells_noL cs)) (.cons (dp_but (.lst hl3) b5 (.tup (.of ht3) (.cons (.int _) (.cons (.int _) .nil))) (cell_noL (2 + j, k))) .nil)
    · rcases List.mem_append.mp hc with h | h
      · exact hcs c h
      · rw [List.mem_singleton.mp h]
        exact ⟨⟨by show 1 ≤ 2 + j; omega, by show 2 + j ≤ 9; omega, hk3⟩, by show 2 ≤ 2 + j; omega, by show 2 + j ≤ 5; omega⟩
  · rintro σ' H' ⟨_, _, ys, cs, rfl, bt, pt, hl, hys, el, hcs⟩
    exact ⟨_, rfl, q l ys cs H' bt pt nl0 nlp hl hys ⟨by omega, by omega⟩ hcs⟩
def BudAt (H : Hp) (b : Addr) (k : Int) : Prop := H b = some (.lst [.int k])
def spRowsD (K : PySem.W.Frag) (n : Nat) : Sp := fun vs H Q _ => ∃ (p b : Addr) (many : Int) (depth loops : Nat) (k : Int), vs = [.ref p, .int many, .int (depth : Int), .int (loops : Int), .ref b] ∧ PoolAt H p ∧ BudAt H b k ∧ 0 ≤ k ∧ p ≠ b ∧ depth < n ∧ (1 ≤ many ∧ many ≤ 6) ∧ depth + loops ≤ 2 ∧
  ∀ (v : V) (rs : List Row) (H' : Hp), But2 p b H H' → PoolAt H' p → BudAt H' b (k - rowsCc rs) → 0 ≤ k - rowsCc rs → Dp K H' v (.tuple (rowsD rs)) → (∀ deep, deep + depth ≤ 12 → rowsOk many deep loops rs) → rowsCl rs ≤ 3 * cR depth → mxs rs ≤ 3 * mR depth → (depth = 2 → 1 ≤ rs.length) → Q v H'
theorem ca_l_rows1 {n : Nat} (R : Ca P w K mg base (n + 10) "_law_rows" (spRowsD K n)) (T : Txt w K mg) : Ca P w K mg base (n + 11) "_law_rows" (spRowsD K (n + 1)) := by
    refine ca_of (N := ["_law_pool_here", "_law_many", "_law_depth", "_law_loops", "_law_budget", "_law_rows_here", "_law_turn", "_law_kind", "_law_cell", "_law_reg", "_law_e_here", "_law_first", "_law_count"]) (ps := ["_law_pool_here", "_law_many", "_law_depth", "_law_loops", "_law_budget"]) T.f_l_rows T.g_law_rows ⟨rfl, rfl, rfl, by decide +kernel, rfl, by decide +kernel, by decide +kernel⟩ (fun _ _ _ _ _ _ us hl => match us, hl with | [_, _, _, _, _], _ => rfl)
      (fun vs H Q E h => by obtain ⟨p, b, many, depth, loops, k, rfl, hp, hb, hk, npb, hn, hmany, hdl, q⟩ := h; rfl) (fun cdv A outer s H vs Q E hr h => ?_)
    have nd : (["_law_pool_here", "_law_many", "_law_depth", "_law_loops", "_law_budget", "_law_rows_here", "_law_turn", "_law_kind", "_law_cell", "_law_reg", "_law_e_here", "_law_first", "_law_count"] : List Str).Nodup := by decide +kernel
    obtain ⟨p, b, many, depth, loops, k, rfl, hp, hb, hk, npb, hn, hmany, hdl, q⟩ := h
    refine ⟨_, (pss_cons (ps_set (i := 5) nd rfl (.inl rfl) (pe_lst pa_nil))
      (pss_cons (ps_for PassesOwn.never rfl (pi_range1 rfl T.b_range (pa_cons (pe_op op_add (pe_callTy call_int1 (by rfl) T.b_int boot_int (pa_cons (pe_cmpR op_eq (pv 2) pe_int (nomark _)) pa_nil)) (pe_ca (ca_l_draw T) hr (pa_cons (pv 0) (pa_cons pe_int pa_nil)) (by omega))) pa_nil)) (pg_name (i := 6) nd rfl (.inl rfl)) (pss_cons (ps_set (i := 7) nd rfl (.inl rfl) (pe_ca (ca_l_draw T) hr (pa_cons (pv 0) (pa_cons pe_int pa_nil)) (by omega)))
      (pss_cons (ps_set (i := 8) nd rfl (.inl rfl) (pe_ca (ca_l_draw T) hr (pa_cons (pv 0) (pa_cons (pv 1) pa_nil)) (by omega)))
      (pss_cons (ps_set (i := 9) nd rfl (.inl rfl) (pe_ix ix_str pe_str (pe_ca (ca_l_draw T) hr (pa_cons (pv 0) (pa_cons pe_int pa_nil)) (by omega)) (fun _ _ => rfl)))
      (pss_cons (ps_set (i := 10) nd rfl (.inl rfl) (pe_ca (ca_l_e 3 T) hr (pa_cons (pv 0) (pa_cons pe_int pa_nil)) (by omega)))
      (pss_one (ps_if (pt_cmpR op_lt (pv 7) pe_int (nomark _)) (pss_one (ps_expr (pe_bm PySem.F.plainAttrs_list PySem.F.slot_list_append PySem.F.type_list_append mt_append (pv 5) (pa_cons (pe_tup (pa_cons pe_str (pa_cons (pv 9) (pa_cons (pv 8) pa_nil)))) pa_nil)))) (pss_one (ps_if (pt_cmpR op_lt (pv 7) pe_int (nomark _)) (pss_one (ps_expr (pe_bm PySem.F.plainAttrs_list PySem.F.slot_list_append PySem.F.type_list_append mt_append (pv 5) (pa_cons (pe_tup (pa_cons pe_str (pa_cons (pv 8) (pa_cons (pv 10) pa_nil)))) pa_nil)))) (pss_one (ps_if (pt_cmpR op_eq (pv 7) pe_int (nomark _)) (pss_one (ps_expr (pe_bm PySem.F.plainAttrs_list PySem.F.slot_list_append PySem.F.type_list_append mt_append (pv 5) (pa_cons (pe_tup (pa_cons pe_str (pa_cons (pv 9) (pa_cons (pv 8) (pa_cons (pv 10) (pa_cons (pe_ca (ca_l_e 3 T) hr (pa_cons (pv 0) (pa_cons pe_int pa_nil)) (by omega)) pa_nil)))))) pa_nil)))) (pss_one (ps_if (pt_cmpR op_eq (pv 7) pe_int (nomark _)) (pss_one (ps_expr (pe_bm PySem.F.plainAttrs_list PySem.F.slot_list_append PySem.F.type_list_append mt_append (pv 5) (pa_cons (pe_tup (pa_cons pe_str (pa_cons (pv 10) pa_nil))) pa_nil)))) (pss_one (ps_if (PW.pt (pw_and (pt_cmpR op_eq (pv 7) pe_int (nomark _)) (pw_and1 (pt_cmpR op_gt (pv 2) pe_int (nomark _))))) (pss_cons (ps_set (i := 11) nd rfl (.inl rfl) (pe_ca R hr (pa_cons (pv 0) (pa_cons (pv 1) (pa_cons (pe_op op_sub (pv 2) pe_int) (pa_cons (pv 3) (pa_cons (pv 4) pa_nil))))) (by omega)))
      (pss_one (ps_expr (pe_bm PySem.F.plainAttrs_list PySem.F.slot_list_append PySem.F.type_list_append mt_append (pv 5) (pa_cons (pe_tup (pa_cons pe_str (pa_cons (pv 10) (pa_cons (pv 11) (pa_cons (pe_ca R hr (pa_cons (pv 0) (pa_cons (pv 1) (pa_cons (pe_op op_sub (pv 2) pe_int) (pa_cons (pv 3) (pa_cons (pv 4) pa_nil))))) (by omega)) pa_nil))))) pa_nil))))) (pss_one (ps_if (PW.pt (pw_and (pt_cmpR op_eq (pv 7) pe_int (nomark _)) (pw_and1 (pt_cmpR op_gt (pv 2) pe_int (nomark _))))) (pss_cons (ps_set (i := 12) nd rfl (.inl rfl) (pe_ca (ca_l_draw T) hr (pa_cons (pv 0) (pa_cons pe_int pa_nil)) (by omega)))
      (pss_cons (ps_if (pt_cmpR op_eq (pv 12) pe_int (nomark _)) (pss_one (ps_set (i := 12) nd rfl (.inl rfl) pe_str)) pss_nil)
      (pss_one (ps_expr (pe_bm PySem.F.plainAttrs_list PySem.F.slot_list_append PySem.F.type_list_append mt_append (pv 5) (pa_cons (pe_tup (pa_cons pe_str (pa_cons (pv 12) (pa_cons (pe_ca R hr (pa_cons (pv 0) (pa_cons (pv 1) (pa_cons (pe_op op_sub (pv 2) pe_int) (pa_cons (pe_op op_add (pv 3) pe_int) (pa_cons (pv 4) pa_nil))))) (by omega)) pa_nil)))) pa_nil)))))) (pss_one (ps_if (PW.pt (pw_and (pt_cmpR op_eq (pv 7) pe_int (nomark _)) (pw_and (pt_cmpR op_eq (pv 3) pe_int (nomark _)) (pw_and1 (pt_cmpR op_gt (pe_ix ix_list (pv 4) pe_int (fun _ _ => rfl)) pe_int (nomark _)))))) (pss_cons (ps_asg (pe_op op_sub (pe_ix ix_list (pv 4) pe_int (fun _ _ => rfl)) pe_int) (pg_sub (pv 4) pe_int set_list))
      (pss_one (ps_expr (pe_bm PySem.F.plainAttrs_list PySem.F.slot_list_append PySem.F.type_list_append mt_append (pv 5) (pa_cons (pe_tup (pa_cons pe_str (pa_cons (pv 9) pa_nil))) pa_nil))))) (pss_one (ps_expr (pe_bm PySem.F.plainAttrs_list PySem.F.slot_list_append PySem.F.type_list_append mt_append (pv 5) (pa_cons (pe_tup (pa_cons pe_str (pa_cons (pv 9) (pa_cons (pv 10) pa_nil)))) pa_nil)))))))))))))))))))))))
      (pss_one (ps_ret (pe_tupleOf (by rfl) T.b_tuple (pv 5)))))), ?_⟩
    refine ⟨(by show 0 ≤ sizeLine; exact Nat.zero_le _), fun l nl => ?_⟩
    have nlp : l ≠ p := fun e => by
      obtain ⟨_, _, _, h, _⟩ := hp
      rw [← e, nl] at h
      cases h
    have nlb : l ≠ b := fun e => by
      have h : H b = _ := hb
      rw [← e, nl] at h
      cases h
    have hp0 := hp.same (same_new (o := .lst []) nl)
    have hb0 : BudAt (upd H l (.lst [])) b k := same_new nl _ _ hb
    have hl0 : upd H l (.lst []) l = some (.lst []) := upd_same
    have s0 : Same H (upd H l (.lst [])) := same_new nl
    generalize upd H l (.lst []) = H0 at hp0 hb0 hl0 s0 ⊢
    have hu : ∀ u : Bool, 0 ≤ (if u = true then (1 : Int) else 0) ∧ (if u = true then (1 : Int) else 0) ≤ 1 := fun u => by cases u <;> decide
    refine ⟨_, rfl, rfl, .inr ⟨_, rfl, _, rfl, p, 3, rfl, hp0, by omega, fun m H1 b1 p1 hm => ⟨_, _, rfl, rfl, _, rfl, ?_⟩⟩⟩
    have hu2 : depth = 2 → 1 ≤ (if decide (V.int (depth : Int) = V.int 2) = true then (1 : Int) else 0) + m := fun e => by
      rw [decide_eq_true (show V.int (depth : Int) = V.int 2 from by rw [e]; rfl), if_pos rfl]
      omega
    have hu := hu (decide (V.int (depth : Int) = V.int 2))
    have hu : 0 ≤ (if decide (V.int (depth : Int) = V.int 2) = true then (1 : Int) else 0) + m ∧ (if decide (V.int (depth : Int) = V.int 2) = true then (1 : Int) else 0) + m ≤ 3 := by omega
    generalize (if decide (V.int (depth : Int) = V.int 2) = true then (1 : Int) else 0) + m = cnt at hu hu2 ⊢
    refine ⟨by omega, by omega, for_it (n := cnt.toNat) walk_range (fun i σ' H' => ∃ (x6 x7 x8 x9 x10 x11 x12 : Option V) (ys : List V) (rs : List Row), σ' = [some (.ref p), some (.int many), some (.int (depth : Int)), some (.int (loops : Int)), some (.ref b), some (.ref l), x6, x7, x8, x9, x10, x11, x12] ∧ But2 p b H H' ∧ PoolAt H' p ∧ BudAt H' b (k - rowsCc rs) ∧ 0 ≤ k - rowsCc rs ∧ H' l = some (.lst ys) ∧ DpAll K H' ys (rs.map Row.d) ∧ (∀ deep, deep + depth ≤ 12 → rowsOk many deep loops rs) ∧ rowsCl rs ≤ i * cR depth ∧ mxs rs ≤ i * mR depth ∧ rs.length = i) ⟨none, none, none, none, none, none, none, [], [], rfl, (But2.same s0).trans (But2.l b1), p1, b1 _ _ (Ne.symm npb) (by show H0 b = some (.lst [.int (k - ((0 : Nat) : Int))]); rw [show k - ((0 : Nat) : Int) = k from by omega]; exact hb0), by show 0 ≤ k - ((0 : Nat) : Int); omega, b1 _ _ nlp hl0, .nil, fun _ _ => trivial, by show 0 ≤ _; exact Nat.zero_le _, by show 0 ≤ _; exact Nat.zero_le _, rfl⟩ (fun _ _ _ _ _ => trivial) ?_ ?_⟩
    · rintro i z σ' Hz H' hi ⟨_, _, _, _, _, x11, x12, ys, rs, rfl, bt, pt, bd, hk0, hl, hys, hok, hcl, hmx, hlen⟩ ⟨rfl, rfl⟩
      have lys : ys.length = i := by rw [dps_len hys, List.length_map, hlen]
      have lys1 : ys.length < sizeLine := by rw [sizeLine_eq]; omega
      have put : ∀ (H3 : Hp) (v : V) (r : Row), But2 p b H H3 → PoolAt H3 p → BudAt H3 b (k - rowsCc rs - r.cc) → 0 ≤ k - rowsCc rs - r.cc → H3 l = some (.lst ys) → DpAll K H3 ys (rs.map Row.d) → Dp K H3 v r.d → (∀ deep, deep + depth ≤ 12 → deep ≤ 12 ∧ r.ok many deep loops) → r.cl ≤ cR depth → mxR r ≤ mR depth → ∀ (y6 y7 y8 y9 y10 y11 y12 : Option V), ∃ (x6 x7 x8 x9 x10 x11 x12 : Option V) (ys' : List V) (rs' : List Row), [some (V.ref p), some (.int many), some (.int (depth : Int)), some (.int (loops : Int)), some (.ref b), some (.ref l), y6, y7, y8, y9, y10, y11, y12] = [some (V.ref p), some (.int many), some (.int (depth : Int)), some (.int (loops : Int)), some (.ref b), some (.ref l), x6, x7, x8, x9, x10, x11, x12] ∧ But2 p b H (upd H3 l (.lst (ys ++ [v]))) ∧ PoolAt (upd H3 l (.lst (ys ++ [v]))) p ∧ BudAt (upd H3 l (.lst (ys ++ [v]))) b (k - rowsCc rs') ∧ 0 ≤ k - rowsCc rs' ∧ (upd H3 l (.lst (ys ++ [v]))) l = some (.lst ys') ∧ DpAll K (upd H3 l (.lst (ys ++ [v]))) ys' (rs'.map Row.d) ∧ (∀ deep, deep + depth ≤ 12 → rowsOk many deep loops rs') ∧ rowsCl rs' ≤ (i + 1) * cR depth ∧ mxs rs' ≤ (i + 1) * mR depth ∧ rs'.length = i + 1 := by
        intro H3 v r c1 c2 c3 c4 c5 c6 c7 c8 c9 c10 y6 y7 y8 y9 y10 y11 y12
        have bb : But l H3 (upd H3 l (.lst (ys ++ [v]))) := But.upd
        have ecc : rowsCc (rs ++ [r]) = rowsCc rs + r.cc := by rw [cc_app]; rfl
        have ecl : rowsCl (rs ++ [r]) = rowsCl rs + r.cl := by rw [cl_app]; rfl
        have emx : mxs (rs ++ [r]) = mxs rs + mxR r := by rw [mx_app]; rfl
        have ek : k - ((rowsCc (rs ++ [r]) : Nat) : Int) = k - rowsCc rs - r.cc := by rw [ecc]; omega
        refine ⟨_, _, _, _, _, _, _, ys ++ [v], rs ++ [r], rfl, fun a o h1 h2 e => bb _ _ (ne_of_none e nl) (c1 _ _ h1 h2 e), c2.but (Ne.symm nlp) bb, by rw [ek]; exact bb _ _ (Ne.symm nlb) c3, by rw [ek]; exact c4, upd_same, ?_, fun deep hd => ok_app (hok deep hd) ⟨(c8 deep hd).1, (c8 deep hd).2, trivial⟩, by rw [ecl, Nat.succ_mul]; omega, by rw [emx, Nat.succ_mul]; omega, by rw [List.length_append, hlen]; rfl⟩
        rw [List.map_append]
        exact dps_app (dps_but (.lst c5) bb c6 rows_noL') (.cons (dp_but (.lst c5) bb c7 r.noL) .nil)
      refine ⟨_, rfl, p, 10, rfl, pt, by omega, fun kind H2 b2 p2 hkind => ?_⟩
      refine ⟨_, rfl, _, rfl, p, many, rfl, p2, by omega, fun cell H3 b3 p3 hcell => ?_⟩
      refine ⟨_, rfl, p, 4, rfl, p3, by omega, fun ri H4 b4 p4 hri => ?_⟩
      obtain ⟨cd, hcd, hreg⟩ := let4 hri
      refine ⟨_, ri, cd, rfl, rfl, (by decide +kernel), hcd, ?_⟩
      refine ⟨_, rfl, p, 2, rfl, p4, by omega, fun ev e H5 b5 p5 eo ed de => ?_⟩
      have b25 : But p H' H5 := ((b2.trans b3).trans b4).trans b5
      have b04 : But2 p b H H5 := bt.trans (But2.l b25)
      have hl4 := b25 _ _ nlp hl
      have bd4 : BudAt H5 b (k - rowsCc rs) := b25 _ _ (Ne.symm npb) bd
      have dy4 := dps_but pt.ch b25 hys rows_noL'
      have p4 := p5
      have ge : e.good := ⟨eo, by omega⟩
      have same_bud : ∀ {A B : Hp} {z : Int}, Same A B → BudAt A b z → BudAt B b z := fun s h => s _ _ h
      have bd4' : BudAt H5 b (k - rowsCc rs - ((0 : Nat) : Int)) := by rw [show k - rowsCc rs - ((0 : Nat) : Int) = k - rowsCc rs from by omega]; exact bd4
      have k0' : 0 ≤ k - rowsCc rs - ((0 : Nat) : Int) := by omega
      refine ⟨_, rfl, _, _, rfl, rfl, _, rfl, ?_⟩
      by_cases c2 : kind < 2
      · rw [decide_eq_true c2]
        refine iteT ⟨_, rfl, .inl ⟨rfl, _, .of hl4⟩, _, rfl, _, rfl, (by show 3 ≤ sizeLine; decide), fun t nt => ?_⟩
        have s5 := same_new (o := .tup [.str "read", .str ⟨#[cd]⟩, .int cell]) nt
        exact ⟨l, ys, _, rfl, rfl, s5 _ _ hl4, lys1, put _ (.ref t) (.read ⟨#[cd]⟩ cell) (b04.trans (But2.same s5)) (p4.same s5) (same_bud s5 bd4') k0' (s5 _ _ hl4) (dps_same s5 dy4) (.tup (.of upd_same) (.cons (.str _) (.cons (.str _) (.cons (.int _) .nil)))) (fun deep hd => ⟨by omega, hreg, hcell⟩) (cR_pos _) (mR_pos _) _ _ _ _ _ _ _⟩
      · rw [decide_eq_false c2]
        refine iteF ⟨_, rfl, _, _, rfl, rfl, _, rfl, ?_⟩
        by_cases c4 : kind < 4
        · rw [decide_eq_true c4]
          refine iteT ⟨_, rfl, .inl ⟨rfl, _, .of hl4⟩, _, rfl, _, rfl, (by show 3 ≤ sizeLine; decide), fun t nt => ?_⟩
          have s5 := same_new (o := .tup [.str "set", .int cell, ev]) nt
          exact ⟨l, ys, _, rfl, rfl, s5 _ _ hl4, lys1, put _ (.ref t) (.set cell e) (b04.trans (But2.same s5)) (p4.same s5) (same_bud s5 bd4') k0' (s5 _ _ hl4) (dps_same s5 dy4) (.tup (.of upd_same) (.cons (.str _) (.cons (.int _) (.cons (dp_same s5 de) .nil)))) (fun deep hd => ⟨by omega, hcell, ge⟩) (cR_pos _) (mR_pos _) _ _ _ _ _ _ _⟩
        · rw [decide_eq_false c4]
          refine iteF ⟨_, rfl, rfl, _, rfl, ?_⟩
          by_cases k4 : kind = 4
          · rw [decide_eq_true (show V.int kind = V.int 4 from congrArg V.int k4)]
            refine iteT ⟨_, rfl, .inl ⟨rfl, _, .of hl4⟩, _, rfl, _, rfl, _, rfl, _, rfl, p, 1, rfl, p4, by omega, fun fv f H6 b6 p6 fo fd df => ⟨(by show 5 ≤ sizeLine; decide), fun t nt => ?_⟩⟩
            have s7 := same_new (o := .tup [.str "swap", .str ⟨#[cd]⟩, .int cell, ev, fv]) nt
            have hl6 := b6 _ _ nlp hl4
            exact ⟨l, ys, _, rfl, rfl, s7 _ _ hl6, lys1, put _ (.ref t) (.swap ⟨#[cd]⟩ cell e f) ((b04.trans (But2.l b6)).trans (But2.same s7)) (p6.same s7) (same_bud s7 (b6 _ _ (Ne.symm npb) bd4')) k0' (s7 _ _ hl6) (dps_same s7 (dps_but p4.ch b6 dy4 rows_noL')) (.tup (.of upd_same) (.cons (.str _) (.cons (.str _) (.cons (.int _) (.cons (dp_same s7 (dp_but p4.ch b6 de e.noL)) (.cons (dp_same s7 df) .nil)))))) (fun deep hd => ⟨by omega, hreg, hcell, ge, fo, by omega⟩) (cR_pos _) (mR_pos _) _ _ _ _ _ _ _⟩
          · rw [decide_eq_false (show ¬ V.int kind = V.int 4 from fun z => k4 (V.int.inj z))]
            refine iteF ⟨_, rfl, rfl, _, rfl, ?_⟩
            by_cases k5 : kind = 5
            · rw [decide_eq_true (show V.int kind = V.int 5 from congrArg V.int k5)]
              refine iteT ⟨_, rfl, .inl ⟨rfl, _, .of hl4⟩, _, rfl, (by show 2 ≤ sizeLine; decide), fun t nt => ?_⟩
              have s5 := same_new (o := .tup [.str "answer", ev]) nt
              exact ⟨l, ys, _, rfl, rfl, s5 _ _ hl4, lys1, put _ (.ref t) (.ans e) (b04.trans (But2.same s5)) (p4.same s5) (same_bud s5 bd4') k0' (s5 _ _ hl4) (dps_same s5 dy4) (.tup (.of upd_same) (.cons (.str _) (.cons (dp_same s5 de) .nil))) (fun deep hd => ⟨by omega, ge⟩) (cR_pos _) (Nat.zero_le _) _ _ _ _ _ _ _⟩
            · rw [decide_eq_false (show ¬ V.int kind = V.int 5 from fun z => k5 (V.int.inj z))]
              refine iteF ⟨_, rfl, rfl, _, rfl, ?_⟩
              by_cases k6 : kind = 6
              · rw [decide_eq_true (show V.int kind = V.int 6 from congrArg V.int k6)]
                refine iteT ⟨_, rfl, _, _, rfl, rfl, _, rfl, ?_⟩
                by_cases d0 : (0 : Int) < (depth : Int)
                · rw [decide_eq_true d0]
                  obtain ⟨dp, rfl⟩ : ∃ dp, depth = dp + 1 := ⟨depth - 1, by omega⟩
                  have ek : (((dp + 1 : Nat) : Int) - 1) = ((dp : Nat) : Int) := by omega
                  refine iteT ⟨_, rfl, _, rfl, _, rfl, _, _, rfl, rfl, _, rfl, _, rfl, p, b, many, dp, loops, k - rowsCc rs, by rw [← ek]; rfl, p4, bd4, hk0, npb, by omega, hmany, by omega, fun v1 r1 H6 b6 p6 bd6 k6' d1 ok1 cl1 mx1 _ => ?_⟩
                  have hl6 := b6 _ _ nlp nlb hl4
                  refine ⟨_, rfl, .inl ⟨rfl, _, .of hl6⟩, _, rfl, _, rfl, _, rfl, _, rfl, _, rfl, _, _, rfl, rfl, _, rfl, _, rfl, p, b, many, dp, loops, k - rowsCc rs - rowsCc r1, by rw [← ek]; rfl, p6, bd6, k6', npb, by omega, hmany, by omega, fun v2 r2 H7 b7 p7 bd7 k7' d2 ok2 cl2 mx2 _ => ⟨(by show 4 ≤ sizeLine; decide), fun t nt => ?_⟩⟩
                  have c45p := p4.ch
                  have cb4 : Ch H5 b := .lst bd4
                  have cb6 : Ch H6 b := .lst bd6
                  have s8 := same_new (o := .tup [.str "if", ev, v1, v2]) nt
                  have hl7 := b7 _ _ nlp nlb hl6
                  have ecc : k - rowsCc rs - ((rowsCc r1 + rowsCc r2 : Nat) : Int) = k - rowsCc rs - rowsCc r1 - rowsCc r2 := by omega
                  exact ⟨l, ys, _, rfl, rfl, s8 _ _ hl7, lys1, put _ (.ref t) (.iff e r1 r2) (((b04.trans b6).trans b7).trans (But2.same s8)) (p7.same s8) (by show BudAt _ b (k - rowsCc rs - ((rowsCc r1 + rowsCc r2 : Nat) : Int)); rw [ecc]; exact same_bud s8 bd7) (by show 0 ≤ k - rowsCc rs - ((rowsCc r1 + rowsCc r2 : Nat) : Int); rw [ecc]; exact k7') (s8 _ _ hl7) (dps_same s8 (dps_b2 p6.ch cb6 b7 (dps_b2 c45p cb4 b6 dy4 rows_noL') rows_noL')) (.tup (.of upd_same) (.cons (.str _) (.cons (dp_same s8 (dp_b2 p6.ch cb6 b7 (dp_b2 c45p cb4 b6 de e.noL) e.noL)) (.cons (dp_same s8 (dp_b2 p6.ch cb6 b7 d1 (.tup (rows_noL r1)))) (.cons (dp_same s8 d2) .nil))))) (fun deep hd => ⟨by omega, ge, ok1 _ (by omega), ok2 _ (by omega)⟩) (by show 1 + (rowsCl r1 + rowsCl r2) ≤ 1 + 2 * (3 * cR dp); omega) (by show mxs r1 + mxs r2 ≤ 1 + 9 * (3 * mR dp); omega) _ _ _ _ _ _ _⟩
                · rw [decide_eq_false d0]
                  refine iteF ⟨_, rfl, rfl, _, rfl, ?_⟩
                  rw [decide_eq_false (show ¬ V.int kind = V.int 7 from fun z => by have := V.int.inj z; omega)]
                  refine iteF ⟨_, rfl, rfl, _, rfl, ?_⟩
                  rw [decide_eq_false (show ¬ V.int kind = V.int 8 from fun z => by have := V.int.inj z; omega)]
                  refine iteF ?_
                  refine ⟨_, rfl, .inl ⟨rfl, _, .of hl4⟩, _, rfl, _, rfl, (by show 3 ≤ sizeLine; decide), fun t nt => ?_⟩
                  have s5 := same_new (o := .tup [.str "keep", .str ⟨#[cd]⟩, ev]) nt
                  exact ⟨l, ys, _, rfl, rfl, s5 _ _ hl4, lys1, put _ (.ref t) (.keep ⟨#[cd]⟩ e) (b04.trans (But2.same s5)) (p4.same s5) (same_bud s5 bd4') k0' (s5 _ _ hl4) (dps_same s5 dy4) (.tup (.of upd_same) (.cons (.str _) (.cons (.str _) (.cons (dp_same s5 de) .nil)))) (fun deep hd => ⟨by omega, hreg, ge⟩) (cR_pos _) (Nat.zero_le _) _ _ _ _ _ _ _⟩
              · rw [decide_eq_false (show ¬ V.int kind = V.int 6 from fun z => k6 (V.int.inj z))]
                refine iteF ⟨_, rfl, rfl, _, rfl, ?_⟩
                by_cases k7 : kind = 7
                · rw [decide_eq_true (show V.int kind = V.int 7 from congrArg V.int k7)]
                  refine iteT ⟨_, rfl, _, _, rfl, rfl, _, rfl, ?_⟩
                  by_cases d0 : (0 : Int) < (depth : Int)
                  · rw [decide_eq_true d0]
                    obtain ⟨dp, rfl⟩ : ∃ dp, depth = dp + 1 := ⟨depth - 1, by omega⟩
                    have ek : (((dp + 1 : Nat) : Int) - 1) = ((dp : Nat) : Int) := by omega
                    have el : ((loops : Nat) : Int) + 1 = ((loops + 1 : Nat) : Int) := by omega
                    refine iteT ⟨_, rfl, p, 5, rfl, p4, by omega, fun ct H6 b6 p6 hct => ⟨_, rfl, rfl, _, rfl, ?_⟩⟩
                    have hl6 := b6 _ _ nlp hl4
                    have bd6 : BudAt H6 b (k - rowsCc rs) := b6 _ _ (Ne.symm npb) bd4
                    have cb6 : Ch H6 b := .lst bd6
                    by_cases c4 : ct = 4
                    · rw [decide_eq_true (show V.int ct = V.int 4 from congrArg V.int c4)]
                      refine iteT ?_
                      refine ⟨_, rfl, .inl ⟨rfl, _, .of hl6⟩, _, rfl, _, rfl, _, rfl, _, rfl, _, _, rfl, rfl, _, rfl, _, _, rfl, rfl, _, rfl, p, b, many, dp, loops + 1, k - rowsCc rs, by rw [← ek, ← el]; rfl, p6, bd6, hk0, npb, by omega, hmany, by omega, fun v2 r2 H7 b7 p7 bd7 k7' d2 ok2 cl2 mx2 _ => ⟨(by show 3 ≤ sizeLine; decide), fun t nt => ?_⟩⟩
                      have s8 := same_new (o := .tup [.str "times", .str "x", v2]) nt
                      have hl7 := b7 _ _ nlp nlb hl6
                      exact ⟨l, ys, _, rfl, rfl, s8 _ _ hl7, lys1, put _ (.ref t) (.times (.reg "x") r2) (((b04.trans (But2.l b6)).trans b7).trans (But2.same s8)) (p7.same s8) (same_bud s8 bd7) k7' (s8 _ _ hl7) (dps_same s8 (dps_b2 p6.ch cb6 b7 (dps_but p4.ch b6 dy4 rows_noL') rows_noL')) (.tup (.of upd_same) (.cons (.str _) (.cons (.str _) (.cons (dp_same s8 d2) .nil)))) (fun deep hd => ⟨by omega, ⟨in_x, by show 0 ≤ 6; decide⟩, by omega, ok2 _ (by omega)⟩) (by show 1 + rowsCl r2 ≤ 1 + 2 * (3 * cR dp); omega) (by show 9 * mxs r2 ≤ 1 + 9 * (3 * mR dp); omega) _ _ _ _ _ _ _⟩
                    · rw [decide_eq_false (show ¬ V.int ct = V.int 4 from fun z => c4 (V.int.inj z))]
                      refine iteF ?_
                      refine ⟨_, rfl, .inl ⟨rfl, _, .of hl6⟩, _, rfl, _, rfl, _, rfl, _, rfl, _, _, rfl, rfl, _, rfl, _, _, rfl, rfl, _, rfl, p, b, many, dp, loops + 1, k - rowsCc rs, by rw [← ek, ← el]; rfl, p6, bd6, hk0, npb, by omega, hmany, by omega, fun v2 r2 H7 b7 p7 bd7 k7' d2 ok2 cl2 mx2 _ => ⟨(by show 3 ≤ sizeLine; decide), fun t nt => ?_⟩⟩
                      have s8 := same_new (o := .tup [.str "times", .int ct, v2]) nt
                      have hl7 := b7 _ _ nlp nlb hl6
                      exact ⟨l, ys, _, rfl, rfl, s8 _ _ hl7, lys1, put _ (.ref t) (.times (.num ct) r2) (((b04.trans (But2.l b6)).trans b7).trans (But2.same s8)) (p7.same s8) (same_bud s8 bd7) k7' (s8 _ _ hl7) (dps_same s8 (dps_b2 p6.ch cb6 b7 (dps_but p4.ch b6 dy4 rows_noL') rows_noL')) (.tup (.of upd_same) (.cons (.str _) (.cons (.int _) (.cons (dp_same s8 d2) .nil)))) (fun deep hd => ⟨by omega, ⟨(by show 0 ≤ ct ∧ ct ≤ 9; omega), by show 0 ≤ 6; decide⟩, by omega, ok2 _ (by omega)⟩) (by show 1 + rowsCl r2 ≤ 1 + 2 * (3 * cR dp); omega) (by show 9 * mxs r2 ≤ 1 + 9 * (3 * mR dp); omega) _ _ _ _ _ _ _⟩
                  · rw [decide_eq_false d0]
                    refine iteF ⟨_, rfl, rfl, _, rfl, ?_⟩
                    rw [decide_eq_false (show ¬ V.int kind = V.int 8 from fun z => by have := V.int.inj z; omega)]
                    refine iteF ?_
                    refine ⟨_, rfl, .inl ⟨rfl, _, .of hl4⟩, _, rfl, _, rfl, (by show 3 ≤ sizeLine; decide), fun t nt => ?_⟩
                    have s5 := same_new (o := .tup [.str "keep", .str ⟨#[cd]⟩, ev]) nt
                    exact ⟨l, ys, _, rfl, rfl, s5 _ _ hl4, lys1, put _ (.ref t) (.keep ⟨#[cd]⟩ e) (b04.trans (But2.same s5)) (p4.same s5) (same_bud s5 bd4') k0' (s5 _ _ hl4) (dps_same s5 dy4) (.tup (.of upd_same) (.cons (.str _) (.cons (.str _) (.cons (dp_same s5 de) .nil)))) (fun deep hd => ⟨by omega, hreg, ge⟩) (cR_pos _) (Nat.zero_le _) _ _ _ _ _ _ _⟩
                · rw [decide_eq_false (show ¬ V.int kind = V.int 7 from fun z => k7 (V.int.inj z))]
                  refine iteF ⟨_, rfl, rfl, _, rfl, ?_⟩
                  by_cases k8 : kind = 8
                  · rw [decide_eq_true (show V.int kind = V.int 8 from congrArg V.int k8)]
                    refine iteT ⟨_, rfl, rfl, _, rfl, ?_⟩
                    by_cases l0 : loops = 0
                    · rw [decide_eq_true (show V.int (loops : Int) = V.int 0 from by rw [l0]; rfl)]
                      refine iteT ⟨_, rfl, _, _, _, _, rfl, rfl, .of bd4, at0, _, _, rfl, rfl, _, rfl, ?_⟩
                      by_cases g0 : (0 : Int) < k - rowsCc rs
                      · rw [decide_eq_true g0]
                        refine iteT ⟨_, rfl, _, _, _, _, rfl, rfl, .of bd4, at0, _, _, rfl, rfl, _, rfl, b, _, _, 0, rfl, rfl, bd4, rfl, ?_⟩
                        have bb : But b H5 (upd H5 b (.lst (([.int (k - rowsCc rs)] : List V).set 0 (.int (k - rowsCc rs - 1))))) := But.upd
                        have bd5 : BudAt (upd H5 b (.lst (([.int (k - rowsCc rs)] : List V).set 0 (.int (k - rowsCc rs - 1))))) b (k - rowsCc rs - ((1 : Nat) : Int)) := upd_same
                        have cb4 : Ch H5 b := .lst bd4
                        have hl6 := bb _ _ nlb hl4
                        have p6 := p4.but npb bb
                        have dy6 := dps_but cb4 bb dy4 rows_noL'
                        generalize upd H5 b (.lst (([.int (k - rowsCc rs)] : List V).set 0 (.int (k - rowsCc rs - 1)))) = H6 at bb bd5 hl6 p6 dy6 ⊢
                        refine ⟨_, rfl, .inl ⟨rfl, _, .of hl6⟩, _, rfl, (by show 2 ≤ sizeLine; decide), fun t nt => ?_⟩
                        have s7 := same_new (o := .tup [.str "coin", .str ⟨#[cd]⟩]) nt
                        exact ⟨l, ys, _, rfl, rfl, s7 _ _ hl6, lys1, put _ (.ref t) (.coin ⟨#[cd]⟩) ((b04.trans (But2.r bb)).trans (But2.same s7)) (p6.same s7) (same_bud s7 bd5) (by show 0 ≤ k - rowsCc rs - ((1 : Nat) : Int); omega) (s7 _ _ hl6) (dps_same s7 dy6) (.tup (.of upd_same) (.cons (.str _) (.cons (.str _) .nil))) (fun deep hd => ⟨by omega, hreg, l0⟩) (cR_pos _) (Nat.zero_le _) _ _ _ _ _ _ _⟩
                      · rw [decide_eq_false g0]
                        refine iteF ?_
                        refine ⟨_, rfl, .inl ⟨rfl, _, .of hl4⟩, _, rfl, _, rfl, (by show 3 ≤ sizeLine; decide), fun t nt => ?_⟩
                        have s5 := same_new (o := .tup [.str "keep", .str ⟨#[cd]⟩, ev]) nt
                        exact ⟨l, ys, _, rfl, rfl, s5 _ _ hl4, lys1, put _ (.ref t) (.keep ⟨#[cd]⟩ e) (b04.trans (But2.same s5)) (p4.same s5) (same_bud s5 bd4') k0' (s5 _ _ hl4) (dps_same s5 dy4) (.tup (.of upd_same) (.cons (.str _) (.cons (.str _) (.cons (dp_same s5 de) .nil)))) (fun deep hd => ⟨by omega, hreg, ge⟩) (cR_pos _) (Nat.zero_le _) _ _ _ _ _ _ _⟩
                    · rw [decide_eq_false (show ¬ V.int (loops : Int) = V.int 0 from fun z => l0 (by have := V.int.inj z; omega))]
                      refine iteF ?_
                      refine ⟨_, rfl, .inl ⟨rfl, _, .of hl4⟩, _, rfl, _, rfl, (by show 3 ≤ sizeLine; decide), fun t nt => ?_⟩
                      have s5 := same_new (o := .tup [.str "keep", .str ⟨#[cd]⟩, ev]) nt
                      exact ⟨l, ys, _, rfl, rfl, s5 _ _ hl4, lys1, put _ (.ref t) (.keep ⟨#[cd]⟩ e) (b04.trans (But2.same s5)) (p4.same s5) (same_bud s5 bd4') k0' (s5 _ _ hl4) (dps_same s5 dy4) (.tup (.of upd_same) (.cons (.str _) (.cons (.str _) (.cons (dp_same s5 de) .nil)))) (fun deep hd => ⟨by omega, hreg, ge⟩) (cR_pos _) (Nat.zero_le _) _ _ _ _ _ _ _⟩
                  · rw [decide_eq_false (show ¬ V.int kind = V.int 8 from fun z => k8 (V.int.inj z))]
                    refine iteF ?_
                    refine ⟨_, rfl, .inl ⟨rfl, _, .of hl4⟩, _, rfl, _, rfl, (by show 3 ≤ sizeLine; decide), fun t nt => ?_⟩
                    have s5 := same_new (o := .tup [.str "keep", .str ⟨#[cd]⟩, ev]) nt
                    exact ⟨l, ys, _, rfl, rfl, s5 _ _ hl4, lys1, put _ (.ref t) (.keep ⟨#[cd]⟩ e) (b04.trans (But2.same s5)) (p4.same s5) (same_bud s5 bd4') k0' (s5 _ _ hl4) (dps_same s5 dy4) (.tup (.of upd_same) (.cons (.str _) (.cons (.str _) (.cons (dp_same s5 de) .nil)))) (fun deep hd => ⟨by omega, hreg, ge⟩) (cR_pos _) (Nat.zero_le _) _ _ _ _ _ _ _⟩
    · rintro σ' H' ⟨_, _, _, _, _, _, _, ys, rs, rfl, bt, pt, bd, hk0, hl, hys, hok, hcl, hmx, hlen⟩
      have c3 : cnt.toNat ≤ 3 := by omega
      refine ⟨_, rfl, .inl ⟨l, _, rfl, .of hl, fun t nt => ?_⟩⟩
      have s9 := same_new (o := .tup ys) nt
      refine q (.ref t) rs _ (bt.trans (But2.same s9)) (pt.same s9) (s9 _ _ bd) hk0 (.tup (.of upd_same) ?_) hok (Nat.le_trans hcl (Nat.mul_le_mul_right _ c3)) (Nat.le_trans hmx (Nat.mul_le_mul_right _ c3)) (fun e => by have := hu2 e; omega)
      rw [rowsD_map]
      exact dps_same s9 hys
theorem ca_l_rows (T : Txt w K mg) : ∀ n, Ca P w K mg base (n + 10) "_law_rows" (spRowsD K n)
  | 0 => by
    refine ca_of (N := ["_law_pool_here", "_law_many", "_law_depth", "_law_loops", "_law_budget", "_law_rows_here", "_law_turn", "_law_kind", "_law_cell", "_law_reg", "_law_e_here", "_law_first", "_law_count"]) (ps := ["_law_pool_here", "_law_many", "_law_depth", "_law_loops", "_law_budget"]) T.f_l_rows T.g_law_rows ⟨rfl, rfl, rfl, by decide +kernel, rfl, by decide +kernel, by decide +kernel⟩ (fun _ _ _ _ _ _ us hl => match us, hl with | [_, _, _, _, _], _ => rfl)
      (fun vs H Q E h => by obtain ⟨p, b, many, depth, loops, k, rfl, hp, hb, hk, npb, hn, hmany, hdl, q⟩ := h; rfl) (fun cdv A outer s H vs Q E hr h => ?_)
    have nd : (["_law_pool_here", "_law_many", "_law_depth", "_law_loops", "_law_budget", "_law_rows_here", "_law_turn", "_law_kind", "_law_cell", "_law_reg", "_law_e_here", "_law_first", "_law_count"] : List Str).Nodup := by decide +kernel
    obtain ⟨p, b, many, depth, loops, k, rfl, hp, hb, hk, npb, hn, hmany, hdl, q⟩ := h
    omega
  | n + 1 => ca_l_rows1 (ca_l_rows T n) T
end

end M

set_option Elab.async false
set_option linter.all false
set_option maxRecDepth 100000
set_option maxHeartbeats 2000000
namespace M
open PySem PySem.Spec PyProof.Rows L2

/-! ### displays of data that hang on what was drawn -/
section
variable {X : Cx} {K : PySem.W.Frag} {γ : Type} {C : γ → L2.St → Hp → Prop} {D : γ → PyData} {Ds : γ → List PyData} {e : Expr} {es : List Expr} {pos : Pos}
def Stg (C : γ → L2.St → Hp → Prop) : Prop := ∀ g σ H H', Same H H' → C g σ H → C g σ H'
def tGc (K : PySem.W.Frag) (C : γ → L2.St → Hp → Prop) (D : γ → PyData) : TE := fun σ H Q => ∃ g, C g σ H ∧ ∀ v H', Same H H' → Dp K H' v (D g) → Q v H'
def tGs (K : PySem.W.Frag) (C : γ → L2.St → Hp → Prop) (Ds : γ → List PyData) : TA := fun σ H Q => ∃ g, C g σ H ∧ ∀ vs H', Same H H' → DpAll K H' vs (Ds g) → Q vs H'
theorem pa_impG {t t' : TA} (h : PA X es t) (i : ∀ σ H Q, t' σ H Q → t σ H Q) : PA X es t' := ⟨fun pos pins s σ H Q I q => h.run pos pins s σ H Q I (i σ H Q q)⟩
theorem gd_str {x : Str} {j : Nat} : PE X (.Constant (.str x) j pos) (tGc K C fun _ => .str x) := pe_imp pe_str fun σ H Q ⟨_, _, q⟩ => q _ H (Same.refl _) (.str _)
theorem gd_int {x : Int} {j : Nat} : PE X (.Constant (.int x) j pos) (tGc K C fun _ => .int x) := pe_imp pe_int fun σ H Q ⟨_, _, q⟩ => q _ H (Same.refl _) (.int _)
theorem gd_nil : PA X [] (tGs K C fun _ => []) := pa_impG pa_nil fun σ H Q ⟨_, _, q⟩ => q [] H (Same.refl _) .nil
theorem gd_cons (hC : Stg C) (he : PE X e (tGc K C D)) (ht : PA X es (tGs K C Ds)) (hs : starEach (e :: es) X.env = (false, eval e X.env) :: starEach es X.env := by rfl) : PA X (e :: es) (tGs K C fun g => D g :: Ds g) :=
  pa_impG (pa_cons he ht hs) fun σ H Q ⟨g, c, q⟩ => ⟨g, c, fun v H1 s1 dv => ⟨g, hC _ _ _ _ s1 c, fun vs H2 s2 dvs => q _ H2 (s1.trans s2) (.cons (dp_same s2 dv) dvs)⟩⟩
theorem gd_tup {n : Nat} (h : PA X es (tGs K C Ds)) (hl : ∀ g, (Ds g).length ≤ 100 := by intro _; exact Nat.le_of_ble_eq_true rfl) : PE X (.Tuple es n pos) (tGc K C fun g => .tuple (Ds g)) :=
  pe_imp (pe_tup h) fun σ H Q ⟨g, c, q⟩ => ⟨g, c, fun vs H1 s1 dvs => ⟨by have := hl g; rw [dps_len dvs, sizeLine_eq]; omega, fun t nt => q _ _ (s1.trans (same_new nt)) (.tup (.of upd_same) (dps_same (same_new nt) dvs))⟩⟩
theorem gd_of {t : TE} (h : PE X e t) (k : ∀ g σ H, C g σ H → ∀ Q : VK, (∀ v H', Same H H' → Dp K H' v (D g) → Q v H') → t σ H Q) : PE X e (tGc K C D) := pe_imp h fun σ H Q ⟨g, c, q⟩ => k g σ H c Q q
end
section
variable {P : Program} {w : World} {K : PySem.W.Frag} {mg : Str → Option Value} {base : Heap}
theorem pool_ne {H : Hp} {p b : Addr} (h : PoolAt H p) (nb : H b = none) : p ≠ b := fun e => by
  obtain ⟨_, _, _, h, _⟩ := h
  rw [e, nb] at h
  cases h
def stopR : Row := .iff (.reg "a") [.ans (.num 0)] []
def spBodyL (K : PySem.W.Frag) : Sp := fun vs H Q _ => ∃ (p : Addr) (many coins : Int), vs = [.ref p, .int many, .int coins] ∧ PoolAt H p ∧ (1 ≤ many ∧ many ≤ 6) ∧ (0 ≤ coins ∧ coins ≤ 4) ∧
  ∀ (v : V) (rs : List Row) (H' : Hp), But p H H' → PoolAt H' p → Dp K H' v (.tuple (rowsD rs)) → rowsOk many 1 0 rs → (rowsCc rs ≤ 4 ∧ (coins = 0 → rowsCc rs = 0)) → rowsCl rs ≤ 2000 → mxs rs ≤ 40000 → Q v H'
theorem ca_l_body (T : Txt w K mg) : Ca P w K mg base 14 "_law_body" (spBodyL K) := by
  refine ca_of (N := ["_law_pool_here", "_law_many", "_law_coins", "_law_kind", "_law_c", "_law_d", "_law_e_here", "_law_stop"]) (ps := ["_law_pool_here", "_law_many", "_law_coins"]) T.f_l_body T.g_law_body ⟨rfl, rfl, rfl, by decide +kernel, rfl, by decide +kernel, by decide +kernel⟩ (fun _ _ _ _ _ _ us hl => match us, hl with | [_, _, _], _ => rfl)
    (fun vs H Q E h => by obtain ⟨p, many, coins, rfl, hp, hmany, hcoins, q⟩ := h; rfl) (fun cdv A outer s H vs Q E hr h => ?_)
  have nd : (["_law_pool_here", "_law_many", "_law_coins", "_law_kind", "_law_c", "_law_d", "_law_e_here", "_law_stop"] : List Str).Nodup := by decide +kernel
  obtain ⟨p, many, coins, rfl, hp, hmany, hcoins, q⟩ := h
  let C0 : Int × Int × Exp → L2.St → Hp → Prop := fun g σ H => σ[4]? = some (some (.int g.1)) ∧ σ[5]? = some (some (.int g.2.1)) ∧ ∃ v, σ[6]? = some (some v) ∧ Dp K H v g.2.2.d
  let C1 : Int → L2.St → Hp → Prop := fun g σ H => σ[4]? = some (some (.int g)) ∧ ∃ v, σ[7]? = some (some v) ∧ Dp K H v stopR.d
  let C3 : Unit → L2.St → Hp → Prop := fun _ _ _ => True
  have h0 : Stg C0 := fun g σ H H' s ⟨e1, e2, v, e3, d⟩ => ⟨e1, e2, v, e3, dp_same s d⟩
  have h1 : Stg C1 := fun g σ H H' s ⟨e1, v, e3, d⟩ => ⟨e1, v, e3, dp_same s d⟩
  have h3 : Stg C3 := fun g σ H H' s c => trivial
  have f4 : ∀ g σ H, C0 g σ H → ∀ Q : VK, (∀ v H', Same H H' → Dp K H' v (.int g.1) → Q v H') → tVar 4 σ H Q := fun g σ H ⟨e1, e2, v, e3, d⟩ Q q => ⟨_, e1, q _ H (Same.refl _) (.int _)⟩
  have f5 : ∀ g σ H, C0 g σ H → ∀ Q : VK, (∀ v H', Same H H' → Dp K H' v (.int g.2.1) → Q v H') → tVar 5 σ H Q := fun g σ H ⟨e1, e2, v, e3, d⟩ Q q => ⟨_, e2, q _ H (Same.refl _) (.int _)⟩
  have f6 : ∀ g σ H, C0 g σ H → ∀ Q : VK, (∀ v H', Same H H' → Dp K H' v g.2.2.d → Q v H') → tVar 6 σ H Q := fun g σ H ⟨e1, e2, v, e3, d⟩ Q q => ⟨_, e3, q _ H (Same.refl _) d⟩
  have g4 : ∀ g σ H, C1 g σ H → ∀ Q : VK, (∀ v H', Same H H' → Dp K H' v (.int g) → Q v H') → tVar 4 σ H Q := fun g σ H ⟨e1, v, e3, d⟩ Q q => ⟨_, e1, q _ H (Same.refl _) (.int _)⟩
  have g7 : ∀ g σ H, C1 g σ H → ∀ Q : VK, (∀ v H', Same H H' → Dp K H' v stopR.d → Q v H') → tVar 7 σ H Q := fun g σ H ⟨e1, v, e3, d⟩ Q q => ⟨_, e3, q _ H (Same.refl _) d⟩
  refine ⟨_, (pss_cons (ps_set (i := 3) nd rfl (.inl rfl) (pe_ca (ca_l_draw T) hr (pa_cons (pv 0) (pa_cons pe_int pa_nil))))
      (pss_cons (ps_set (i := 4) nd rfl (.inl rfl) (pe_ca (ca_l_draw T) hr (pa_cons (pv 0) (pa_cons (pv 1) pa_nil))))
      (pss_cons (ps_set (i := 5) nd rfl (.inl rfl) (pe_ca (ca_l_draw T) hr (pa_cons (pv 0) (pa_cons (pv 1) pa_nil))))
      (pss_cons (ps_set (i := 6) nd rfl (.inl rfl) (pe_ca (ca_l_e 3 T) hr (pa_cons (pv 0) (pa_cons pe_int pa_nil))))
      (pss_cons (ps_if (pt_cmpR op_eq (pv 3) pe_int (nomark _)) (pss_one (ps_ret (gd_tup (K := K) (gd_cons h0 (gd_tup (K := K) (gd_cons h0 gd_str (gd_cons h0 (gd_of (C := C0) (pv 4) f4) (gd_cons h0 gd_str gd_nil)))) gd_nil)))) pss_nil)
      (pss_cons (ps_if (pt_cmpR op_eq (pv 3) pe_int (nomark _)) (pss_one (ps_ret (gd_tup (K := K) (gd_cons h0 (gd_tup (K := K) (gd_cons h0 gd_str (gd_cons h0 gd_str (gd_cons h0 (gd_of (C := C0) (pv 4) f4) gd_nil)))) (gd_cons h0 (gd_tup (K := K) (gd_cons h0 gd_str (gd_cons h0 gd_str gd_nil))) gd_nil))))) pss_nil)
      (pss_cons (ps_if (pt_cmpR op_eq (pv 3) pe_int (nomark _)) (pss_one (ps_ret (gd_tup (K := K) (gd_cons h0 (gd_tup (K := K) (gd_cons h0 gd_str (gd_cons h0 gd_str (gd_cons h0 (gd_of (C := C0) (pv 4) f4) gd_nil)))) (gd_cons h0 (gd_tup (K := K) (gd_cons h0 gd_str (gd_cons h0 (gd_of (C := C0) (pv 4) f4) (gd_cons h0 (gd_tup (K := K) (gd_cons h0 gd_str (gd_cons h0 gd_str (gd_cons h0 (gd_of (C := C0) (pv 6) f6) gd_nil)))) gd_nil)))) (gd_cons h0 (gd_tup (K := K) (gd_cons h0 gd_str (gd_cons h0 gd_str gd_nil))) gd_nil)))))) pss_nil)
      (pss_cons (ps_if (pt_cmpR op_eq (pv 3) pe_int (nomark _)) (pss_one (ps_ret (gd_tup (K := K) (gd_cons h0 (gd_tup (K := K) (gd_cons h0 gd_str (gd_cons h0 gd_str (gd_cons h0 (gd_of (C := C0) (pv 4) f4) gd_nil)))) (gd_cons h0 (gd_tup (K := K) (gd_cons h0 gd_str (gd_cons h0 (gd_of (C := C0) (pv 5) f5) (gd_cons h0 gd_str gd_nil)))) (gd_cons h0 (gd_tup (K := K) (gd_cons h0 gd_str (gd_cons h0 (gd_of (C := C0) (pv 4) f4) (gd_cons h0 gd_str gd_nil)))) gd_nil)))))) pss_nil)
      (pss_cons (ps_if (pt_cmpR op_eq (pv 3) pe_int (nomark _)) (pss_one (ps_ret (gd_tup (K := K) (gd_cons h0 (gd_tup (K := K) (gd_cons h0 gd_str (gd_cons h0 (gd_of (C := C0) (pv 4) f4) (gd_cons h0 (gd_of (C := C0) (pv 6) f6) gd_nil)))) gd_nil)))) pss_nil)
      (pss_cons (ps_if (pt_cmpR op_eq (pv 3) pe_int (nomark _)) (pss_one (ps_ret (gd_tup (K := K) (gd_cons h0 (gd_tup (K := K) (gd_cons h0 gd_str (gd_cons h0 gd_str (gd_cons h0 (gd_of (C := C0) (pv 4) f4) (gd_cons h0 (gd_of (C := C0) (pv 6) f6) (gd_cons h0 gd_str gd_nil)))))) (gd_cons h0 (gd_tup (K := K) (gd_cons h0 gd_str (gd_cons h0 gd_str gd_nil))) gd_nil))))) pss_nil)
      (pss_cons (ps_if (pt_cmpR op_eq (pv 3) pe_int (nomark _)) (pss_one (ps_ret (gd_tup (K := K) (gd_cons h0 (gd_tup (K := K) (gd_cons h0 gd_str (gd_cons h0 gd_str (gd_cons h0 (gd_of (C := C0) (pv 4) f4) gd_nil)))) (gd_cons h0 (gd_tup (K := K) (gd_cons h0 gd_str (gd_cons h0 gd_str (gd_cons h0 (gd_of (C := C0) (pv 5) f5) gd_nil)))) (gd_cons h0 (gd_tup (K := K) (gd_cons h0 gd_str (gd_cons h0 (gd_tup (K := K) (gd_cons h0 gd_str (gd_cons h0 gd_str (gd_cons h0 gd_str gd_nil)))) (gd_cons h0 (gd_tup (K := K) (gd_cons h0 (gd_tup (K := K) (gd_cons h0 gd_str (gd_cons h0 (gd_of (C := C0) (pv 6) f6) gd_nil))) gd_nil)) (gd_cons h0 (gd_tup (K := K) (gd_cons h0 (gd_tup (K := K) (gd_cons h0 gd_str (gd_cons h0 (gd_of (C := C0) (pv 4) f4) (gd_cons h0 gd_str gd_nil)))) gd_nil)) gd_nil))))) gd_nil)))))) pss_nil)
      (pss_cons (ps_if (pt_cmpR op_eq (pv 3) pe_int (nomark _)) (pss_one (ps_ret (gd_tup (K := K) (gd_cons h0 (gd_tup (K := K) (gd_cons h0 gd_str (gd_cons h0 gd_str (gd_cons h0 (gd_of (C := C0) (pv 4) f4) gd_nil)))) (gd_cons h0 (gd_tup (K := K) (gd_cons h0 gd_str (gd_cons h0 gd_str (gd_cons h0 (gd_of (C := C0) (pv 5) f5) gd_nil)))) (gd_cons h0 (gd_tup (K := K) (gd_cons h0 gd_str (gd_cons h0 (gd_of (C := C0) (pv 4) f4) (gd_cons h0 gd_str gd_nil)))) (gd_cons h0 (gd_tup (K := K) (gd_cons h0 gd_str (gd_cons h0 (gd_of (C := C0) (pv 5) f5) (gd_cons h0 gd_str gd_nil)))) gd_nil))))))) pss_nil)
      (pss_cons (ps_if (PW.pt (pw_and (pt_cmpR op_eq (pv 3) pe_int (nomark _)) (pw_and1 (pt_cmpR op_gt (pv 2) pe_int (nomark _))))) (pss_cons (ps_set (i := 7) nd rfl (.inl rfl) (gd_tup (K := K) (gd_cons h3 gd_str (gd_cons h3 gd_str (gd_cons h3 (gd_tup (K := K) (gd_cons h3 (gd_tup (K := K) (gd_cons h3 gd_str (gd_cons h3 gd_int gd_nil))) gd_nil)) (gd_cons h3 (gd_tup (K := K) gd_nil) gd_nil))))))
      (pss_one (ps_ret ((gd_tup (K := K) (gd_cons h1 (gd_tup (K := K) (gd_cons h1 gd_str (gd_cons h1 gd_str (gd_cons h1 (gd_of (C := C1) (pv 4) g4) gd_nil)))) (gd_cons h1 (gd_of (C := C1) (pv 7) g7) (gd_cons h1 (gd_tup (K := K) (gd_cons h1 gd_str (gd_cons h1 gd_str gd_nil))) (gd_cons h1 (gd_tup (K := K) (gd_cons h1 gd_str (gd_cons h1 (gd_of (C := C1) (pv 4) g4) (gd_cons h1 (gd_tup (K := K) (gd_cons h1 gd_str (gd_cons h1 gd_str (gd_cons h1 gd_int gd_nil)))) gd_nil)))) (gd_cons h1 (gd_tup (K := K) (gd_cons h1 gd_str (gd_cons h1 gd_int gd_nil))) gd_nil)))))))))) pss_nil)
      (pss_cons (ps_if (PW.pt (pw_and (pt_cmpR op_eq (pv 3) pe_int (nomark _)) (pw_and1 (pt_cmpR op_gt (pv 2) pe_int (nomark _))))) (pss_one (ps_ret (gd_tup (K := K) (gd_cons h0 (gd_tup (K := K) (gd_cons h0 gd_str (gd_cons h0 gd_str gd_nil))) (gd_cons h0 (gd_tup (K := K) (gd_cons h0 gd_str (gd_cons h0 (gd_of (C := C0) (pv 4) f4) (gd_cons h0 (gd_tup (K := K) (gd_cons h0 gd_str (gd_cons h0 gd_str (gd_cons h0 gd_str gd_nil)))) gd_nil)))) gd_nil))))) pss_nil)
      (pss_one (ps_ret (pe_ca (ca_l_rows T 3) hr (pa_cons (pv 0) (pa_cons (pv 1) (pa_cons pe_int (pa_cons pe_int (pa_cons (pe_lst (pa_cons (pv 2) pa_nil)) pa_nil)))))))))))))))))))))), ?_⟩
  refine ⟨_, rfl, p, 12, rfl, hp, by omega, fun kind H1 b1 p1 hkind => ?_⟩
  refine ⟨_, rfl, _, rfl, p, many, rfl, p1, by omega, fun c H2 b2 p2 hc => ?_⟩
  refine ⟨_, rfl, _, rfl, p, many, rfl, p2, by omega, fun d H3 b3 p3 hd => ?_⟩
  refine ⟨_, rfl, p, 1, rfl, p3, by omega, fun ev e H4 b4 p4 eo ed de => ?_⟩
  have b14 := ((b1.trans b2).trans b3).trans b4
  have ge : e.good := ⟨eo, by omega⟩
  have ra : ("a" : Str) ∈ regs4 := by decide +kernel
  have rb : ("b" : Str) ∈ regs4 := by decide +kernel
  have xa : ("a" : Str) ∈ regs5 := by decide +kernel
  have xb : ("b" : Str) ∈ regs5 := by decide +kernel
  have sp : ("+" : Str) ∈ signs := by decide +kernel
  have se : ("=" : Str) ∈ signs := by decide +kernel
  have z0 : (0 : Nat) ≤ 6 := by decide
  have z1 : (1 : Nat) ≤ 6 := by decide
  have gx : Exp.good (.reg "x") := ⟨in_x, z0⟩
  have ga : Exp.good (.reg "a") := ⟨xa, z0⟩
  have gb : Exp.good (.reg "b") := ⟨xb, z0⟩
  have g0 : Exp.good (.num 0) := ⟨(by show (0 : Int) ≤ 0 ∧ (0 : Int) ≤ 9; decide), z0⟩
  have g1 : Exp.good (.num 1) := ⟨(by show (0 : Int) ≤ 1 ∧ (1 : Int) ≤ 9; decide), z0⟩
  have gq : Exp.good (.op "=" (.reg "a") (.reg "b")) := ⟨⟨se, xa, xb⟩, z1⟩
  have gbx : Exp.good (.op "+" (.reg "b") (.reg "x")) := ⟨⟨sp, xb, in_x⟩, z1⟩
  have gb1 : Exp.good (.op "+" (.reg "b") (.num 1)) := ⟨⟨sp, xb, g1.1⟩, z1⟩
  have gp : Exp.good (.op "+" (.reg "a") e) := ⟨⟨sp, xa, eo⟩, by show Nat.max 0 e.dep + 1 ≤ 6; have := Nat.max_le.mpr ⟨Nat.zero_le _, ed⟩; have : Nat.max 0 e.dep ≤ 1 := this; omega⟩
  have fin : ∀ (v : V) (H' : Hp) (rs : List Row), Same H4 H' → Dp K H' v (.tuple (rowsD rs)) → rowsOk many 1 0 rs → (rowsCc rs ≤ 4 ∧ (coins = 0 → rowsCc rs = 0)) → rowsCl rs ≤ 2000 → mxs rs ≤ 40000 → Q v H' := fun v H' rs s d o1 o2 o3 o4 => q v rs H' (b14.trans (same_but s)) (p4.same s) d o1 o2 o3 o4
  refine ⟨_, rfl, rfl, _, rfl, ?_⟩
  by_cases k0 : kind = 0
  · rw [decide_eq_true (show V.int kind = V.int 0 from congrArg V.int k0)]
    exact iteT ⟨(c, d, e), ⟨rfl, rfl, ev, rfl, de⟩, fun v5 H5 s5 d5 => fin v5 H5 [.set c (.reg "x")] s5 d5 ⟨by decide, ⟨hc, gx⟩, trivial⟩ ⟨Nat.le_of_ble_eq_true rfl, fun _ => rfl⟩ (Nat.le_of_ble_eq_true rfl) (Nat.le_of_ble_eq_true rfl)⟩
  · rw [decide_eq_false (show ¬ V.int kind = V.int 0 from fun z => k0 (V.int.inj z))]
    refine iteF ⟨_, rfl, rfl, _, rfl, ?_⟩
    by_cases k1 : kind = 1
    · rw [decide_eq_true (show V.int kind = V.int 1 from congrArg V.int k1)]
      exact iteT ⟨(c, d, e), ⟨rfl, rfl, ev, rfl, de⟩, fun v5 H5 s5 d5 => fin v5 H5 [.read "a" c, .ans (.reg "a")] s5 d5 ⟨by decide, ⟨ra, hc⟩, by decide, ga, trivial⟩ ⟨Nat.le_of_ble_eq_true rfl, fun _ => rfl⟩ (Nat.le_of_ble_eq_true rfl) (Nat.le_of_ble_eq_true rfl)⟩
    · rw [decide_eq_false (show ¬ V.int kind = V.int 1 from fun z => k1 (V.int.inj z))]
      refine iteF ⟨_, rfl, rfl, _, rfl, ?_⟩
      by_cases k2 : kind = 2
      · rw [decide_eq_true (show V.int kind = V.int 2 from congrArg V.int k2)]
        exact iteT ⟨(c, d, e), ⟨rfl, rfl, ev, rfl, de⟩, fun v5 H5 s5 d5 => fin v5 H5 [.read "a" c, .set c (.op "+" (.reg "a") e), .ans (.reg "a")] s5 d5 ⟨by decide, ⟨ra, hc⟩, by decide, ⟨hc, gp⟩, by decide, ga, trivial⟩ ⟨Nat.le_of_ble_eq_true rfl, fun _ => rfl⟩ (Nat.le_of_ble_eq_true rfl) (Nat.le_of_ble_eq_true rfl)⟩
      · rw [decide_eq_false (show ¬ V.int kind = V.int 2 from fun z => k2 (V.int.inj z))]
        refine iteF ⟨_, rfl, rfl, _, rfl, ?_⟩
        by_cases k3 : kind = 3
        · rw [decide_eq_true (show V.int kind = V.int 3 from congrArg V.int k3)]
          exact iteT ⟨(c, d, e), ⟨rfl, rfl, ev, rfl, de⟩, fun v5 H5 s5 d5 => fin v5 H5 [.read "a" c, .set d (.reg "a"), .set c (.reg "x")] s5 d5 ⟨by decide, ⟨ra, hc⟩, by decide, ⟨hd, ga⟩, by decide, ⟨hc, gx⟩, trivial⟩ ⟨Nat.le_of_ble_eq_true rfl, fun _ => rfl⟩ (Nat.le_of_ble_eq_true rfl) (Nat.le_of_ble_eq_true rfl)⟩
        · rw [decide_eq_false (show ¬ V.int kind = V.int 3 from fun z => k3 (V.int.inj z))]
          refine iteF ⟨_, rfl, rfl, _, rfl, ?_⟩
          by_cases k4 : kind = 4
          · rw [decide_eq_true (show V.int kind = V.int 4 from congrArg V.int k4)]
            exact iteT ⟨(c, d, e), ⟨rfl, rfl, ev, rfl, de⟩, fun v5 H5 s5 d5 => fin v5 H5 [.set c e] s5 d5 ⟨by decide, ⟨hc, ge⟩, trivial⟩ ⟨Nat.le_of_ble_eq_true rfl, fun _ => rfl⟩ (Nat.le_of_ble_eq_true rfl) (Nat.le_of_ble_eq_true rfl)⟩
          · rw [decide_eq_false (show ¬ V.int kind = V.int 4 from fun z => k4 (V.int.inj z))]
            refine iteF ⟨_, rfl, rfl, _, rfl, ?_⟩
            by_cases k5 : kind = 5
            · rw [decide_eq_true (show V.int kind = V.int 5 from congrArg V.int k5)]
              exact iteT ⟨(c, d, e), ⟨rfl, rfl, ev, rfl, de⟩, fun v5 H5 s5 d5 => fin v5 H5 [.swap "b" c e (.reg "x"), .ans (.reg "b")] s5 d5 ⟨by decide, ⟨rb, hc, ge, gx⟩, by decide, gb, trivial⟩ ⟨Nat.le_of_ble_eq_true rfl, fun _ => rfl⟩ (Nat.le_of_ble_eq_true rfl) (Nat.le_of_ble_eq_true rfl)⟩
            · rw [decide_eq_false (show ¬ V.int kind = V.int 5 from fun z => k5 (V.int.inj z))]
              refine iteF ⟨_, rfl, rfl, _, rfl, ?_⟩
              by_cases k6 : kind = 6
              · rw [decide_eq_true (show V.int kind = V.int 6 from congrArg V.int k6)]
                exact iteT ⟨(c, d, e), ⟨rfl, rfl, ev, rfl, de⟩, fun v5 H5 s5 d5 => fin v5 H5 [.read "a" c, .read "b" d, .iff (.op "=" (.reg "a") (.reg "b")) [.ans e] [.set c (.reg "b")]] s5 d5 ⟨by decide, ⟨ra, hc⟩, by decide, ⟨rb, hd⟩, by decide, ⟨gq, ⟨by decide, ge, trivial⟩, ⟨by decide, ⟨hc, gb⟩, trivial⟩⟩, trivial⟩ ⟨Nat.le_of_ble_eq_true rfl, fun _ => rfl⟩ (Nat.le_of_ble_eq_true rfl) (Nat.le_of_ble_eq_true rfl)⟩
              · rw [decide_eq_false (show ¬ V.int kind = V.int 6 from fun z => k6 (V.int.inj z))]
                refine iteF ⟨_, rfl, rfl, _, rfl, ?_⟩
                by_cases k7 : kind = 7
                · rw [decide_eq_true (show V.int kind = V.int 7 from congrArg V.int k7)]
                  exact iteT ⟨(c, d, e), ⟨rfl, rfl, ev, rfl, de⟩, fun v5 H5 s5 d5 => fin v5 H5 [.read "a" c, .read "b" d, .set c (.reg "b"), .set d (.reg "a")] s5 d5 ⟨by decide, ⟨ra, hc⟩, by decide, ⟨rb, hd⟩, by decide, ⟨hc, gb⟩, by decide, ⟨hd, ga⟩, trivial⟩ ⟨Nat.le_of_ble_eq_true rfl, fun _ => rfl⟩ (Nat.le_of_ble_eq_true rfl) (Nat.le_of_ble_eq_true rfl)⟩
                · rw [decide_eq_false (show ¬ V.int kind = V.int 7 from fun z => k7 (V.int.inj z))]
                  refine iteF ⟨_, rfl, rfl, _, rfl, ?_⟩
                  by_cases k8 : kind = 8
                  · rw [decide_eq_true (show V.int kind = V.int 8 from congrArg V.int k8)]
                    refine iteT ⟨_, rfl, _, _, rfl, rfl, _, rfl, ?_⟩
                    by_cases c0 : (0 : Int) < coins
                    · rw [decide_eq_true c0]
                      refine iteT ⟨(), trivial, fun sv H5 s5 d5 => ?_⟩
                      exact ⟨c, ⟨rfl, sv, rfl, d5⟩, fun v6 H6 s6 d6 => fin v6 H6 [.read "a" c, stopR, .coin "b", .set c (.op "+" (.reg "b") (.num 1)), .ans (.num 1)] (s5.trans s6) d6 ⟨by decide, ⟨ra, hc⟩, by decide, ⟨ga, ⟨by decide, g0, trivial⟩, trivial⟩, by decide, ⟨rb, rfl⟩, by decide, ⟨hc, gb1⟩, by decide, g1, trivial⟩ ⟨Nat.le_of_ble_eq_true rfl, fun z => absurd z (by omega)⟩ (Nat.le_of_ble_eq_true rfl) (Nat.le_of_ble_eq_true rfl)⟩
                    · rw [decide_eq_false c0]
                      refine iteF ⟨_, rfl, rfl, _, rfl, ?_⟩
                      rw [decide_eq_false (show ¬ V.int kind = V.int 9 from fun z => by have := V.int.inj z; omega)]
                      refine iteF ?_
                      refine ⟨_, rfl, _, rfl, _, rfl, (by show 1 ≤ sizeLine; decide), fun b nb => ?_⟩
                      have sb := same_new (o := .lst [.int coins]) nb
                      have hb : upd H4 b (.lst [.int coins]) b = some (.lst [.int coins]) := upd_same
                      refine ⟨p, b, many, 2, 0, coins, rfl, p4.same sb, hb, hcoins.1, pool_ne p4 nb, by decide, hmany, by decide, fun v rs H' b5 p5 _ kk dd ok cl mx _ => ?_⟩
                      have nb0 : ∀ a o, H4 a = some o → a ≠ b := fun a o h => ne_of_none h nb
                      exact q v rs H' (b14.trans fun a o h e => b5 a o h (nb0 _ _ e) (sb _ _ e)) p5 dd (ok 1 (by decide)) ⟨by omega, fun z => by omega⟩ (Nat.le_trans cl (by decide)) (Nat.le_trans mx (by decide))
                  · rw [decide_eq_false (show ¬ V.int kind = V.int 8 from fun z => k8 (V.int.inj z))]
                    refine iteF ⟨_, rfl, rfl, _, rfl, ?_⟩
                    by_cases k9 : kind = 9
                    · rw [decide_eq_true (show V.int kind = V.int 9 from congrArg V.int k9)]
                      refine iteT ⟨_, rfl, _, _, rfl, rfl, _, rfl, ?_⟩
                      by_cases c0 : (0 : Int) < coins
                      · rw [decide_eq_true c0]
                        exact iteT ⟨(c, d, e), ⟨rfl, rfl, ev, rfl, de⟩, fun v5 H5 s5 d5 => fin v5 H5 [.coin "b", .set c (.op "+" (.reg "b") (.reg "x"))] s5 d5 ⟨by decide, ⟨rb, rfl⟩, by decide, ⟨hc, gbx⟩, trivial⟩ ⟨Nat.le_of_ble_eq_true rfl, fun z => absurd z (by omega)⟩ (Nat.le_of_ble_eq_true rfl) (Nat.le_of_ble_eq_true rfl)⟩
                      · rw [decide_eq_false c0]
                        refine iteF ?_
                        refine ⟨_, rfl, _, rfl, _, rfl, (by show 1 ≤ sizeLine; decide), fun b nb => ?_⟩
                        have sb := same_new (o := .lst [.int coins]) nb
                        have hb : upd H4 b (.lst [.int coins]) b = some (.lst [.int coins]) := upd_same
                        refine ⟨p, b, many, 2, 0, coins, rfl, p4.same sb, hb, hcoins.1, pool_ne p4 nb, by decide, hmany, by decide, fun v rs H' b5 p5 _ kk dd ok cl mx _ => ?_⟩
                        have nb0 : ∀ a o, H4 a = some o → a ≠ b := fun a o h => ne_of_none h nb
                        exact q v rs H' (b14.trans fun a o h e => b5 a o h (nb0 _ _ e) (sb _ _ e)) p5 dd (ok 1 (by decide)) ⟨by omega, fun z => by omega⟩ (Nat.le_trans cl (by decide)) (Nat.le_trans mx (by decide))
                    · rw [decide_eq_false (show ¬ V.int kind = V.int 9 from fun z => k9 (V.int.inj z))]
                      refine iteF ?_
                      refine ⟨_, rfl, _, rfl, _, rfl, (by show 1 ≤ sizeLine; decide), fun b nb => ?_⟩
                      have sb := same_new (o := .lst [.int coins]) nb
                      have hb : upd H4 b (.lst [.int coins]) b = some (.lst [.int coins]) := upd_same
                      refine ⟨p, b, many, 2, 0, coins, rfl, p4.same sb, hb, hcoins.1, pool_ne p4 nb, by decide, hmany, by decide, fun v rs H' b5 p5 _ kk dd ok cl mx _ => ?_⟩
                      have nb0 : ∀ a o, H4 a = some o → a ≠ b := fun a o h => ne_of_none h nb
                      exact q v rs H' (b14.trans fun a o h e => b5 a o h (nb0 _ _ e) (sb _ _ e)) p5 dd (ok 1 (by decide)) ⟨by omega, fun z => by omega⟩ (Nat.le_trans cl (by decide)) (Nat.le_trans mx (by decide))
end

end M

set_option Elab.async false
set_option linter.all false
set_option maxRecDepth 100000
set_option maxHeartbeats 2000000
namespace M
open PySem PySem.Spec PyProof.Rows L2

/-! ### deeds that are drawn -/
theorem joinL_nil : ∀ ps : List (List Nat), TL.joinL [] ps = ps.flatten
  | [] => rfl
  | [p] => by show p = p ++ []; rw [List.append_nil]
  | p :: q :: r => by
    show p ++ ([] ++ TL.joinL [] (q :: r)) = p ++ (q :: r).flatten
    rw [List.nil_append, joinL_nil (q :: r)]
/-- texts of one letter each, joined -/
theorem join_letters {ss : List Str} (h : ∀ s ∈ ss, ∃ c, s = ⟨#[c]⟩ ∧ 97 ≤ c ∧ c ≤ 122) : (Txt.join ("" : Str) ss).cps.toList.length = ss.length ∧ ∀ c ∈ (Txt.join ("" : Str) ss).cps.toList, 97 ≤ c ∧ c ≤ 122 := by
  have e : (Txt.join ("" : Str) ss).cps.toList = (ss.map TL.tl).flatten := by
    have := TL.tl_join ("" : Str) ss
    rw [← TL.join_eq] at this
    rw [← joinL_nil]
    exact this
  rw [e]
  clear e
  induction ss with
  | nil => exact ⟨rfl, fun c hc => by cases hc⟩
  | cons s r ih =>
    obtain ⟨c, rfl, h1, h2⟩ := h s List.mem_cons_self
    obtain ⟨i1, i2⟩ := ih fun x hx => h x (List.mem_cons_of_mem _ hx)
    have et : TL.tl (⟨#[c]⟩ : Str) = [c] := rfl
    rw [List.map_cons, List.flatten_cons, et]
    refine ⟨by rw [List.length_append, i1]; simp; omega, fun d hd => ?_⟩
    rcases List.mem_append.mp hd with hd | hd
    · rw [List.mem_singleton.mp hd]
      exact ⟨h1, h2⟩
    · exact i2 d hd
/-- the last letter tells the place -/
def EndsL (s : Str) (j : Nat) : Prop := ∃ (p : List Nat) (c : Nat), s.cps.toList = p ++ [c] ∧ 97 ≤ c ∧ ((c : Int) - 97) % 4 = (3 * (j : Int) + 1) % 4
theorem EndsL.ne {s t : Str} {i j : Nat} (h : EndsL s i) (k : EndsL t j) (hi : i < 4) (hj : j < 4) (n : i ≠ j) : s ≠ t := fun e => by
  obtain ⟨p, c, h1, _, h2⟩ := h
  obtain ⟨q, d, k1, _, k2⟩ := k
  rw [e, k1] at h1
  have : d = c := by
    have := congrArg List.getLast? h1
    rw [List.getLast?_append, List.getLast?_append] at this
    exact Option.some.inj this
  subst this
  omega
theorem str_len (s : Str) : s.length = s.cps.toList.length := by rw [Array.length_toList]; rfl
section
variable {P : Program} {w : World} {K : PySem.W.Frag} {mg : Str → Option Value} {base : Heap}
theorem deeds_noL (ds : List (Str × Int × List Row)) : ∀ d ∈ ds.map deedD, NoL d := fun d h => by
  obtain ⟨c, _, rfl⟩ := List.mem_map.mp h
  exact deed_noL c
theorem pool_nl {H : Hp} {p l : Addr} (h : PoolAt H p) (nb : H l = none) : l ≠ p := fun e => (pool_ne h nb) e.symm
def spDeedsL (K : PySem.W.Frag) : Sp := fun vs H Q _ => ∃ (p : Addr) (many coins : Int), vs = [.ref p, .int many, .int coins] ∧ PoolAt H p ∧ (1 ≤ many ∧ many ≤ 6) ∧ (0 ≤ coins ∧ coins ≤ 4) ∧
  ∀ (l : Addr) (ys : List V) (ds : List (Str × Int × List Row)) (H' : Hp), But p H H' → PoolAt H' p → H l = none → l ≠ p → H' l = some (.lst ys) → DpAll K H' ys (ds.map deedD) → (1 ≤ ds.length ∧ ds.length ≤ 4) → (∀ d ∈ ds, DeedOk many d ∧ mxs d.2.2 ≤ 40000) → (ds.map (·.1)).Nodup → (coins = 0 → ∀ d ∈ ds, rowsCc d.2.2 = 0) → Q (.ref l) H'
theorem ca_l_deeds (T : Txt w K mg) : Ca P w K mg base 15 "_law_deeds" (spDeedsL K) := by
  refine ca_of (N := ["_law_pool_here", "_law_many", "_law_coins", "_law_letters", "_law_deeds_here", "_law_k", "_law_turn", "_law_name", "_law_choices"]) (ps := ["_law_pool_here", "_law_many", "_law_coins"]) T.f_l_deeds T.g_law_deeds ⟨rfl, rfl, rfl, by decide +kernel, rfl, by decide +kernel, by decide +kernel⟩ (fun _ _ _ _ _ _ us hl => match us, hl with | [_, _, _], _ => rfl)
    (fun vs H Q E h => by obtain ⟨p, many, coins, rfl, hp, hmany, hcoins, q⟩ := h; rfl) (fun cdv A outer s H vs Q E hr h => ?_)
  have nd : (["_law_pool_here", "_law_many", "_law_coins", "_law_letters", "_law_deeds_here", "_law_k", "_law_turn", "_law_name", "_law_choices"] : List Str).Nodup := by decide +kernel
  obtain ⟨p, many, coins, rfl, hp, hmany, hcoins, q⟩ := h
  refine ⟨_, (pss_cons (ps_set (i := 3) nd rfl (.inr rfl) pe_str)
      (pss_cons (ps_set (i := 4) nd rfl (.inl rfl) (pe_lst pa_nil))
      (pss_cons (ps_for PassesOwn.never rfl (pi_range1 rfl T.b_range (pa_cons (pe_op op_add pe_int (pe_ca (ca_l_draw T) hr (pa_cons (pv 0) (pa_cons pe_int pa_nil)))) pa_nil)) (pg_name (i := 5) nd rfl (.inl rfl)) (pss_cons (ps_set (i := 7) nd rfl (.inl rfl) (pe_join pe_str (pe_lc (own := [("_law_turn", 6)]) (tt := tYes) rfl nd (pi_range1 rfl T.b_range (pa_cons (pe_ca (ca_l_draw T) hr (pa_cons (pv 0) (pa_cons pe_int pa_nil))) pa_nil)) (blkOk_by (N := ["_law_pool_here", "_law_many", "_law_coins", "_law_letters", "_law_deeds_here", "_law_k", "_law_turn", "_law_name", "_law_choices"]) (sc := defScope s_l_deeds) (by decide +kernel)) (fun _ _ _ _ _ => pg_name (i := 6) nd rfl (.inl rfl)) (fun _ _ _ _ _ => pts_nil) (fun _ _ _ _ _ => pe_ix ix_str (pv 3) (pe_ca (ca_l_draw T) hr (pa_cons (pv 0) (pa_cons pe_int pa_nil))) (fun _ _ => rfl)))))
      (pss_cons (ps_set (i := 7) nd rfl (.inl rfl) (pe_op op_add_str (pv 7) (pe_ix ix_str (pv 3) (pe_op op_add (pe_op op_mul pe_int (pe_ca (ca_l_draw T) hr (pa_cons (pv 0) (pa_cons pe_int pa_nil)))) (pe_op op_mod (pe_op op_add (pe_op op_mul pe_int (pv 5)) pe_int) pe_int)) (fun _ _ => rfl))))
      (pss_cons (ps_set (i := 8) nd rfl (.inl rfl) (pe_op op_add pe_int (pe_ca (ca_l_draw T) hr (pa_cons (pv 0) (pa_cons pe_int pa_nil)))))
      (pss_one (ps_expr (pe_bm PySem.F.plainAttrs_list PySem.F.slot_list_append PySem.F.type_list_append mt_append (pv 4) (pa_cons (pe_tup (pa_cons (pv 7) (pa_cons (pv 8) (pa_cons (pe_ca (ca_l_body T) hr (pa_cons (pv 0) (pa_cons (pv 1) (pa_cons (pv 2) pa_nil)))) pa_nil)))) pa_nil))))))))
      (pss_one (ps_ret (pv 4)))))), ?_⟩
  refine ⟨(by show 0 ≤ sizeLine; exact Nat.zero_le _), fun l nl => ?_⟩
  have nlp := pool_nl hp nl
  have s0 : Same H (upd H l (.lst [])) := same_new nl
  have hl0 : upd H l (.lst []) l = some (.lst []) := upd_same
  have hp0 := hp.same s0
  generalize upd H l (.lst []) = H0 at s0 hl0 hp0 ⊢
  refine ⟨_, rfl, p, 4, rfl, hp0, by omega, fun n H1 b1 p1 hn => ⟨_, _, rfl, rfl, _, rfl, by omega, by omega, ?_⟩⟩
  refine for_it (n := (1 + n).toNat) walk_range (fun i σ' H' => ∃ (x5 x6 x7 x8 : Option V) (ys : List V) (ds : List (Str × Int × List Row)), σ' = [some (.ref p), some (.int many), some (.int coins), some (.str "abcdefghijklmnopqrstuvwxyz"), some (.ref l), x5, x6, x7, x8] ∧ But p H H' ∧ PoolAt H' p ∧ H' l = some (.lst ys) ∧ DpAll K H' ys (ds.map deedD) ∧ ds.length = i ∧ (∀ d ∈ ds, (DeedOk many d ∧ mxs d.2.2 ≤ 40000) ∧ (coins = 0 → rowsCc d.2.2 = 0)) ∧ ∀ (j : Nat) (d : Str × Int × List Row), ds[j]? = some d → EndsL d.1 j) ⟨none, none, none, none, [], [], rfl, fun a o h e => b1 _ _ h (s0 _ _ e), p1, b1 _ _ nlp hl0, .nil, rfl, (fun d h => nomatch h), (fun j d h => by simp at h)⟩ (fun _ _ _ _ _ => trivial) ?_ ?_
  · rintro i z σ' Hz H' hi ⟨_, _, _, _, ys, ds, rfl, bt, pt, hl, hys, hlen, hds, hen⟩ ⟨rfl, rfl⟩
    have lys : ys.length = i := by rw [dps_len hys, List.length_map, hlen]
    refine ⟨⟨_, rfl⟩, _, rfl, p, 3, rfl, pt, by omega, fun m H2 b2 p2 hm => ⟨m, rfl, by omega, by omega, fun D nD => ?_⟩⟩
    have nDp := pool_nl p2 nD
    refine it_any (n := m.toNat) walk_range (fun i J => ∃ ss : List Str, But p H2 J ∧ PoolAt J p ∧ J D = some (.lst (ss.map V.str)) ∧ ss.length = i ∧ ∀ s ∈ ss, ∃ c, s = ⟨#[c]⟩ ∧ 97 ≤ c ∧ c ≤ 122) ⟨[], same_but (same_new nD), p2.same (same_new nD), upd_same, rfl, fun s h => by cases h⟩ (fun _ _ _ _ => trivial) ?_ ?_
    · rintro j z J0 J hj ⟨ss, bj, pj, hD, el, hss⟩ ⟨rfl, rfl⟩
      refine ⟨rfl, _, rfl, _, rfl, p, 26, rfl, pj, by omega, fun c J2 b6 p6 hc => ?_⟩
      have hat := let26 hc
      have hD2 := b6 _ _ nDp hD
      have bb : But D J2 (upd J2 D (.lst (ss.map V.str ++ [.str ⟨#[97 + c.toNat]⟩]))) := But.upd
      refine ⟨_, c, 97 + c.toNat, rfl, rfl, (by decide +kernel), hat, ss.map V.str, hD2, by rw [List.length_map, sizeLine_eq]; omega, ss ++ [⟨#[97 + c.toNat]⟩], fun a o h e => bb _ _ (ne_of_none e nD) (b6 _ _ h (bj _ _ h e)), p6.but (Ne.symm nDp) bb, by rw [List.map_append]; exact upd_same, by simp [el], fun s hs => ?_⟩
      rcases List.mem_append.mp hs with hs | hs
      · exact hss s hs
      · rw [List.mem_singleton.mp hs]
        exact ⟨_, rfl, by omega, by omega⟩
    · rintro H3 ⟨ss, bj, pj, hD, el, hss⟩
      obtain ⟨j1, j2⟩ := join_letters hss
      refine ⟨_, D, ss, rfl, rfl, .inl (.of hD), ?_, ?_⟩
      · have : (ss.map (·.length)).sum ≤ ss.length := by
          clear hD el j1 j2
          induction ss with
          | nil => exact Nat.le_refl _
          | cons s r ih =>
            obtain ⟨c, rfl, _⟩ := hss s List.mem_cons_self
            have := ih fun x hx => hss x (List.mem_cons_of_mem _ hx)
            rw [List.map_cons, List.sum_cons, List.length_cons]
            show 1 + _ ≤ _
            omega
        have e0 : ("" : Str).length = 0 := by decide +kernel
        rw [e0]
        omega
      generalize Txt.join ("" : Str) ss = nm at j1 j2 ⊢
      refine ⟨_, rfl, _, rfl, _, rfl, p, 6, rfl, pj, by omega, fun j H4 b4 p4 hj => ?_⟩
      refine ⟨_, _, rfl, rfl, .inl (by decide), _, rfl, _, _, rfl, rfl, .inl (by decide), _, _, rfl, rfl, _, _, rfl, rfl, (by show (0 : Int) < 4; decide), _, _, rfl, rfl, ?_⟩
      have hidx : 0 ≤ 4 * j + (3 * (0 + (i : Int)) + 1) % 4 ∧ 4 * j + (3 * (0 + (i : Int)) + 1) % 4 < 26 := by omega
      have ln : nm.length ≤ 2 := by rw [str_len, j1]; omega
      refine ⟨_, 4 * j + (3 * (0 + (i : Int)) + 1) % 4, _, rfl, rfl, (by decide +kernel), let26 hidx, _, _, rfl, rfl, by rw [sizeLine_eq]; show nm.length + 1 ≤ _; omega, ?_⟩
      generalize hcode : 97 + (4 * j + (3 * (0 + (i : Int)) + 1) % 4).toNat = cd
      have en : (nm ++ (⟨#[cd]⟩ : Str)).cps.toList = nm.cps.toList ++ [cd] := TL.tl_append nm ⟨#[cd]⟩
      have nok : NameOk (nm ++ (⟨#[cd]⟩ : Str)) := by
        refine ⟨by rw [str_len, en, List.length_append]; simp, by rw [str_len, en, List.length_append, j1]; simp; omega, fun c hc => ?_⟩
        rw [en] at hc
        rcases List.mem_append.mp hc with hc | hc
        · exact j2 c hc
        · rw [List.mem_singleton.mp hc]
          omega
      have nen : EndsL (nm ++ (⟨#[cd]⟩ : Str)) i := ⟨_, cd, en, by omega, by omega⟩
      generalize nm ++ (⟨#[cd]⟩ : Str) = nm2 at nok nen ⊢
      refine ⟨_, rfl, p, 3, rfl, p4, by omega, fun ch H5 b5 p5 hch => ⟨_, _, rfl, rfl, ?_⟩⟩
      have b25 : But p H' H5 := ((b2.trans bj).trans b4).trans b5
      refine ⟨_, rfl, .inl ⟨rfl, _, .of (b25 _ _ nlp hl)⟩, _, rfl, _, rfl, _, rfl, _, rfl, _, rfl, p, many, coins, rfl, p5, hmany, hcoins, fun v rs H6 b6 p6 d6 ok cc cl mx => ⟨(by show 3 ≤ sizeLine; decide), fun t nt => ?_⟩⟩
      have b26 := b25.trans b6
      have s7 := same_new (o := .tup [.str nm2, .int (1 + ch), v]) nt
      have b27 : But p H' (upd H6 t (.tup [.str nm2, .int (1 + ch), v])) := b26.trans (same_but s7)
      have dd : Dp K (upd H6 t (.tup [.str nm2, .int (1 + ch), v])) (.ref t) (deedD (nm2, 1 + ch, rs)) := .tup (.of upd_same) (.cons (.str _) (.cons (.int _) (.cons (dp_same s7 d6) .nil)))
      have hl7 := b27 _ _ nlp hl
      have p7 := p6.same s7
      generalize upd H6 t (.tup [.str nm2, .int (1 + ch), v]) = H7 at s7 b27 dd hl7 p7 ⊢
      have bb : But l H7 (upd H7 l (.lst (ys ++ [.ref t]))) := But.upd
      refine ⟨l, ys, _, rfl, rfl, hl7, by rw [sizeLine_eq]; omega, _, _, _, _, ys ++ [.ref t], ds ++ [(nm2, 1 + ch, rs)], rfl, fun a o h e => bb _ _ (ne_of_none e nl) (b27 _ _ h (bt _ _ h e)), p7.but (Ne.symm nlp) bb, upd_same, ?_, by simp [hlen], fun d hd => ?_, fun a d hd => ?_⟩
      · rw [List.map_append]
        exact dps_app (dps_but (.lst hl7) bb (dps_but pt.ch b27 hys (deeds_noL ds)) (deeds_noL ds)) (.cons (dp_but (.lst hl7) bb dd (deed_noL _)) .nil)
      · rcases List.mem_append.mp hd with h | h
        · exact hds d h
        · rw [List.mem_singleton.mp h]
          exact ⟨⟨⟨nok, ⟨by show 1 ≤ 1 + ch; omega, by show 1 + ch ≤ 9; omega⟩, ok, cc.1, cl⟩, mx⟩, cc.2⟩
      · by_cases c : a < ds.length
        · rw [List.getElem?_append_left c] at hd
          exact hen a d hd
        · rw [List.getElem?_append_right (by omega)] at hd
          have e0 : a - ds.length = 0 := by
            cases h : a - ds.length with
            | zero => rfl
            | succ k => rw [h] at hd; simp at hd
          rw [e0] at hd
          cases (Option.some.inj hd)
          have : a = i := by omega
          rw [this]
          exact nen
  · rintro σ' H' ⟨_, _, _, _, ys, ds, rfl, bt, pt, hl, hys, hlen, hds, hen⟩
    refine ⟨_, rfl, q l ys ds H' bt pt nl nlp hl hys ⟨by omega, by omega⟩ (fun d hd => (hds d hd).1) ?_ (fun z d hd => (hds d hd).2 z)⟩
    refine List.pairwise_iff_getElem.mpr fun a b ha hb hab => ?_
    rw [List.length_map] at ha hb
    rw [List.getElem_map, List.getElem_map]
    exact (hen a _ (List.getElem?_eq_getElem ha)).ne (hen b _ (List.getElem?_eq_getElem hb)) (by omega) (by omega) (by omega)
end

end M

set_option Elab.async false
set_option linter.all false
set_option maxRecDepth 100000
set_option maxHeartbeats 2000000
namespace M
open PySem PySem.Spec PyProof.Rows L2

theorem ix_tupK {X : Cx} (K : PySem.W.Frag) (hK : X.K = K) : IxR X (rIxT K) := hK ▸ ix_tup
section
variable {P : Program} {w : World} {K : PySem.W.Frag} {mg : Str → Option Value} {base : Heap}
/-! ### the calls of some deeds -/
def spCallsL (K : PySem.W.Frag) : Sp := fun vs H Q _ => ∃ (a : Addr) (xs : List V) (ds : List (Str × Int × List Row)), vs = [.ref a] ∧ SqL K H a xs ∧ DpAll K H xs (ds.map deedD) ∧ (1 ≤ ds.length ∧ ds.length ≤ 8) ∧ (∀ d ∈ ds, 1 ≤ d.2.1 ∧ d.2.1 ≤ 9) ∧
  ∀ (l : Addr) (ys : List V) (cs : List (Str × Int)) (H' : Hp), Same H H' → H' l = some (.lst ys) → TupsAt H' ys cs → (1 ≤ cs.length ∧ cs.length ≤ 72) → (∀ c ∈ cs, ∃ d ∈ ds, c.1 = d.1 ∧ 0 ≤ c.2 ∧ c.2 < d.2.1) → Q (.ref l) H'
theorem ca_l_calls (T : Txt w K mg) : Ca P w K mg base 1 "_law_calls" (spCallsL K) := by
  refine ca_of (N := ["_law_deeds_here", "_law_calls_here", "_law_deed", "_law_argument"]) (ps := ["_law_deeds_here"]) T.f_l_calls T.g_law_calls ⟨rfl, rfl, rfl, by decide +kernel, rfl, by decide +kernel, by decide +kernel⟩ (fun _ _ _ _ _ _ us hl => match us, hl with | [_], _ => rfl)
    (fun vs H Q E h => by obtain ⟨a, xs, ds, rfl, ha, hxs, hl8, hch, q⟩ := h; rfl) (fun cdv A outer s H vs Q E hr h => ?_)
  have nd : (["_law_deeds_here", "_law_calls_here", "_law_deed", "_law_argument"] : List Str).Nodup := by decide +kernel
  obtain ⟨a, xs, ds, rfl, ha, hxs, hl8, hch, q⟩ := h
  refine ⟨_, (pss_cons (ps_set (i := 1) nd rfl (.inl rfl) (pe_lst pa_nil))
      (pss_cons (ps_for PassesOwn.never rfl (pi_list (pv 0)) (pg_name (i := 2) nd rfl (.inl rfl)) (pss_one (ps_for PassesOwn.never rfl (pi_range1 rfl T.b_range (pa_cons (pe_ix ix_tup (pv 2) pe_int (fun _ _ => rfl)) pa_nil)) (pg_name (i := 3) nd rfl (.inl rfl)) (pss_one (ps_expr (pe_bm PySem.F.plainAttrs_list PySem.F.slot_list_append PySem.F.type_list_append mt_append (pv 1) (pa_cons (pe_tup (pa_cons (pe_ix ix_tup (pv 2) pe_int (fun _ _ => rfl)) (pa_cons (pv 3) pa_nil))) pa_nil)))))))
      (pss_one (ps_ret (pv 1))))), ?_⟩
  have lxs : xs.length = ds.length := by rw [dps_len hxs, List.length_map]
  refine ⟨(by show 0 ≤ sizeLine; exact Nat.zero_le _), fun l nl => ?_⟩
  have s0 : Same H (upd H l (.lst [])) := same_new nl
  refine ⟨_, rfl, a, rfl, ⟨_, s0.seq ha⟩, for_list (xs := xs) (fun i σ' H' => ∃ (x y : Option V) (ys : List V) (cs : List (Str × Int)), σ' = [some (.ref a), some (.ref l), x, y] ∧ Same H H' ∧ H' l = some (.lst ys) ∧ TupsAt H' ys cs ∧ (i ≤ cs.length ∧ cs.length ≤ 9 * i) ∧ ∀ c ∈ cs, ∃ d ∈ ds, c.1 = d.1 ∧ 0 ≤ c.2 ∧ c.2 < d.2.1) ⟨none, none, [], [], rfl, s0, upd_same, trivial, ⟨Nat.le_refl 0, Nat.le_refl 0⟩, fun c h => nomatch h⟩ (fun i σ' H' _ ⟨_, _, _, _, _, s, _⟩ => s.seq ha) ?_ ?_⟩
  · rintro i x σ' H' hx ⟨_, _, ys, cs, rfl, s1, hl, hys, hcl, hcs⟩
    obtain ⟨dd, hdd, hxd⟩ := dps_get hxs hx
    obtain ⟨d, hd, rfl⟩ := get_mapA hdd
    have hmem := List.mem_of_getElem? hd
    have hi : i < ds.length := (List.getElem?_eq_some_iff.mp hd).1
    obtain ⟨t, x1, x2, x3, rfl, ht, e1, e2, e3⟩ := dp3 hxd
    cases dp_str e1
    cases dp_int e2
    have c9 := hch d hmem
    refine ⟨_, rfl, _, _, _, _, rfl, rfl, same_t s1 ht, at1, d.2.1, rfl, by omega, by omega, for_it (n := d.2.1.toNat) walk_range (fun j σ' H2 => ∃ (y : Option V) (ys : List V) (cs2 : List (Str × Int)), σ' = [some (.ref a), some (.ref l), some (.ref t), y] ∧ Same H H2 ∧ H2 l = some (.lst ys) ∧ TupsAt H2 ys cs2 ∧ cs2.length = cs.length + j ∧ ∀ c ∈ cs2, ∃ d ∈ ds, c.1 = d.1 ∧ 0 ≤ c.2 ∧ c.2 < d.2.1) ⟨_, ys, cs, rfl, s1, hl, hys, rfl, hcs⟩ (fun _ _ _ _ _ => trivial) ?_ ?_⟩
    · rintro j z σ' H0 H2 hj ⟨_, ys2, cs2, rfl, s2, hl2, hys2, hlen, hcs2⟩ ⟨rfl, rfl⟩
      have ly := tups_len hys2
      refine ⟨_, rfl, .inl ⟨rfl, _, .of hl2⟩, _, rfl, _, _, _, _, rfl, rfl, same_t s2 ht, at0, _, rfl, (by show 2 ≤ sizeLine; decide), fun u nu => ?_⟩
      have s3 := same_new (o := .tup [.str d.1, .int (0 + (j : Int))]) nu
      have hl3 := s3 _ _ hl2
      have hu3 : upd H2 u (.tup [.str d.1, .int (0 + (j : Int))]) u = some (.tup [.str d.1, .int (0 + (j : Int))]) := upd_same
      have hy3 := tups_same s3 hys2
      have s23 := s2.trans s3
      generalize upd H2 u (.tup [.str d.1, .int (0 + (j : Int))]) = H3 at s3 hl3 hu3 hy3 s23 ⊢
      have bb : But l H3 (upd H3 l (.lst (ys2 ++ [.ref u]))) := But.upd
      refine ⟨l, ys2, _, rfl, rfl, hl3, by rw [sizeLine_eq]; omega, _, ys2 ++ [.ref u], cs2 ++ [(d.1, 0 + (j : Int))], rfl, fun b o e => bb _ _ (ne_of_none e nl) (s23 _ _ e), upd_same, tups_but (.lst hl3) bb (tups_snoc (c := (d.1, 0 + (j : Int))) hu3 hy3), by simp [hlen]; omega, fun c hc => ?_⟩
      rcases List.mem_append.mp hc with h | h
      · exact hcs2 c h
      · rw [List.mem_singleton.mp h]
        exact ⟨d, hmem, rfl, by show 0 ≤ 0 + (j : Int); omega, by show 0 + (j : Int) < d.2.1; omega⟩
    · rintro σ' H2 ⟨_, ys2, cs2, rfl, s2, hl2, hys2, hlen, hcs2⟩
      exact ⟨_, _, ys2, cs2, rfl, s2, hl2, hys2, ⟨by omega, by omega⟩, hcs2⟩
  · rintro σ' H' ⟨_, _, ys, cs, rfl, s1, hl, hys, hcl, hcs⟩
    exact ⟨_, rfl, q l ys cs H' s1 hl hys ⟨by omega, by omega⟩ hcs⟩
/-! ### a call by the law's own walker -/
/-- the registers at the beginning -/
def spCallX (K : PySem.W.Frag) : Sp := fun vs H Q _ => ∃ (ca da ba ta fa : Addr) (cxs dxs : List V) (cs : List (Int × Int)) (ds : List (Str × Int × List Row)) (hs fs : List Int) (d : Str × Int × List Row) (arg : Int), vs = [.ref ca, .ref da, .ref ba, .ref ta, .ref fa] ∧ SqL K H ca cxs ∧ DpAll K H cxs (cs.map cellD) ∧ SqL K H da dxs ∧ DpAll K H dxs (ds.map deedD) ∧
  ((ds.map (·.1)).Nodup ∧ cs.length ≤ 6 ∧ ds.length ≤ 8) ∧ d ∈ ds ∧ SqT K H ba (hs.map .int) ∧ H ta = some (.tup [.str d.1, .int arg]) ∧ SqL K H fa (fs.map .int) ∧ MOk (mst0 (codeOf d.2.2) (cs.map (·.1)) hs fs arg) ∧ rowsOk hs.length 1 0 d.2.2 ∧ mxs d.2.2 ≤ 200000 ∧ fs.length ≤ 4 ∧
  (∀ (z cz tz : Addr) (ys : List V) (s : Mst) (o : Option Int) (t : List PyData) (H' : Hp), Same H H' → RowsS d.2.2 (mst0 (codeOf d.2.2) (cs.map (·.1)) hs fs arg) s o t → H' z = some (.tup [.int (o.getD 0), .ref cz, .ref tz, .int s.fallen]) → H' cz = some (.tup (s.cells.map .int)) → H' tz = some (.lst ys) → DpAll K H' ys t → Q (.ref z) H') ∧
  ∀ (z cz tz : Addr) (m : Int) (H' : Hp), Same H H' → RowsO d.2.2 (mst0 (codeOf d.2.2) (cs.map (·.1)) hs fs arg) → H' z = some (.tup [.int (-1), .ref cz, .ref tz, .int m]) → Q (.ref z) H'
theorem ca_l_call (T : Txt w K mg) : Ca P w K mg base 24 "_law_call" (spCallX K) := by
  refine ca_of (N := ["_law_cells_here", "_law_deeds_here", "_law_state", "_law_call_here", "_law_falls", "_law_cell", "_law_sizes", "_law_deed", "_law_rows_here", "_law_held", "_law_now", "_law_left", "_law_trace", "_law_answer"]) (ps := ["_law_cells_here", "_law_deeds_here", "_law_state", "_law_call_here", "_law_falls"]) T.f_l_call T.g_law_call ⟨rfl, rfl, rfl, by decide +kernel, rfl, by decide +kernel, by decide +kernel⟩ (fun _ _ _ _ _ _ us hl => match us, hl with | [_, _, _, _, _], _ => rfl)
    (fun vs H Q E h => by obtain ⟨ca, da, ba, ta, fa, cxs, dxs, cs, ds, hs, fs, d, arg, rfl, hca, hcx, hda, hdx, ⟨nds, hc6, hd8⟩, hd, hba, hta, hfa, m0, ok, hmx, hf4, q, qo⟩ := h; rfl) (fun cdv A outer s H vs Q E hr h => ?_)
  have nd : (["_law_cells_here", "_law_deeds_here", "_law_state", "_law_call_here", "_law_falls", "_law_cell", "_law_sizes", "_law_deed", "_law_rows_here", "_law_held", "_law_now", "_law_left", "_law_trace", "_law_answer"] : List Str).Nodup := by decide +kernel
  obtain ⟨ca, da, ba, ta, fa, cxs, dxs, cs, ds, hs, fs, d, arg, rfl, hca, hcx, hda, hdx, ⟨nds, hc6, hd8⟩, hd, hba, hta, hfa, m0, ok, hmx, hf4, q, qo⟩ := h
  refine ⟨_, (pss_cons (ps_setLc (i := 6) (own := [("_law_cell", 5)]) (tt := tYes) rfl nd rfl rfl (by rfl) (pi_list (pv 0)) (blkOk_by (N := ["_law_cells_here", "_law_deeds_here", "_law_state", "_law_call_here", "_law_falls", "_law_cell", "_law_sizes", "_law_deed", "_law_rows_here", "_law_held", "_law_now", "_law_left", "_law_trace", "_law_answer"]) (sc := defScope s_l_call) (by decide +kernel)) (fun _ _ _ _ _ => pg_name (i := 5) nd rfl (.inl rfl)) (fun _ _ _ _ _ => pts_nil) (fun _ _ _ _ _ => pe_ix (ix_tupK K rfl) (pv 5) pe_int (fun _ _ => rfl)))
      (pss_cons (ps_set (i := 8) nd rfl (.inl rfl) (pe_ix ix_list (pe_lc (own := [("_law_deed", 7)]) rfl nd (pi_list (pv 1)) (blkOk_by (N := ["_law_cells_here", "_law_deeds_here", "_law_state", "_law_call_here", "_law_falls", "_law_cell", "_law_sizes", "_law_deed", "_law_rows_here", "_law_held", "_law_now", "_law_left", "_law_trace", "_law_answer"]) (sc := defScope s_l_call) (by decide +kernel)) (fun _ _ _ _ _ => pg_name (i := 7) nd rfl (.inl rfl)) (fun _ _ _ _ _ => pts_one (pt_cmpR op_eq (pe_ix (ix_tupK K rfl) (pv 7) pe_int (fun _ _ => rfl)) (pe_ix (ix_tupK K rfl) (pv 3) pe_int (fun _ _ => rfl)) (nomark _))) (fun _ _ _ _ _ => pe_ix (ix_tupK K rfl) (pv 7) pe_int (fun _ _ => rfl))) pe_int (fun _ _ => rfl)))
      (pss_cons (ps_set (i := 9) nd rfl (.inl rfl) (pe_disp (pps_cons pe_str pe_int (pps_cons pe_str pe_int (pps_cons pe_str pe_int (pps_cons pe_str pe_int (pps_cons pe_str (pe_ix ix_tup (pv 3) pe_int (fun _ _ => rfl)) pps_nil))))) rfl rfl (List.cons_ne_nil _ _) (by decide)))
      (pss_cons (ps_set (i := 10) nd rfl (.inl rfl) (pe_callTy call_list_of (by rfl) T.b_list boot_list (pa_cons (pv 2) pa_nil)))
      (pss_cons (ps_set (i := 11) nd rfl (.inl rfl) (pe_callTy call_list_of (by rfl) T.b_list boot_list (pa_cons (pv 4) pa_nil)))
      (pss_cons (ps_set (i := 12) nd rfl (.inl rfl) (pe_lst pa_nil))
      (pss_cons (ps_set (i := 13) nd rfl (.inl rfl) (pe_ca (ca_l_doX T 13) hr (pa_cons (pv 8) (pa_cons (pv 6) (pa_cons (pv 10) (pa_cons (pv 9) (pa_cons (pv 11) (pa_cons (pv 12) pa_nil))))))))
      (pss_cons (ps_if (pt_cmp (pc_isN (pv 13))) (pss_one (ps_set (i := 13) nd rfl (.inl rfl) pe_int)) pss_nil)
      (pss_one (ps_ret (pe_tup (pa_cons (pv 13) (pa_cons (pe_tupleOf (by rfl) T.b_tuple (pv 10)) (pa_cons (pv 12) (pa_cons (pe_op op_sub (pe_callB call_len_seq (by rfl) T.b_len PySem.boot_len (pa_cons (pv 4) pa_nil)) (pe_callB call_len_seq (by rfl) T.b_len PySem.boot_len (pa_cons (pv 11) pa_nil))) pa_nil))))))))))))))), ?_⟩
  have lcx : cxs.length = cs.length := by rw [dps_len hcx, List.length_map]
  have ldx : dxs.length = ds.length := by rw [dps_len hdx, List.length_map]
  refine ⟨_, rfl, ca, rfl, ⟨_, hca⟩, fun D nD => ?_⟩
  refine lc_out (n := cxs.length) walk_list nD (by omega) (fun i y H => ∃ c, cs[i]? = some c ∧ y = .int c.1) (fun _ _ _ _ _ _ h => h) (fun H' s => s.seq hca) (fun i x H' H2 N F hi s y k => ?_) (fun H1 zs s1 hD el hr => ?_)
  · obtain ⟨rfl, ex⟩ := y
    obtain ⟨dd, ed, hdd⟩ := dps_get hcx ex
    obtain ⟨cc, ec, rfl⟩ := get_mapA ed
    obtain ⟨t, x1, x2, rfl, ht, e1, e2⟩ := dp2 (dp_same s hdd)
    cases dp_int e1
    exact ⟨rfl, iteT ⟨_, rfl, _, _, _, _, rfl, rfl, ht, at0, k _ _ (Same.refl _) ⟨cc, ec, rfl⟩⟩⟩
  have em : zs = (cs.map (·.1)).map V.int := by
    rw [List.map_map]
    exact map_of (by omega) fun i y e => by
      obtain ⟨c, h1, h2⟩ := hr i y e
      exact ⟨c, h1, h2⟩
  subst em
  clear hr el
  obtain ⟨j, hjl, hje⟩ := List.mem_iff_getElem.mp hd
  have hj : ds[j]? = some d := by rw [List.getElem?_eq_getElem hjl, hje]
  refine ⟨_, rfl, da, rfl, ⟨_, s1.seq hda⟩, fun D2 nD2 => ?_⟩
  refine lc_it (n := dxs.length) walk_list (fun i J => Same H1 J ∧ ∃ ys, J D2 = some (.lst ys) ∧ (i ≤ j → ys = []) ∧ (j < i → ∃ v, ys = [v] ∧ Dp K J v (.tuple (rowsD d.2.2)))) ⟨same_new nD2, [], upd_same, fun _ => rfl, fun h => by omega⟩ (fun i J _ ⟨s, _⟩ => (s1.trans s).seq hda) ?_ ?_
  · rintro i x J J2 hi ⟨s2, ys, hD2, h1, h2⟩ ⟨rfl, ex⟩
    obtain ⟨dd, ed, hdd⟩ := dps_get hdx ex
    obtain ⟨d', ed', rfl⟩ := get_mapA ed
    obtain ⟨t, x1, x2, x3, rfl, ht, e1, e2, e3⟩ := dp3 (dp_same (s1.trans s2) hdd)
    cases dp_str e1
    refine ⟨rfl, _, rfl, _, _, _, _, rfl, rfl, ht, at0, _, rfl, _, _, _, _, rfl, rfl, .of ((s1.trans s2) _ _ hta), at0, rfl, ?_⟩
    have bb : But D2 J2 (upd J2 D2 (.lst (ys ++ [x3]))) := But.upd
    by_cases en : d'.1 = d.1
    · have ij : i = j := nd_ixG nds (x := d.1) (i := i) (j := j) (by rw [List.getElem?_map, ed']; show some d'.1 = _; rw [en]) (by rw [List.getElem?_map, hj]; rfl)
      subst ij
      rw [hj] at ed'
      cases (Option.some.inj ed')
      rw [decide_eq_true (show V.str d.1 = V.str d.1 from rfl)]
      have ey := h1 (Nat.le_refl _)
      subst ey
      refine ⟨_, rfl, iteT ⟨_, rfl, _, _, _, _, rfl, rfl, ht, at2, [], hD2, (by show 0 < sizeLine; decide), fun b o e => bb _ _ (ne_of_none e nD2) (s2 _ _ e), [x3], upd_same, fun h => by omega, fun _ => ⟨x3, rfl, dp_but (.lst hD2) bb e3 (.tup (rows_noL _))⟩⟩⟩
    · rw [decide_eq_false (show ¬ V.str d'.1 = V.str d.1 from fun z => en (V.str.inj z))]
      have ij : i ≠ j := fun e => by
        subst e
        rw [hj] at ed'
        cases (Option.some.inj ed')
        exact en rfl
      exact ⟨_, rfl, iteF ⟨s2, ys, hD2, fun h => h1 (by omega), fun h => h2 (by omega)⟩⟩
  rintro H2 ⟨s2, ys, hD2, _, h2⟩
  obtain ⟨v, rfl, dv⟩ := h2 (by omega)
  refine ⟨D2, _, _, _, rfl, rfl, .of hD2, at0, ?_⟩
  have s02 := s1.trans s2
  have hD' := s2 _ _ hD
  -- the registers
  refine fun HD nHD => ⟨_, rfl, _, _, _, _, rfl, rfl, .of (same_new nHD _ _ (s02 _ _ hta)), at1, upd_same, [kS "a" (.int 0), kS "b" (.int 0), kS "c" (.int 0), kS "d" (.int 0), kS "x" (.int arg)], rfl, (by show 5 ≤ 15; decide), ?_⟩
  rw [upd_upd, held_disp]
  have s3 : Same H2 (upd H2 HD (.dK (heldK (r0 arg)))) := same_new nHD
  have hHD : upd H2 HD (.dK (heldK (r0 arg))) HD = some (.dK (heldK (r0 arg))) := upd_same
  generalize upd H2 HD (.dK (heldK (r0 arg))) = H3 at s3 hHD ⊢
  have s03 := s02.trans s3
  refine ⟨_, rfl, ba, _, rfl, .inr (same_t s03 hba), fun l nl => ?_⟩
  have s4 : Same H3 (upd H3 l (.lst (hs.map V.int))) := same_new nl
  have hl4 : upd H3 l (.lst (hs.map V.int)) l = some (.lst (hs.map V.int)) := upd_same
  generalize upd H3 l (.lst (hs.map V.int)) = H4 at s4 hl4 ⊢
  have s04 := s03.trans s4
  refine ⟨_, rfl, fa, _, rfl, .inl (s04.seq hfa), fun n nn => ?_⟩
  have s5 : Same H4 (upd H4 n (.lst (fs.map V.int))) := same_new nn
  have hn5 : upd H4 n (.lst (fs.map V.int)) n = some (.lst (fs.map V.int)) := upd_same
  generalize upd H4 n (.lst (fs.map V.int)) = H5 at s5 hn5 ⊢
  refine ⟨(by show 0 ≤ sizeLine; exact Nat.zero_le _), fun tr ntr => ?_⟩
  have s6 : Same H5 (upd H5 tr (.lst [])) := same_new ntr
  have ht6 : upd H5 tr (.lst []) tr = some (.lst []) := upd_same
  generalize upd H5 tr (.lst []) = H6 at s6 ht6 ⊢
  have s46 := s5.trans s6
  have s36 := s4.trans s46
  have s26 := s3.trans s36
  have s06 := s02.trans s26
  have n0l : H l = none := none_of s03 nl
  have n0n : H n = none := none_of s04 nn
  have n0t : H tr = none := none_of (s04.trans s5) ntr
  have n0h : H HD = none := none_of s02 nHD
  have wk : Wkr K H6 ⟨D, l, HD, n, tr⟩ (mst0 (codeOf d.2.2) (cs.map (·.1)) hs fs arg) [] := ⟨(s2.trans s26) _ _ hD, s46 _ _ hl4, s36 _ _ hHD, s6 _ _ hn5, ⟨[], ht6, .nil⟩, (fun d h => nomatch h),
    ⟨ne_of_none ((s2.trans s3) _ _ hD) nl, ne_of_none (((s2.trans s3).trans s4) _ _ hD) nn, ne_of_none ((((s2.trans s3).trans s4).trans s5) _ _ hD) ntr⟩, ⟨ne_of_none hl4 nn, ne_of_none (s5 _ _ hl4) ntr, ne_of_none hn5 ntr⟩⟩
  refine ⟨_, rfl, _, rfl, _, rfl, _, rfl, _, rfl, _, rfl, v, ⟨D, l, HD, n, tr⟩, d.2.2, mst0 (codeOf d.2.2) (cs.map (·.1)) hs fs arg, [], 1, 0, rfl, dp_same s26 dv, ok, by decide, m0, wk, ⟨by show (0 : Int) ≤ 0; decide, by show (0 : Int) ≤ ((fs.length : Nat) : Int); omega⟩, by show 0 + _ ≤ _; omega, fun H7 s o u bw rs wk7 => ?_, fun H7 s t' bw rs wk7 => ?_⟩
  · have af := aft_rows rs ok m0
    have s07 : Same H H7 := fun b o e => bw _ _ (ne_of_none e n0l) (ne_of_none e n0h) (ne_of_none e n0n) (ne_of_none e n0t) (s06 _ _ e)
    obtain ⟨ys, hty, dys⟩ := wk7.tr
    have hfc : s.coins = fs := af.co
    have hfl : (0 : Int) ≤ s.fallen ∧ s.fallen ≤ fs.length := ⟨af.f0, by have h1 := fell_rows rs (by show (0 : Int) ≤ ((fs.length : Nat) : Int); omega); rw [hfc] at h1; exact h1⟩
    have fin : ∀ (e : Int), e = s.fallen → ∀ (u1 : Addr), H7 u1 = none → ∀ z, upd H7 u1 (.tup (s.cells.map V.int)) z = none → Q (.ref z) (upd (upd H7 u1 (.tup (s.cells.map V.int))) z (.tup [.int (o.getD 0), .ref u1, .ref tr, .int e])) := fun e ee u1 nu1 z nz => by
      subst ee
      have t1 := same_new (o := .tup (s.cells.map V.int)) nu1
      have t2 := same_new (o := .tup [.int (o.getD 0), .ref u1, .ref tr, .int s.fallen]) nz
      exact q z u1 tr ys s o u _ (s07.trans (t1.trans t2)) rs upd_same (t2 _ _ upd_same) ((t1.trans t2) _ _ hty) (dps_same (t1.trans t2) dys)
    have elen : ((fs.map V.int).length : Int) - (((s.coins.drop s.fallen.toNat).map V.int).length : Int) = s.fallen := by
      rw [List.length_map, List.length_map, List.length_drop, hfc]
      omega
    cases o with
    | none =>
      refine ⟨_, rfl, _, rfl, iteT ?_⟩
      refine ⟨_, rfl, _, rfl, .inl ⟨l, _, rfl, .of wk7.ce, fun u1 nu1 => ?_⟩⟩
      have t1 := same_new (o := .tup (s.cells.map V.int)) nu1
      refine ⟨_, rfl, _, rfl, _, _, rfl, .inl ((s07.trans t1).seq hfa), _, rfl, _, _, rfl, .inl (.of (t1 _ _ wk7.fa)), _, _, rfl, rfl, (by show 4 ≤ sizeLine; decide), fun z nz => ?_⟩
      exact fin _ elen u1 nu1 z nz
    | some r =>
      refine ⟨_, rfl, _, rfl, iteF ?_⟩
      refine ⟨_, rfl, _, rfl, .inl ⟨l, _, rfl, .of wk7.ce, fun u1 nu1 => ?_⟩⟩
      have t1 := same_new (o := .tup (s.cells.map V.int)) nu1
      refine ⟨_, rfl, _, rfl, _, _, rfl, .inl ((s07.trans t1).seq hfa), _, rfl, _, _, rfl, .inl (.of (t1 _ _ wk7.fa)), _, _, rfl, rfl, (by show 4 ≤ sizeLine; decide), fun z nz => ?_⟩
      exact fin _ elen u1 nu1 z nz
  · have s07 : Same H H7 := fun b o e => bw _ _ (ne_of_none e n0l) (ne_of_none e n0h) (ne_of_none e n0n) (ne_of_none e n0t) (s06 _ _ e)
    refine ⟨_, rfl, _, rfl, iteF ?_⟩
    refine ⟨_, rfl, _, rfl, .inl ⟨l, _, rfl, .of wk7.ce, fun u1 nu1 => ?_⟩⟩
    have t1 := same_new (o := .tup (s.cells.map V.int)) nu1
    refine ⟨_, rfl, _, rfl, _, _, rfl, .inl ((s07.trans t1).seq hfa), _, rfl, _, _, rfl, .inl (.of (t1 _ _ wk7.fa)), _, _, rfl, rfl, (by show 4 ≤ sizeLine; decide), fun z nz => ?_⟩
    exact qo z u1 tr _ _ ((s07.trans t1).trans (same_new nz)) rs upd_same
/-- with coins enough -/
def spCallL (K : PySem.W.Frag) : Sp := fun vs H Q _ => ∃ (ca da ba ta fa : Addr) (cxs dxs : List V) (cs : List (Int × Int)) (ds : List (Str × Int × List Row)) (hs fs : List Int) (d : Str × Int × List Row) (arg : Int), vs = [.ref ca, .ref da, .ref ba, .ref ta, .ref fa] ∧ SqL K H ca cxs ∧ DpAll K H cxs (cs.map cellD) ∧ SqL K H da dxs ∧ DpAll K H dxs (ds.map deedD) ∧
  ((ds.map (·.1)).Nodup ∧ cs.length ≤ 6 ∧ ds.length ≤ 8) ∧ d ∈ ds ∧ SqT K H ba (hs.map .int) ∧ H ta = some (.tup [.str d.1, .int arg]) ∧ SqL K H fa (fs.map .int) ∧ MOk (mst0 (codeOf d.2.2) (cs.map (·.1)) hs fs arg) ∧ rowsOk hs.length 1 0 d.2.2 ∧ rowsCc d.2.2 ≤ fs.length ∧ mxs d.2.2 ≤ 200000 ∧ fs.length ≤ 4 ∧
  ∀ (z cz tz : Addr) (ys : List V) (s : Mst) (o : Option Int) (t : List PyData) (H' : Hp), Same H H' → RowsS d.2.2 (mst0 (codeOf d.2.2) (cs.map (·.1)) hs fs arg) s o t → H' z = some (.tup [.int (o.getD 0), .ref cz, .ref tz, .int s.fallen]) → H' cz = some (.tup (s.cells.map .int)) → H' tz = some (.lst ys) → DpAll K H' ys t → Q (.ref z) H'
theorem ca_l_callL (T : Txt w K mg) : Ca P w K mg base 24 "_law_call" (spCallL K) := (ca_l_call T).imp fun vs H Q E ⟨ca, da, ba, ta, fa, cxs, dxs, cs, ds, hs, fs, d, arg, e, h1, h2, h3, h4, h5, h6, h7, h8, h9, m0, ok, hcc, hmx, hf4, q⟩ =>
  ⟨ca, da, ba, ta, fa, cxs, dxs, cs, ds, hs, fs, d, arg, e, h1, h2, h3, h4, h5, h6, h7, h8, h9, m0, ok, hmx, hf4, q, fun _ _ _ _ _ _ r _ => by
    have h : ((fs.length : Nat) : Int) < 0 + ((rowsCc d.2.2 : Nat) : Int) := out_ccs r ok m0
    omega⟩
end

end M

set_option Elab.async false
set_option linter.all false
set_option maxRecDepth 100000
set_option maxHeartbeats 2000000
namespace M
open PySem PySem.Spec PyProof.Rows L2

/-! ### pasts: parted, put together, the same again -/
theorem fin_det : ∀ {n m : Nat} {st s1 s2 : Mst}, Fin n st s1 → Fin m st s2 → s1 = s2
  | _, _, _, _, _, .stop _, .stop _ => rfl
  | _, _, _, _, _, .stop h, .step h2 _ _ _ _ => by rw [h] at h2; cases h2
  | _, _, _, _, _, .step h _ _ _ _, .stop h2 => by rw [h] at h2; cases h2
  | _, _, _, _, _, .step _ _ hf _ r, .step _ _ hf2 _ r2 => by
    rw [hf] at hf2
    cases (Option.some.inj hf2)
    exact fin_det r r2
theorem way1_det {code : List FR} {sides hs cs1 cs2 : List Int} {a r1 r2 : Int} (h : Way1 code sides hs a r1 cs1) (k : Way1 code sides hs a r2 cs2) : r1 = r2 ∧ cs1 = cs2 := by
  obtain ⟨n, s, f, e1, e2⟩ := h
  obtain ⟨m, t, g, e3, e4⟩ := k
  cases fin_det f g
  rw [e1] at e3
  exact ⟨Option.some.inj e3, e2.symm.trans e4⟩
theorem past_det {v : Vlt} (nd : (v.deeds.map (·.1)).Nodup) : ∀ {cs : List (Str × Int)} {hs rs rs' hs2 hs2' : List Int}, PastM v hs cs rs hs2 → PastM v hs cs rs' hs2' → rs = rs' ∧ hs2 = hs2' := by
  intro cs
  induction cs with
  | nil =>
    intro hs rs rs' hs2 hs2' h k
    cases h
    cases k
    exact ⟨rfl, rfl⟩
  | cons c cs ih =>
    intro hs rs rs' hs2 hs2' h k
    generalize ec : c :: cs = l at h k
    cases h with
    | nil => cases ec
    | @cons _ h1 _ a r _ rs1 d hd ar so w1 k1 =>
    injection ec with e1 e2
    generalize el : (d.1, a) :: _ = l2 at k
    cases k with
    | nil => cases el
    | @cons _ h1' _ a' r' _ rs1' d' hd' ar' so' w1' k1' =>
    injection el with e3 e4
    injection e3 with e5 e6
    subst e6
    cases deed_eq nd hd hd' e5
    obtain ⟨e7, e8⟩ := way1_det w1 w1'
    subst e7
    subst e8
    subst e2
    subst e4
    obtain ⟨e9, e10⟩ := ih k1 k1'
    exact ⟨by rw [e9], e10⟩
theorem past_len {v : Vlt} : ∀ {cs : List (Str × Int)} {hs rs hs2 : List Int}, PastM v hs cs rs hs2 → rs.length = cs.length
  | _, _, _, _, .nil => rfl
  | _, _, _, _, .cons _ _ _ _ k => congrArg (· + 1) (past_len k)
theorem past_app {v : Vlt} : ∀ {cs ds : List (Str × Int)} {hs rs h1 us h2 : List Int}, PastM v hs cs rs h1 → PastM v h1 ds us h2 → PastM v hs (cs ++ ds) (rs ++ us) h2
  | _, _, _, _, _, _, _, .nil, k => k
  | _, _, _, _, _, _, _, .cons hd ar so w h, k => .cons hd ar so w (past_app h k)
theorem past_cut {v : Vlt} : ∀ {n : Nat} {cs : List (Str × Int)} {hs rs hs2 : List Int}, PastM v hs cs rs hs2 → ∃ hm : List Int, PastM v hs (cs.take n) (rs.take n) hm ∧ PastM v hm (cs.drop n) (rs.drop n) hs2
  | 0, _, _, _, _, h => ⟨_, .nil, h⟩
  | n + 1, _, _, _, _, .nil => ⟨_, .nil, .nil⟩
  | n + 1, _, _, _, _, .cons hd ar so w h => by
    obtain ⟨hm, h1, h2⟩ := past_cut (n := n) h
    exact ⟨hm, .cons hd ar so w h1, h2⟩
theorem past_to {v v' : Vlt} (e1 : v'.deeds = v.deeds) (e2 : v'.cells.map (·.1) = v.cells.map (·.1)) : ∀ {cs : List (Str × Int)} {hs rs hs2 : List Int}, PastM v hs cs rs hs2 → PastM v' hs cs rs hs2
  | _, _, _, _, .nil => .nil
  | _, _, _, _, .cons (d := d) hd ar so w h => .cons (d := d) (by rw [e1]; exact hd) ar (by rw [e2]; exact so) (by rw [e2]; exact w) (past_to e1 e2 h)
/-! ### the cells stay within their sizes -/
theorem so_set {ss hs : List Int} (so : StateOk ss hs) (j : Nat) (v : Int) : StateOk ss (hs.set j (v % ss.getD j 0)) := by
  refine ⟨by rw [List.length_set]; exact so.1, fun i s h e1 e2 => ?_⟩
  rw [List.getElem?_set] at e2
  by_cases c : j = i
  · subst c
    rw [if_pos rfl] at e2
    have hj : j < ss.length := (List.getElem?_eq_some_iff.mp e1).1
    have hj2 : j < hs.length := by rw [← so.1]; exact hj
    rw [if_pos hj2] at e2
    have es : ss.getD j 0 = s := by rw [List.getD_eq_getElem?_getD, e1]; rfl
    rw [es] at e2
    cases (Option.some.inj e2)
    have z := so.2 j s _ e1 (List.getElem?_eq_getElem hj2)
    exact ⟨Int.emod_nonneg _ (by omega), Int.emod_lt_of_pos _ (by omega)⟩
  · rw [if_neg c] at e2
    exact so.2 i s h e1 e2
theorem so_step (f : FR) {st : Mst} (so : StateOk st.sides st.cells) : (stp1 f st).sides = st.sides ∧ StateOk st.sides (stp1 f st).cells := by
  cases f with
  | row r =>
    cases r with
    | set k e => exact ⟨rfl, so_set so _ _⟩
    | swap r k e g =>
      show (if st.cells.getD k.toNat 0 = e.ev st.regs then { st with cells := st.cells.set k.toNat (g.ev st.regs % st.sides.getD k.toNat 0), regs := rset st.regs r 1 } else { st with regs := rset st.regs r 0 } : Mst).sides = _ ∧ StateOk st.sides (if st.cells.getD k.toNat 0 = e.ev st.regs then { st with cells := st.cells.set k.toNat (g.ev st.regs % st.sides.getD k.toNat 0), regs := rset st.regs r 1 } else { st with regs := rset st.regs r 0 } : Mst).cells
      split
      · exact ⟨rfl, so_set so _ _⟩
      · exact ⟨rfl, so⟩
    | _ => exact ⟨rfl, so⟩
  | «unless» e p =>
    show (if e.ev st.regs = 0 then { st with place := p } else st : Mst).sides = _ ∧ StateOk st.sides (if e.ev st.regs = 0 then { st with place := p } else st : Mst).cells
    split <;> exact ⟨rfl, so⟩
  | round p =>
    show (if st.rounds.getLast?.getD 0 = 0 then { st with rounds := st.rounds.dropLast, place := p } else { st with rounds := st.rounds.dropLast ++ [st.rounds.getLast?.getD 0 - 1] } : Mst).sides = _ ∧ StateOk st.sides (if st.rounds.getLast?.getD 0 = 0 then { st with rounds := st.rounds.dropLast, place := p } else { st with rounds := st.rounds.dropLast ++ [st.rounds.getLast?.getD 0 - 1] } : Mst).cells
    split <;> exact ⟨rfl, so⟩
  | _ => exact ⟨rfl, so⟩
theorem so_fin : ∀ {n : Nat} {st st' : Mst}, Fin n st st' → StateOk st.sides st.cells → StateOk st.sides st'.cells
  | _, _, _, .stop _, so => so
  | _, _, _, .step (st := st) (f := f) _ _ _ _ r, so => by
    have z := so_step f (st := { st with place := st.place + 1 }) so
    have k := so_fin r (by rw [z.1]; exact z.2)
    rw [z.1] at k
    exact k
theorem so_way {code : List FR} {sides hs hs1 : List Int} {a r : Int} (h : Way1 code sides hs a r hs1) (so : StateOk sides hs) : StateOk sides hs1 := by
  obtain ⟨n, st', f, _, e⟩ := h
  rw [← e]
  exact so_fin f so
theorem so_past {v : Vlt} : ∀ {cs : List (Str × Int)} {hs rs hs2 : List Int}, PastM v hs cs rs hs2 → StateOk (v.cells.map (·.1)) hs → StateOk (v.cells.map (·.1)) hs2
  | _, _, _, _, .nil, so => so
  | _, _, _, _, .cons _ _ _ w k, so => so_past k (so_way w so)
theorem calls_mem {v : Vlt} {c : Str × Int} (h : c ∈ v.calls) : ∃ d ∈ v.deeds, c.1 = d.1 ∧ 0 ≤ c.2 ∧ c.2 < d.2.1 := by
  unfold Vlt.calls at h
  obtain ⟨d, hd, h⟩ := List.mem_flatMap.mp h
  obtain ⟨j, hj, rfl⟩ := List.mem_map.mp h
  have := List.mem_range.mp hj
  exact ⟨d, hd, rfl, by show 0 ≤ (j : Int); omega, by show (j : Int) < d.2.1; omega⟩
theorem mem_calls {v : Vlt} {c : Str × Int} {d : Str × Int × List Row} (hd : d ∈ v.deeds) (e : c.1 = d.1) (h0 : 0 ≤ c.2) (h1 : c.2 < d.2.1) : c ∈ v.calls := by
  unfold Vlt.calls
  refine List.mem_flatMap.mpr ⟨d, hd, List.mem_map.mpr ⟨c.2.toNat, List.mem_range.mpr (by omega), ?_⟩⟩
  exact Prod.ext e.symm (Int.toNat_of_nonneg h0)
theorem begunC_fst {v : Vlt} {hs : List Int} (so : StateOk (v.cells.map (·.1)) hs) : (begunC v hs).map (·.1) = v.cells.map (·.1) := by
  unfold begunC
  exact List.map_fst_zip (by have := so.1; omega)
theorem begunC_snd {v : Vlt} {hs : List Int} (so : StateOk (v.cells.map (·.1)) hs) : (begunC v hs).map (·.2) = hs := by
  unfold begunC
  exact List.map_snd_zip (by have := so.1; omega)
/-! ### rows as they stand -/
theorem rowIs_nil {H : Hp} : RowIs H [] [] := ⟨rfl, fun i y e => by simp at e⟩
theorem rowIs_app {H : Hp} {xs ys : List V} {cs ds : List (Str × Int)} (h : RowIs H xs cs) (k : RowIs H ys ds) : RowIs H (xs ++ ys) (cs ++ ds) := by
  refine ⟨by rw [List.length_append, List.length_append, h.1, k.1], fun i y e => ?_⟩
  by_cases c : i < xs.length
  · rw [List.getElem?_append_left c] at e
    rw [List.getElem?_append_left (by rw [← h.1]; exact c)]
    exact h.2 i y e
  · rw [List.getElem?_append_right (by omega)] at e
    rw [List.getElem?_append_right (by rw [← h.1]; omega), ← h.1]
    exact k.2 _ y e
theorem rowIs_one {H : Hp} {t : Addr} {c : Str × Int} (ht : H t = some (.tup [.str c.1, .int c.2])) : RowIs H [.ref t] [c] := ⟨rfl, fun i y e => by
  cases i with
  | zero => cases (Option.some.inj e); exact ⟨t, c, rfl, rfl, ht⟩
  | succ i => simp at e⟩
theorem rowIs_but {D : Addr} {H H' : Hp} (hD : Ch H D) (s : But D H H') {xs : List V} {cs : List (Str × Int)} (h : RowIs H xs cs) : RowIs H' xs cs := ⟨h.1, fun i y e => by
  obtain ⟨t, c, e1, e2, e3⟩ := h.2 i y e
  exact ⟨t, c, e1, e2, s _ _ (fun z => hD.1 _ (z ▸ e3)) e3⟩⟩
theorem rowIs_take {H : Hp} {xs : List V} {cs : List (Str × Int)} (n : Nat) (h : RowIs H xs cs) : RowIs H (xs.take n) (cs.take n) := ⟨by rw [List.length_take, List.length_take, h.1], fun i y e => by
  rw [List.getElem?_take] at e ⊢
  by_cases c : i < n
  · rw [if_pos c] at e ⊢
    exact h.2 i y e
  · rw [if_neg c] at e
    cases e⟩
theorem rowIs_drop {H : Hp} {xs : List V} {cs : List (Str × Int)} (n : Nat) (h : RowIs H xs cs) : RowIs H (xs.drop n) (cs.drop n) := ⟨by rw [List.length_drop, List.length_drop, h.1], fun i y e => by
  rw [List.getElem?_drop] at e ⊢
  exact h.2 _ y e⟩
def callD (c : Str × Int) : PyData := .tuple [.str c.1, .int c.2]
theorem rowIs_dps {K : PySem.W.Frag} {H : Hp} {xs : List V} {cs : List (Str × Int)} (h : RowIs H xs cs) : DpAll K H xs (cs.map callD) := dps_of (by rw [List.length_map, h.1]) fun i v d hv hd => by
  obtain ⟨t, c, rfl, e2, e3⟩ := h.2 i v hv
  rw [List.getElem?_map, e2] at hd
  cases (Option.some.inj hd)
  exact .tup (.of e3) (.cons (.str _) (.cons (.int _) .nil))
section
variable {P : Program} {w : World} {K : PySem.W.Frag} {mg : Str → Option Value} {base : Heap}
def spRowL (K : PySem.W.Frag) : Sp := fun vs H Q _ => ∃ (p l : Addr) (n : Int) (ys : List V) (ks : List (Str × Int)), vs = [.ref p, .ref l, .int n] ∧ PoolAt H p ∧ H l = some (.lst ys) ∧ l ≠ p ∧ TupsAt H ys ks ∧ (1 ≤ ks.length ∧ ks.length ≤ 72) ∧ (0 ≤ n ∧ n ≤ 900) ∧
  ∀ (r : Addr) (xs : List V) (cs : List (Str × Int)) (H' : Hp), But p H H' → PoolAt H' p → H r = none → r ≠ p → H' r = some (.lst xs) → RowIs H' xs cs → (∀ c ∈ cs, c ∈ ks) → (cs.length : Int) ≤ n → Q (.ref r) H'
theorem ca_l_row (T : Txt w K mg) : Ca P w K mg base 2 "_law_row" (spRowL K) := by
  refine ca_of (N := ["_law_pool_here", "_law_calls_here", "_law_longest", "_law_row_here", "_law_turn"]) (ps := ["_law_pool_here", "_law_calls_here", "_law_longest"]) T.f_l_row T.g_law_row ⟨rfl, rfl, rfl, by decide +kernel, rfl, by decide +kernel, by decide +kernel⟩ (fun _ _ _ _ _ _ us hl => match us, hl with | [_, _, _], _ => rfl)
    (fun vs H Q E h => by obtain ⟨p, l, n, ys, ks, rfl, hp, hl, nlp, hys, hk, hn, q⟩ := h; rfl) (fun cdv A outer s H vs Q E hr h => ?_)
  have nd : (["_law_pool_here", "_law_calls_here", "_law_longest", "_law_row_here", "_law_turn"] : List Str).Nodup := by decide +kernel
  obtain ⟨p, l, n, ys, ks, rfl, hp, hl, nlp, hys, hk, hn, q⟩ := h
  refine ⟨_, (pss_cons (ps_set (i := 3) nd rfl (.inl rfl) (pe_lst pa_nil))
      (pss_cons (ps_for PassesOwn.never rfl (pi_range1 rfl T.b_range (pa_cons (pe_ca (ca_l_draw T) hr (pa_cons (pv 0) (pa_cons (pe_op op_add (pv 2) pe_int) pa_nil))) pa_nil)) (pg_name (i := 4) nd rfl (.inl rfl)) (pss_one (ps_expr (pe_bm PySem.F.plainAttrs_list PySem.F.slot_list_append PySem.F.type_list_append mt_append (pv 3) (pa_cons (pe_ix ix_list (pv 1) (pe_ca (ca_l_draw T) hr (pa_cons (pv 0) (pa_cons (pe_callB call_len_seq (by rfl) T.b_len PySem.boot_len (pa_cons (pv 1) pa_nil)) pa_nil))) (fun _ _ => rfl)) pa_nil)))))
      (pss_one (ps_ret (pv 3))))), ?_⟩
  have lys := tups_len hys
  refine ⟨(by show 0 ≤ sizeLine; exact Nat.zero_le _), fun r nr => ?_⟩
  have nrp := pool_nl hp nr
  have s0 : Same H (upd H r (.lst [])) := same_new nr
  have hr0 : upd H r (.lst []) r = some (.lst []) := upd_same
  have hp0 := hp.same s0
  have hl0 := s0 _ _ hl
  have hys0 := tups_same s0 hys
  generalize upd H r (.lst []) = H0 at s0 hr0 hp0 hl0 hys0 ⊢
  refine ⟨_, rfl, _, rfl, _, _, rfl, rfl, p, n + 1, rfl, hp0, by omega, fun m H1 b1 p1 hm => ⟨m, rfl, by omega, by omega, ?_⟩⟩
  refine for_it (n := m.toNat) walk_range (fun i σ' H' => ∃ (x : Option V) (xs : List V) (cs : List (Str × Int)), σ' = [some (.ref p), some (.ref l), some (.int n), some (.ref r), x] ∧ But p H H' ∧ PoolAt H' p ∧ H' r = some (.lst xs) ∧ RowIs H' xs cs ∧ (∀ c ∈ cs, c ∈ ks) ∧ cs.length = i) ⟨none, [], [], rfl, (fun a o h e => b1 _ _ h (s0 _ _ e)), p1, b1 _ _ nrp hr0, rowIs_nil, (fun c h => nomatch h), rfl⟩ (fun _ _ _ _ _ => trivial) ?_ ?_
  · rintro i z σ' Hz H' hi ⟨x, xs, cs, rfl, bt, pt, hx, hrw, hcs, hlen⟩ ⟨rfl, rfl⟩
    have hl' := bt _ _ nlp hl
    refine ⟨_, rfl, .inl ⟨rfl, _, .of hx⟩, _, rfl, _, rfl, _, rfl, _, _, rfl, .inl (.of hl'), p, (ys.length : Nat), rfl, pt, by omega, fun ci H2 b2 p2 hci => ?_⟩
    have b02 := bt.trans b2
    have hcin : ci.toNat < ys.length := by omega
    have hys2 := tups_but hp.ch b02 hys
    obtain ⟨kc, kt, hkc1, hkt, hkt2⟩ := tups_get hys2 (List.getElem?_eq_getElem hcin)
    have hat : atI ys ci = some (.ref kt) := by
      have := atI_nat (List.getElem?_eq_getElem hcin)
      rw [show ((ci.toNat : Nat) : Int) = ci from Int.toNat_of_nonneg hci.1, hkt] at this
      exact this
    refine ⟨_, _, _, _, rfl, rfl, .of (b2 _ _ nlp hl'), hat, ?_⟩
    have hx2 := b2 _ _ nrp hx
    have bb : But r H2 (upd H2 r (.lst (xs ++ [.ref kt]))) := But.upd
    have lx := hrw.1
    refine ⟨r, xs, _, rfl, rfl, hx2, by rw [sizeLine_eq]; omega, _, xs ++ [.ref kt], cs ++ [kc], rfl, fun a o h e => bb _ _ (ne_of_none e nr) (b02 _ _ h e), p2.but (Ne.symm nrp) bb, upd_same, rowIs_but (.lst hx2) bb (rowIs_app (rowIs_but pt.ch b2 hrw) (rowIs_one hkt2)), fun c hc => ?_, by simp [hlen]⟩
    · rcases List.mem_append.mp hc with h | h
      · exact hcs c h
      · rw [List.mem_singleton.mp h]
        exact List.mem_of_getElem? hkc1
  · rintro σ' H' ⟨x, xs, cs, rfl, bt, pt, hx, hrw, hcs, hlen⟩
    exact ⟨_, rfl, q r xs cs H' bt pt nr nrp hx hrw hcs (by omega)⟩
def spLongL (K : PySem.W.Frag) : Sp := fun vs H Q _ => ∃ (a l : Addr) (ns : List Int) (ys : List V) (ks : List (Str × Int)), vs = [.ref a, .ref l] ∧ SqL K H a (ns.map .int) ∧ ns.length ≤ 63 ∧ H l = some (.lst ys) ∧ TupsAt H ys ks ∧ (1 ≤ ks.length ∧ ks.length ≤ 72) ∧
  ∀ (r : Addr) (xs : List V) (cs : List (Str × Int)) (H' : Hp), Same H H' → H r = none → H' r = some (.lst xs) → RowIs H' xs cs → (∀ c ∈ cs, c ∈ ks) → cs.length ≤ 400 → Q (.ref r) H'
def spPastL (K : PySem.W.Frag) : Sp := fun vs H Q _ => ∃ (ca da ba ra : Addr) (cxs dxs xs : List V) (cs : List (Int × Int)) (ds : List (Str × Int × List Row)) (hs : List Int) (cl : List (Str × Int)), vs = [.ref ca, .ref da, .ref ba, .ref ra] ∧ SqL K H ca cxs ∧ DpAll K H cxs (cs.map cellD) ∧ SqL K H da dxs ∧ DpAll K H dxs (ds.map deedD) ∧ VGood ⟨cs, ds⟩ ∧ (∀ d ∈ ds, rowsCc d.2.2 = 0 ∧ mxs d.2.2 ≤ 40000) ∧ SqT K H ba (hs.map .int) ∧ StateOk (cs.map (·.1)) hs ∧ SqL K H ra xs ∧ RowIs H xs cl ∧ (∀ c ∈ cl, c ∈ (Vlt.mk cs ds).calls) ∧ cl.length ≤ 1000 ∧
  ∀ (z za zn : Addr) (rs hs2 : List Int) (H' : Hp), Same H H' → PastM ⟨cs, ds⟩ hs cl rs hs2 → H' z = some (.tup [.ref za, .ref zn]) → H' za = some (.lst (rs.map .int)) → SqT K H' zn (hs2.map .int) → Q (.ref z) H'
end

end M

set_option Elab.async false
set_option linter.all false
set_option maxRecDepth 100000
set_option maxHeartbeats 2000000
namespace M
open PySem PySem.Spec PyProof.Rows L2

/-! ### an own error without arguments -/
section
variable {X : Cx} {C : Addr} {bmB : List Value} {B newId initId : String}
theorem pmk_own0 {x : Str} {p pos : Pos} (F : ExcBaseFacts B newId initId bmB) (q : PySem.W.excIn X.K C bmB newId = true) (gC : X.mg x = some (.ref C)) (kC : PySem.W.keepIn X.K (.ref C) = true) (r : Raises X (.ref C)) (hg : Gl X x := by rfl)
    (hdb : (x == ("__debug__" : Str)) = false := by decide) : PMk X (.Call (.Name x p) [] [] pos) (fun _ H Q => Q (.ref C) none H) := by
  intro pins s σ H Q I h
  refine wpAny_Call_Name_kw (ld_glob I hg gC ?_ hdb)
  refine PySem.W.callWith_K0 I.kIn kC ?_
  show wpAny _ _ (call (.ref C) []) _ _ _
  obtain ⟨bm, N, nm, qn, bs, hdct, sn, sub, ab, col, dd, k0, k1, k2, k3, k5, mN, hC, hN, hni, T⟩ := exc_obj I.kIn q
  refine wpAny_call_exc_subT F T hC hN hni (fun h' e hm => ?_) (Nat.zero_le _)
  exact mk_of I hm r h (I.hok.gone hm.new)
end
/-! ### defs that may raise -/
structure CaX (P : Program) (w : World) (K : PySem.W.Frag) (mg : Str → Option Value) (base : Heap) (k : Nat) (x : Str) (sp : Sp) : Prop where
  ex : ∃ (f : Addr) (fd : FuncData) (ps : List Str), FnOk P w K mg base (L2.CX P w) k f fd ps sp ∧ mg x = some (.ref f) ∧ PySem.W.keepIn K (.ref f) = true ∧ Binds K fd ps []
structure CfX (P : Program) (w : World) (K : PySem.W.Frag) (mg : Str → Option Value) (base : Heap) (k : Nat) (x : Str) (ps : List Str) (sp : Sp) : Prop where
  ex : ∃ (fd : FuncData) (oc : Value) (od : Option Addr) (osl : Array (Option Value)), K.lookup (He.ga K x) = some ⟨oc, od, .func fd, osl⟩ ∧ FnOk P w K mg base (L2.CX P w) k (He.ga K x) fd ps sp ∧ PySem.W.keepIn K (.ref (He.ga K x)) = true ∧ Binds K fd ps []
  g : mg x = some (.ref (He.ga K x))
section
variable {P : Program} {w : World} {K : PySem.W.Frag} {mg : Str → Option Value} {base : Heap} {x m q : Str} {st : Stmt} {N ps : List Str} {k : Nat} {sp : Sp} {C f : Addr}
abbrev BodyX (P : Program) (w : World) (K : PySem.W.Frag) (mg : Str → Option Value) (base : Heap) (q : Str) (st : Stmt) (N : List Str) (k : Nat) (f : Addr) (sp : Sp) : Prop := ∀ (cdv : Value) (A : Around) (outer : List Env) (s : Shared) (H : Hp) (vs : List V) (Q : VK) (E : XK), Room k (A.deeper (envOfC q (defScope st) s.heap.objs.size f cdv)) → sp vs H Q E →
      ∃ t, PSs (cxOf (L2.CX P w) P w K mg base N q (defScope st) f cdv A outer s H E) (defBody st) t ∧ t { nx := fun _ H' => Q .non H', rt := Q } (start N vs) H
theorem ca_ofX (F : ∃ fd, FunD K x x (defArgs st) (defBody st) (defScope st) [] [] (He.fAd K (x, none)) fd) (g : mg x = some (.ref (He.ga K x))) (S : FnScope N ps (defScope st)) (hb : BindsH x x st ps) (len : ∀ vs H Q E, sp vs H Q E → vs.length = ps.length)
    (hbody : BodyX P w K mg base x st N k (He.fAd K (x, none)) sp) : CaX P w K mg base (k + 1) x sp := by
  obtain ⟨fd, F⟩ := F
  exact ⟨_, fd, ps, F.ok S len hbody, g, F.kp, F.bindsN hb⟩
theorem cf_ofX (F : ∃ fd, FunD K x x (defArgs st) (defBody st) (defScope st) [] [] (He.fAd K (x, none)) fd) (g : mg x = some (.ref (He.ga K x))) (S : FnScope N ps (defScope st)) (hb : BindsH x x st ps) (len : ∀ vs H Q E, sp vs H Q E → vs.length = ps.length)
    (hbody : BodyX P w K mg base x st N k (He.fAd K (x, none)) sp) : CfX P w K mg base (k + 1) x ps sp := by
  obtain ⟨fd, F⟩ := F
  obtain ⟨oc, od, dV, kV, doc, pm, an, cdv, ct, osl, e, lk, _⟩ := F.ex
  exact ⟨⟨fd, oc, od, osl, lk, F.ok S len hbody, F.kp, F.bindsN hb⟩, g⟩
theorem CfX.mono {j : Nat} (c : CfX P w K mg base j x ps sp) (h : j ≤ k) : CfX P w K mg base k x ps sp := by
  obtain ⟨fd, oc, od, osl, lk, F, r⟩ := c.ex
  exact ⟨⟨fd, oc, od, osl, lk, F.mono h, r⟩, c.g⟩
/-- who raises nothing may stand among those who may -/
theorem fn_toX {fd : FuncData} (F : FnOk P w K mg base CX0 k f fd ps sp) : FnOk P w K mg base (L2.CX P w) k f fd ps sp :=
  ⟨F.len, fun A outer s H args us vs Q E hr he hb hv h => codeAny_mono (F.run A outer s H args us vs Q E hr he hb hv h) fun r s' hq => by
    cases r with
    | error e => exact hq.elim
    | ok fl => cases fl <;> exact hq⟩
theorem Cf.toX (c : Cf P w K mg base k x ps sp) : CfX P w K mg base k x ps sp := by
  obtain ⟨fd, oc, od, osl, lk, F, r⟩ := c.ex
  exact ⟨⟨fd, oc, od, osl, lk, fn_toX F, r⟩, c.g⟩
end
section
variable {X : Cx} {k j : Nat} {x : Str} {sp : Sp} {p pos : Pos} {e : Expr} {es : List Expr} {t : TA}
theorem pe_caX {W : WX} (c : CaX X.prog X.w X.K X.mg X.base k x sp) (hr : Room j X.A) (tk : Takes X W) (ha : PA X (e :: es) t) (hk : k ≤ j := by decide) (hg : Gl X x := by rfl)
    (hdb : (x == ("__debug__" : Str)) = false := by decide) (he : starEach (e :: es) X.env = (false, eval e X.env) :: starEach es X.env := by rfl) (hpl : (backTo pos (starEach es X.env)).any (·.1) = false := by rfl) :
    PE X (.Call (.Name x p) (e :: es) [] pos) (tCallS sp (WE W) t) := by
  obtain ⟨f, fd, ps, F, hm, kp, b⟩ := c.ex
  exact pe_callS F (hr.mono hk) hg hm kp b (fun σ => passAt tk σ) ha hdb he hpl
/-- of several defs that the slot may hold, such as may raise -/
structure HeldX (P : Program) (w : World) (K : PySem.W.Frag) (mg : Str → Option Value) (base : Heap) (k : Nat) (f : Addr) (sp : Sp) : Prop where
  ex : ∃ (fd : FuncData) (ps : List Str), FnOk P w K mg base (L2.CX P w) k f fd ps sp ∧ PySem.W.keepIn K (.ref f) = true ∧ Binds K fd ps []
def tCallAX (i : Nat) (S : Addr → Option Sp) (E : XK) (t : TA) : TE := fun σ H Q => ∃ f sp, σ[i]? = some (some (.ref f)) ∧ S f = some sp ∧ t σ H fun vs H1 => sp vs H1 Q E
theorem pe_callAX {i : Nat} {S : Addr → Option Sp} {E : XK} (A : ∀ f sp, S f = some sp → HeldX X.prog X.w X.K X.mg X.base k f sp) (hr : Room k X.A) (tk : Takes X (fun cls d _ H => E cls d H)) (hN : X.N[i]? = some x) (hv : Vis X.env.scope x) (ha : PA X (e :: es) t)
    (hdb : (x == ("__debug__" : Str)) = false := by decide) (hcd : (x == ("__classdict__" : Str)) = false := by decide)
    (he : starEach (e :: es) X.env = (false, eval e X.env) :: starEach es X.env := by rfl) (hpl : (backTo pos (starEach es X.env)).any (·.1) = false := by rfl) : PE X (.Call (.Name x p) (e :: es) [] pos) (tCallAX i S E t) := by
  refine ⟨fun pins s σ H Q I h => ?_⟩
  obtain ⟨f, sp, hs, hS, ht⟩ := h
  obtain ⟨fd, ps, F, hk, hb⟩ := (A f sp hS).ex
  refine (pe_callL (i := i) (f := f) (sp := sp) (dvs := []) (E := E) F hr hN hv hk hb .nil (fun pins σ H s e s' I c => passAt tk σ pins H s e s' I c) ha hdb hcd he hpl).run pins s σ H Q I ⟨hs, ?_⟩
  have e0 : (fun (vs : List V) (H1 : Hp) => sp (vs ++ []) H1 Q E) = fun vs H1 => sp vs H1 Q E := by
    funext vs H1
    rw [List.append_nil]
  show t σ H (fun vs H1 => sp (vs ++ []) H1 Q E)
  rw [e0]
  exact ht
end

end M

set_option Elab.async false
set_option linter.all false
set_option maxRecDepth 100000
set_option maxHeartbeats 2000000
namespace M
open PySem PySem.Spec PyProof.Rows L2

section
variable {P : Program} {w : World} {K : PySem.W.Frag} {mg : Str → Option Value} {base : Heap}
def spCoinO (K : PySem.W.Frag) : Sp := fun vs H Q E => ∃ (R : RA) (y : V) (x : Str) (st : Mst), vs = [.ref R.x, y] ∧ RunAt K H R st ∧ MOk st ∧ Dp K H y (Row.coin x).d ∧ st.fallen = st.coins.length ∧ E (.ref (He.ga K "CoinsOut")) none H
theorem cfx_do_coin (T : Txt w K mg) : CfX P w K mg base 1 "do_coin" ["run", "row"] (spCoinO K) := by
  refine cf_ofX (N := ["run", "row"]) (ps := ["run", "row"]) T.f_do_coin T.g_do_coin ⟨rfl, rfl, rfl, by decide +kernel, rfl, by decide +kernel, by decide +kernel⟩ (fun _ _ _ _ _ _ us hl => match us, hl with | [_, _], _ => rfl)
    (fun vs H Q E h => by obtain ⟨R, y, x, st, rfl, r, m, hv, hc, q⟩ := h; rfl) (fun cdv A outer s H vs Q E hr h => ?_)
  have nd : (["run", "row"] : List Str).Nodup := by decide +kernel
  obtain ⟨R, y, x, st, rfl, r, m, hv, hc, q⟩ := h
  refine ⟨_, (pss_cons (ps_if (pt_cmpR op_eq (pe_fld (pv 0) rfl) (pe_callB call_len_seq (by rfl) T.b_len PySem.boot_len (pa_cons (pe_fld (pv 0) rfl) pa_nil)) (nomark _)) (pss_one (ps_raise rfl (takes_of rfl rfl rfl rfl) (pmk_own0 PySem.F.excBase_ValueError T.x_CoinsOut.1 T.g_CoinsOut T.x_CoinsOut.2.1 (raises_own T.x_CoinsOut.2.2.1 T.x_CoinsOut.2.2.2)))) pss_nil)
      (pss_cons (ps_dput (hu_of hr) (pe_fld (pv 0) rfl) (pe_ix ix_tup (pv 1) pe_int (fun _ _ => rfl)) (pe_ix ix_seq (pe_fld (pv 0) rfl) (pe_fld (pv 0) rfl) (fun _ _ => rfl)) rfl)
      (pss_one (ps_fldaug (pv 0) pe_int in_add)))), ?_⟩
  have cl : SqL K H R.n (st.coins.map V.int) ∨ SqT K H R.n (st.coins.map V.int) := r.coins.seq
  refine ⟨_, rfl, R.x, _, R.dx, _, _, rfl, r.ins, T.c_Run, T.n_Run_fallen, rf_fallen, _, rfl, R.x, _, R.dx, _, _, rfl, r.ins, T.c_Run, T.n_Run_coins, rf_coins, _, _, rfl, cl, rfl, _, rfl, ?_⟩
  rw [decide_eq_true (show V.int st.fallen = V.int ((st.coins.map V.int).length : Nat) from by rw [hc, List.length_map])]
  exact iteT q
end

end M

set_option Elab.async false
set_option linter.all false
set_option maxRecDepth 100000
set_option maxHeartbeats 2000000
namespace M
open PySem PySem.Spec PyProof.Rows L2

/-! ### the rows are done, or the coins run out -/
inductive OutM : Nat → Mst → Prop
  | here {st : Mst} {x : Str} (h : st.res = none) (h0 : 0 ≤ st.place) (hf : st.code[st.place.toNat]? = some (.row (.coin x))) (c : st.fallen = st.coins.length) : OutM 0 st
  | step {st : Mst} {f : FR} {n : Nat} (h : st.res = none) (h0 : 0 ≤ st.place) (hf : st.code[st.place.toNat]? = some f) (c : Can f { st with place := st.place + 1 }) (r : OutM n (stp1 f { st with place := st.place + 1 })) : OutM (n + 1) st
section
variable {P : Program} {w : World} {K : PySem.W.Frag} {mg : Str → Option Value} {base : Heap}
def GoodX (P : Program) (w : World) (K : PySem.W.Frag) (mg : Str → Option Value) (base : Heap) (k : Nat) (f : Addr) (sp : Sp) : Prop :=
  ∃ (fd : FuncData) (oc : Value) (od : Option Addr) (osl : Array (Option Value)), K.lookup f = some ⟨oc, od, .func fd, osl⟩ ∧ FnOk P w K mg base (L2.CX P w) k f fd ["run", "row"] sp ∧ PySem.W.keepIn K (.ref f) = true ∧ Binds K fd ["run", "row"] []
def spUX (P : Program) (w : World) (K : PySem.W.Frag) (mg : Str → Option Value) (base : Heap) (k : Nat) (f : Addr) : Sp := fun vs H Q E => ∃ sp, GoodX P w K mg base k f sp ∧ sp vs H Q E
open Classical in
noncomputable def SAX (P : Program) (w : World) (K : PySem.W.Frag) (mg : Str → Option Value) (base : Heap) (k : Nat) (f : Addr) : Option Sp := if ∃ sp, GoodX P w K mg base k f sp then some (spUX P w K mg base k f) else none
theorem sax_held {k : Nat} : ∀ f sp, SAX P w K mg base k f = some sp → HeldX P w K mg base k f sp := by
  intro f sp h
  unfold SAX at h
  split at h
  · rename_i g
    cases (Option.some.inj h)
    obtain ⟨sp0, fd, oc, od, osl, lk, F, kp, b⟩ := g
    refine ⟨fd, ["run", "row"], ⟨fun vs H Q E q => ?_, fun A outer s H args us vs Q E hr he hb hv q => ?_⟩, kp, b⟩
    · obtain ⟨sp1, ⟨fd1, _, _, _, lk1, F1, _⟩, q⟩ := q
      exact F1.len vs H Q E q
    · obtain ⟨sp1, ⟨fd1, _, _, _, lk1, F1, _⟩, q⟩ := q
      have e : fd1 = fd := by
        rw [lk] at lk1
        cases lk1
        rfl
      subst e
      exact F1.run A outer s H args us vs Q E hr he hb hv q
  · cases h
theorem sax_some {k : Nat} {x : Str} {sp : Sp} (c : CfX P w K mg base k x ["run", "row"] sp) : SAX P w K mg base k (He.ga K x) = some (spUX P w K mg base k (He.ga K x)) := if_pos ⟨sp, c.ex⟩
def spFinX (K : PySem.W.Frag) : Sp := fun vs H Q E => ∃ (R : RA) (st : Mst), vs = [.ref R.x] ∧ RunAt K H R st ∧ MOk st ∧ ((∃ n st', Fin n st st' ∧ ∀ H', Bt R H H' → RunAt K H' R st' → Q .non H') ∨ (∃ n, OutM n st ∧ ∀ H', Bt R H H' → E (.ref (He.ga K "CoinsOut")) none H'))
theorem cx_finish (T : Txt w K mg) : CaX P w K mg base 10 "finish" (spFinX K) := by
  refine ca_ofX (N := ["run", "code", "row", "action"]) (ps := ["run"]) T.f_finish T.g_finish ⟨rfl, rfl, rfl, by decide +kernel, rfl, by decide +kernel, by decide +kernel⟩ (fun _ _ _ _ _ _ us hl => match us, hl with | [_], _ => rfl)
    (fun vs H Q E h => by obtain ⟨R, st, rfl, r, m, hq⟩ := h; rfl) (fun cdv A outer s H vs Q E hr h => ?_)
  have nd : (["run", "code", "row", "action"] : List Str).Nodup := by decide +kernel
  obtain ⟨R, st, rfl, r, m, hq⟩ := h
  refine ⟨_, (pss_cons (ps_set (i := 1) nd rfl (.inl rfl) (pe_fld (pv 0) rfl))
      (pss_one (ps_while (passes_of rfl) (pt_cmp (pc_isN (pe_fld (pv 0) rfl))) (pss_cons (ps_set (i := 2) nd rfl (.inl rfl) (pe_ix ix_tup (pv 1) (pe_fld (pv 0) rfl) (fun _ _ => rfl)))
      (pss_cons (ps_fldaug (pv 0) pe_int in_add)
      (pss_cons (ps_set (i := 3) nd rfl (.inl rfl) (pe_ix ix_kdict (pe_gr T.g_ACTIONS) (pe_ix ix_tup (pv 2) pe_int (fun _ _ => rfl)) (fun _ _ => rfl)))
      (pss_one (ps_expr (pe_callAX (i := 3) sax_held hr (takes_of rfl rfl rfl rfl) rfl (.inl rfl) (pa_cons (pv 0) (pa_cons (pv 2) pa_nil))))))))))), ?_⟩
  refine ⟨_, rfl, R.x, _, R.dx, _, _, rfl, r.ins, T.c_Run, T.n_Run_code, rf_code, ?_⟩
  -- one row: the action's promise
  have turn : ∀ (st1 : Mst) (H' : Hp) (f : FR), RunAt K H' R st1 → MOk st1 → Bt R H H' → st1.res = none → 0 ≤ st1.place → st1.code[st1.place.toNat]? = some f → ∃ (H2 : Hp) (rb : Addr) (wd nm : Str) (zr : List V) (p : FR → Prop), True := fun _ _ _ _ _ _ _ _ _ => ⟨H, 0, "", "", [], fun _ => True, trivial⟩
  refine ⟨fun i σ' H' => ∃ (st1 : Mst) (x y : Option V), σ' = [some (.ref R.x), some (.ref R.c), x, y] ∧ RunAt K H' R st1 ∧ MOk st1 ∧ Bt R H H' ∧ ((∃ st', Fin i st1 st' ∧ ∀ H', Bt R H H' → RunAt K H' R st' → Q .non H') ∨ (OutM i st1 ∧ ∀ H', Bt R H H' → E (.ref (He.ga K "CoinsOut")) none H')), ?_, ?_⟩
  · rcases hq with ⟨n, st', fin, q⟩ | ⟨n, out, q⟩
    · exact ⟨n, st, none, none, rfl, r, m, Bt.refl R H, .inl ⟨st', fin, q⟩⟩
    · exact ⟨n, st, none, none, rfl, r, m, Bt.refl R H, .inr ⟨out, q⟩⟩
  rintro i σ' H' ⟨st1, x, y, rfl, r1, m1, bt, hq⟩
  refine ⟨_, rfl, R.x, _, R.dx, _, _, rfl, r1.ins, T.c_Run, T.n_Run_result, rf_result, ?_⟩
  -- what is to be done
  have todo : (∃ v, st1.res = some v ∧ Q .non H') ∨ (st1.res = none ∧ 0 ≤ st1.place ∧ ∃ f, st1.code[st1.place.toNat]? = some f ∧ FOk st1.cells.length f ∧
      ((Can f { st1 with place := st1.place + 1 } ∧ ∃ j, j < i ∧ ((∃ st', Fin j (stp1 f { st1 with place := st1.place + 1 }) st' ∧ ∀ H', Bt R H H' → RunAt K H' R st' → Q .non H') ∨ (OutM j (stp1 f { st1 with place := st1.place + 1 }) ∧ ∀ H', Bt R H H' → E (.ref (He.ga K "CoinsOut")) none H'))) ∨
       ((∃ x, f = .row (.coin x)) ∧ st1.fallen = st1.coins.length ∧ ∀ H', Bt R H H' → E (.ref (He.ga K "CoinsOut")) none H'))) := by
    rcases hq with ⟨st', fin, q⟩ | ⟨out, q⟩
    · cases fin with
      | stop h => exact .inl ⟨_, h, q H' bt r1⟩
      | @step _ _ f j h h0 hf c rest => exact .inr ⟨h, h0, f, hf, m1.fd f (List.mem_of_getElem? hf), .inl ⟨c, j, Nat.lt_succ_self _, .inl ⟨st', rest, q⟩⟩⟩
    · cases out with
      | @here _ x h h0 hf c => exact .inr ⟨h, h0, _, hf, m1.fd _ (List.mem_of_getElem? hf), .inr ⟨⟨x, rfl⟩, c, q⟩⟩
      | @step _ f j h h0 hf c rest => exact .inr ⟨h, h0, f, hf, m1.fd f (List.mem_of_getElem? hf), .inl ⟨c, j, Nat.lt_succ_self _, .inr ⟨rest, q⟩⟩⟩
  clear hq turn
  rcases todo with ⟨v, h, q⟩ | ⟨h, h0, f, hf, hfok, todo⟩
  · rw [h]
    exact ⟨_, rfl, iteF q⟩
  rw [h]
  refine ⟨_, rfl, iteT ?_⟩
  refine ⟨fun σ2 H2 => ∃ j, j < i ∧ ∃ (st1 : Mst) (x y : Option V), σ2 = [some (.ref R.x), some (.ref R.c), x, y] ∧ RunAt K H2 R st1 ∧ MOk st1 ∧ Bt R H H2 ∧ ((∃ st', Fin j st1 st' ∧ ∀ H', Bt R H H' → RunAt K H' R st' → Q .non H') ∨ (OutM j st1 ∧ ∀ H', Bt R H H' → E (.ref (He.ga K "CoinsOut")) none H')), fun σ2 H2 ⟨j, hj, h2⟩ => ⟨j, hj, h2⟩, ?_⟩
  obtain ⟨a, xs, ea, ha, hxs⟩ := dp_tup r1.code
  cases ea
  obtain ⟨y0, hy0, dy0⟩ := dps_at (i := st1.place.toNat) hxs (d := f.d) (by rw [List.getElem?_map, hf]; rfl)
  have ep : ((st1.place.toNat : Nat) : Int) = st1.place := Int.toNat_of_nonneg h0
  have hat : atI xs st1.place = some y0 := by
    have := atI_nat hy0
    rw [ep] at this
    exact this
  refine ⟨_, rfl, _, rfl, R.x, _, R.dx, _, _, rfl, r1.ins, T.c_Run, T.n_Run_place, rf_place, _, _, _, _, rfl, rfl, ha, hat, ?_⟩
  refine ⟨_, rfl, R.x, _, R.dx, _, _, rfl, r1.ins, T.c_Run, T.n_Run_place, rf_place, _, _, rfl, rfl, _, _, r1.ins, (by show 9 < 1000; decide), ?_⟩
  rw [rf_putP]
  have r2 := r1.setX st1.fallen (st1.place + 1) st1.res
  have b2 := But.upd (H := H') (D := R.x) (o := .ins (He.ga K "Run") R.dx (rf R.c R.s R.l R.n st1.fallen R.h R.u (st1.place + 1) (resV st1.res)))
  generalize upd H' R.x (.ins (He.ga K "Run") R.dx (rf R.c R.s R.l R.n st1.fallen R.h R.u (st1.place + 1) (resV st1.res))) = H2 at r2 b2
  have dy2 := dp_but (.ins r1.ins) b2 dy0 f.noL
  obtain ⟨wd, nm, p, hw, hin, hp, cf⟩ := do_ok T hfok
  have dy3 := dy2
  rw [fr_d hw] at dy3
  obtain ⟨rb, zs, rfl, hrb, hzs⟩ := dp_tup dy3
  obtain ⟨z0, zr, rfl, hz0⟩ : ∃ z0 zr, zs = z0 :: zr ∧ Dp K H2 z0 (.str wd) := by
    cases hzs with | cons h1 h2 => exact ⟨_, _, rfl, h1⟩
  cases dp_str hz0
  refine ⟨_, rfl, _, _, _, _, rfl, rfl, hrb, at0, _, _, _, rfl, rfl, act_at T hin, ?_⟩
  refine ⟨_, _, rfl, sax_some cf.toX, _, rfl, _, rfl, ?_⟩
  rcases todo with ⟨c, j, hj, rest⟩ | ⟨⟨x, rfl⟩, hc, q⟩
  · refine ⟨spDo K p, cf.toX.ex, R, .ref rb, f, { st1 with place := st1.place + 1 }, rfl, r2, m1.at _, dy2, hp, hfok, c, fun H3 b3 r3 => ?_⟩
    exact ⟨j, hj, _, _, _, rfl, r3, (m1.at _).step hfok c, (bt.trans (Bt.x b2)).trans b3, rest⟩
  · have enm : nm = "do_coin" := by
      have e : wd = "coin" := by
        have : (Row.coin x).word = wd := by
          have := hw
          exact Option.some.inj this
        rw [← this]
        rfl
      subst e
      simp only [acts, List.mem_cons, List.not_mem_nil, or_false, Prod.mk.injEq] at hin
      rcases hin with ⟨e, _⟩ | ⟨e, _⟩ | ⟨e, _⟩ | ⟨e, _⟩ | ⟨_, e⟩ | ⟨e, _⟩ | ⟨e, _⟩ | ⟨e, _⟩ | ⟨e, _⟩ | ⟨e, _⟩ <;> first | exact (He.Dv.glo.inj e) | exact absurd e (by decide +kernel)
    subst enm
    exact ⟨spCoinO K, ((cfx_do_coin T).mono (by decide)).ex, R, .ref rb, x, { st1 with place := st1.place + 1 }, rfl, r2, m1.at _, dy2, hc, q _ (bt.trans (Bt.x b2))⟩
end

end M

set_option Elab.async false
set_option linter.all false
set_option maxRecDepth 100000
set_option maxHeartbeats 2000000
namespace M
open PySem PySem.Spec PyProof.Rows L2

/-! ### a call, or its coins run out -/
def WayM (code : List FR) (sides hs : List Int) (a : Int) (fs : List Int) (r : Int) (cs : List Int) : Prop := ∃ (n : Nat) (st' : Mst), Fin n (mst0 code sides hs fs a) st' ∧ st'.res = some r ∧ st'.cells = cs
def OutW (code : List FR) (sides hs : List Int) (a : Int) (fs : List Int) : Prop := ∃ n, OutM n (mst0 code sides hs fs a)
/-- what is still due, the last one first, and the ways that come of it -/
inductive Trav (W : List Int → Int → List Int → Prop) (O : List Int → Prop) : Nat → List (List Int) → List (List Int × Int × List Int) → Prop
  | done : Trav W O 0 [] []
  | hit {n : Nat} {todo : List (List Int)} {ws : List (List Int × Int × List Int)} {fs : List Int} {r : Int} {cs : List Int} (h : W fs r cs) (k : Trav W O n todo ws) : Trav W O (n + 1) (todo ++ [fs]) ((fs, r, cs) :: ws)
  | out {n : Nat} {todo : List (List Int)} {ws : List (List Int × Int × List Int)} {fs : List Int} (h : O fs) (l : fs.length < 4) (k : Trav W O n (todo ++ [fs ++ [1], fs ++ [0]]) ws) : Trav W O (n + 1) (todo ++ [fs]) ws
theorem dps_snoc {K : PySem.W.Frag} {H : Hp} : ∀ {xs : List V} {v : V} {ds : List PyData} {d : PyData}, DpAll K H (xs ++ [v]) (ds ++ [d]) → DpAll K H xs ds ∧ Dp K H v d
  | [], v, [], d, .cons h .nil => ⟨.nil, h⟩
  | [], v, e :: ds, d, .cons h r => by
    have := dps_len r
    simp at this
  | x :: xs, v, [], d, .cons h r => by
    have := dps_len r
    simp at this
  | x :: xs, v, e :: ds, d, .cons h r => ⟨.cons h (dps_snoc r).1, (dps_snoc r).2⟩
def tupI (fs : List Int) : PyData := .tuple (fs.map .int)
def wayD (w : List Int × Int × List Int) : PyData := .tuple [tupI w.1, .int w.2.1, tupI w.2.2]
theorem tupI_noL (fs : List Int) : NoL (tupI fs) := .tup fun d h => by
  obtain ⟨i, _, rfl⟩ := List.mem_map.mp h
  exact .int i
theorem wayD_noL (w : List Int × Int × List Int) : NoL (wayD w) := .tup fun d h => by
  simp only [List.mem_cons, List.not_mem_nil, or_false] at h
  rcases h with rfl | rfl | rfl
  · exact tupI_noL _
  · exact .int _
  · exact tupI_noL _
/-- a way as it stands: its state is a tracked tuple -/
def WayAt (K : PySem.W.Frag) (H : Hp) (v : V) (w : List Int × Int × List Int) : Prop := ∃ (t c s : Addr), v = .ref t ∧ SqT K H t [.ref c, .int w.2.1, .ref s] ∧ SqT K H c (w.1.map .int) ∧ H s = some (.tup (w.2.2.map .int))
def WysAt (K : PySem.W.Frag) (H : Hp) : List V → List (List Int × Int × List Int) → Prop
  | [], [] => True
  | v :: vs, w :: ws => WayAt K H v w ∧ WysAt K H vs ws
  | _, _ => False
theorem wys_nil {K : PySem.W.Frag} {H : Hp} : WysAt K H [] [] := trivial
theorem wys_imp {K : PySem.W.Frag} {H H' : Hp} (ht : ∀ a xs, SqT K H a xs → SqT K H' a xs) (hu : ∀ a xs, H a = some (.tup xs) → H' a = some (.tup xs)) : ∀ {vs : List V} {ws : List (List Int × Int × List Int)}, WysAt K H vs ws → WysAt K H' vs ws
  | [], [], _ => trivial
  | _ :: _, _ :: _, ⟨⟨t, c, s, e, h1, h2, h3⟩, r⟩ => ⟨⟨t, c, s, e, ht _ _ h1, ht _ _ h2, hu _ _ h3⟩, wys_imp ht hu r⟩
  | [], _ :: _, h => h.elim
  | _ :: _, [], h => h.elim
theorem wys_same {K : PySem.W.Frag} {H H' : Hp} (s : Same H H') {vs : List V} {ws : List (List Int × Int × List Int)} (h : WysAt K H vs ws) : WysAt K H' vs ws := wys_imp (fun _ _ => same_t s) (fun _ _ => s _ _) h
theorem wys_but {K : PySem.W.Frag} {H H' : Hp} {D : Addr} (hD : Ch H D) (s : But D H H') {vs : List V} {ws : List (List Int × Int × List Int)} (h : WysAt K H vs ws) : WysAt K H' vs ws :=
  wys_imp (fun _ _ => sqT_but hD s) (fun a xs e => s _ _ (fun q => hD.1 _ (q ▸ e)) e) h
theorem wys_len {K : PySem.W.Frag} {H : Hp} : ∀ {vs : List V} {ws : List (List Int × Int × List Int)}, WysAt K H vs ws → vs.length = ws.length
  | [], [], _ => rfl
  | _ :: _, _ :: _, ⟨_, r⟩ => congrArg (· + 1) (wys_len r)
  | [], _ :: _, h => h.elim
  | _ :: _, [], h => h.elim
theorem wys_snoc {K : PySem.W.Frag} {H : Hp} {v : V} {w : List Int × Int × List Int} (hv : WayAt K H v w) : ∀ {vs : List V} {ws : List (List Int × Int × List Int)}, WysAt K H vs ws → WysAt K H (vs ++ [v]) (ws ++ [w])
  | [], [], _ => ⟨hv, trivial⟩
  | _ :: _, _ :: _, ⟨h, r⟩ => ⟨h, wys_snoc hv r⟩
  | [], _ :: _, h => h.elim
  | _ :: _, [], h => h.elim
theorem wys_at {K : PySem.W.Frag} {H : Hp} : ∀ {vs : List V} {ws : List (List Int × Int × List Int)} {i : Nat} {v : V}, WysAt K H vs ws → vs[i]? = some v → ∃ w, ws[i]? = some w ∧ WayAt K H v w
  | v :: _, w :: _, 0, u, ⟨h, _⟩, e => by
    cases (Option.some.inj e)
    exact ⟨w, rfl, h⟩
  | _ :: _, _ :: _, i + 1, u, ⟨_, r⟩, e => wys_at (i := i) r e
  | [], [], _, _, _, e => by simp at e
  | [], _ :: _, _, _, h, _ => h.elim
  | _ :: _, [], _, _, h, _ => h.elim
theorem wys_dp {K : PySem.W.Frag} {H : Hp} : ∀ {vs : List V} {ws : List (List Int × Int × List Int)}, WysAt K H vs ws → DpAll K H vs (ws.map wayD)
  | [], [], _ => .nil
  | _ :: _, _ :: _, ⟨⟨t, c, s, e, h1, h2, h3⟩, r⟩ => by
    subst e
    exact .cons (.tup h1 (.cons (.tup h2 ints_dps) (.cons (.int _) (.cons (.tup (.of h3) ints_dps) .nil)))) (wys_dp r)
  | [], _ :: _, h => h.elim
  | _ :: _, [], h => h.elim
theorem tups_noL (l : List (List Int)) : ∀ d ∈ l.map tupI, NoL d := fun d h => by
  obtain ⟨c, _, rfl⟩ := List.mem_map.mp h
  exact tupI_noL c
theorem ways_noL (l : List (List Int × Int × List Int)) : ∀ d ∈ l.map wayD, NoL d := fun d h => by
  obtain ⟨c, _, rfl⟩ := List.mem_map.mp h
  exact wayD_noL c
section
variable {P : Program} {w : World} {K : PySem.W.Frag} {mg : Str → Option Value} {base : Heap}
def spCalledX (K : PySem.W.Frag) : Sp := fun vs H Q E => ∃ (p b t f : Addr) (v : Vlt) (hs fs : List Int) (d : Str × Int × List Row) (a : Int), vs = [.ref p, .ref b, .ref t, .ref f] ∧ CallIs K H p b t f v hs fs d a ∧
  ((∃ r cs, WayM (codeOf d.2.2) (v.cells.map (·.1)) hs a fs r cs ∧ ∀ (z : Addr) (H' : Hp), Same H H' → H z = none → Dp K H' (.ref z) (.tuple [.int r, tupI cs]) → Q (.ref z) H') ∨ (OutW (codeOf d.2.2) (v.cells.map (·.1)) hs a fs ∧ ∀ H', Same H H' → E (.ref (He.ga K "CoinsOut")) none H'))
/-- all ways from a state -/
def spWays (K : PySem.W.Frag) : Sp := fun vs H Q _ => ∃ (y s b : Addr) (code : List FR) (sides hs : List Int) (a : Int) (n : Nat) (ws : List (List Int × Int × List Int)), vs = [.ref y, .ref s, .ref b] ∧ Dp K H (.ref y) (.tuple [.tuple (code.map FR.d), .int a]) ∧ SqT K H s (sides.map .int) ∧ SqT K H b (hs.map .int) ∧
  (∀ fs : List Int, (∀ f ∈ fs, 0 ≤ f ∧ f ≤ 1) → MOk (mst0 code sides hs fs a)) ∧ n ≤ 1000 ∧ Trav (WayM code sides hs a) (OutW code sides hs a) n [[]] ws ∧
  ∀ (z : Addr) (ys : List V) (H' : Hp), Same H H' → H z = none → H' z = some (.lst ys) → WysAt K H' ys ws → Q (.ref z) H'
theorem ca_ways_from (T : Txt w K mg) : Ca P w K mg base 12 "ways_from" (spWays K) := by
  refine ca_of (N := ["start", "sizes", "state", "ways", "due", "coins", "run"]) (ps := ["start", "sizes", "state"]) T.f_ways_from T.g_ways_from ⟨rfl, rfl, rfl, by decide +kernel, rfl, by decide +kernel, by decide +kernel⟩ (fun _ _ _ _ _ _ us hl => match us, hl with | [_, _, _], _ => rfl)
    (fun vs H Q E h => by obtain ⟨y, s0, b, code, sides, hs, a, n, ws, rfl, hy, hs0, hb, mok, hn, tr, q⟩ := h; rfl) (fun cdv A outer s H vs Q E hr h => ?_)
  have nd : (["start", "sizes", "state", "ways", "due", "coins", "run"] : List Str).Nodup := by decide +kernel
  obtain ⟨y, s0, b, code, sides, hs, a, n, ws, rfl, hy, hs0, hb, mok, hn, tr, q⟩ := h
  refine ⟨_, (pss_cons (ps_set (i := 3) nd rfl (.inl rfl) (pe_lst pa_nil))
      (pss_cons (ps_set (i := 4) nd rfl (.inl rfl) (pe_lst (pa_cons (pe_tup pa_nil) pa_nil)))
      (pss_cons (ps_while PassesOwn.never (pt_truth (pv 4) (by intro _; rfl)) (pss_cons (ps_set (i := 5) nd rfl (.inl rfl) (pe_bm0 PySem.F.plainAttrs_list PySem.F.slot_list_pop PySem.F.type_list_pop mt_pop (pv 4)))
      (pss_cons (ps_set (i := 6) nd rfl (.inl rfl) (pe_ma (ma_Run T) hr (pa_cons (pv 0) (pa_cons (pv 1) (pa_cons (pe_callTy call_list_of (by rfl) T.b_list boot_list (pa_cons (pv 2) pa_nil)) (pa_cons (pv 5) pa_nil))))))
      (pss_one (ps_try_onlyE (ts := fun _ _ _ => tSeq (tDrop (tBM K "list" rAppend (tVar 4) (tCons (tOp (rCatA K) (tVar 5) (tTup (tCons (tC (.int 1)) tNil))) tNil))) (tDrop (tBM K "list" rAppend (tVar 4) (tCons (tOp (rCatA K) (tVar 5) (tTup (tCons (tC (.int 0)) tNil))) tNil)))) (Wout := fun _ _ _ _ => False) (by exact (pss_one (ps_expr (pe_bm PySem.F.plainAttrs_list PySem.F.slot_list_append PySem.F.type_list_append mt_append (pv 3) (pa_cons (pe_tup (pa_cons (pv 5) (pa_cons (pe_fld (pv 6) rfl) (pa_cons (pe_tupleOf (by rfl) T.b_tuple (pe_fld (pv 6) rfl)) pa_nil)))) pa_nil))))) rfl rfl ⟨rfl, by decide, .inl T.g_CoinsOut⟩ takes0 (fun W pn xe tk _ => by exact (pss_one (ps_expr (pe_caX (cx_finish T) hr tk (pa_cons (pv 6) pa_nil))))) (fun _ _ _ _ _ _ _ => by exact (pss_cons (ps_expr (pe_bm PySem.F.plainAttrs_list PySem.F.slot_list_append PySem.F.type_list_append mt_append (pv 4) (pa_cons (pe_op op_catA (pv 5) (pe_tup (pa_cons pe_int pa_nil))) pa_nil)))
      (pss_one (ps_expr (pe_bm PySem.F.plainAttrs_list PySem.F.slot_list_append PySem.F.type_list_append mt_append (pv 4) (pa_cons (pe_op op_catA (pv 5) (pe_tup (pa_cons pe_int pa_nil))) pa_nil)))))))))))
      (pss_one (ps_ret (pv 3)))))), ?_⟩
  refine ⟨(by show 0 ≤ sizeLine; exact Nat.zero_le _), fun wl nwl => ⟨(by show 0 ≤ sizeLine; exact Nat.zero_le _), fun t0 nt0 => ⟨(by show 1 ≤ sizeLine; decide), fun du ndu => ?_⟩⟩⟩
  have a1 : Same H (upd H wl (.lst [])) := same_new nwl
  have e1 : upd H wl (.lst []) wl = some (.lst []) := upd_same
  generalize upd H wl (.lst []) = A1 at a1 e1 nt0 ndu ⊢
  have a2 : Same A1 (upd A1 t0 (.tup [])) := same_new nt0
  have e2 : upd A1 t0 (.tup []) t0 = some (.tup []) := upd_same
  generalize upd A1 t0 (.tup []) = A2 at a2 e2 ndu ⊢
  have a3 : Same A2 (upd A2 du (.lst [.ref t0])) := same_new ndu
  have e3 : upd A2 du (.lst [.ref t0]) du = some (.lst [.ref t0]) := upd_same
  have hwd : wl ≠ du := ne_of_none (a2 _ _ e1) ndu
  have ndu0 : H du = none := none_of (a1.trans a2) ndu
  generalize upd A2 du (.lst [.ref t0]) = A3 at a3 e3 ⊢
  refine ⟨fun m σ' H' => ∃ (x5 x6 : Option V) (ys dys : List V) (dn rest : List (List Int × Int × List Int)) (todo : List (List Int)), σ' = [some (.ref y), some (.ref s0), some (.ref b), some (.ref wl), some (.ref du), x5, x6] ∧ Same H H' ∧ H' wl = some (.lst ys) ∧ WysAt K H' ys dn ∧ H' du = some (.lst dys) ∧ DpAll K H' dys (todo.map tupI) ∧ Trav (WayM code sides hs a) (OutW code sides hs a) m todo rest ∧ ws = dn ++ rest ∧ dn.length + m ≤ n ∧ todo.length + m ≤ n + 1 ∧ ∀ fs ∈ todo, fs.length ≤ 4 ∧ ∀ f ∈ fs, 0 ≤ f ∧ f ≤ 1, ⟨n, none, none, [], [.ref t0], [], ws, [[]], rfl, (a1.trans a2).trans a3, (a2.trans a3) _ _ e1, wys_nil, e3, .cons (.tup (.of (a3 _ _ e2)) .nil) .nil, tr, rfl, by show 0 + n ≤ n; omega, by show 1 + n ≤ n + 1; omega, fun fs hf => by rw [List.mem_singleton.mp hf]; exact ⟨Nat.zero_le _, fun f h => nomatch h⟩⟩, ?_⟩
  rintro m σ' H' ⟨x5, x6, ys, dys, dn, rest, todo0, rfl, sH, hwl, dyw, hdu, dyd, trv, ews, hcount, htodo, hbits⟩
  refine ⟨_, rfl, _, .inl ⟨dys, .of hdu, rfl⟩, ?_⟩
  -- nothing is due, or the last one
  have todo : (todo0 = [] ∧ rest = [] ∧ m = 0) ∨ ∃ (m' : Nat) (todo : List (List Int)) (fs : List Int), todo0 = todo ++ [fs] ∧ m = m' + 1 ∧ ((∃ r cs ws', WayM code sides hs a fs r cs ∧ Trav (WayM code sides hs a) (OutW code sides hs a) m' todo ws' ∧ rest = (fs, r, cs) :: ws') ∨ (OutW code sides hs a fs ∧ fs.length < 4 ∧ Trav (WayM code sides hs a) (OutW code sides hs a) m' (todo ++ [fs ++ [1], fs ++ [0]]) rest)) := by
    cases trv with
    | done => exact .inl ⟨rfl, rfl, rfl⟩
    | hit h k => exact .inr ⟨_, _, _, rfl, rfl, .inl ⟨_, _, _, h, k, rfl⟩⟩
    | out h l k => exact .inr ⟨_, _, _, rfl, rfl, .inr ⟨h, l, k⟩⟩
  clear trv
  rcases todo with ⟨rfl, rfl, rfl⟩ | ⟨m', todo, fs, rfl, rfl, todoW⟩
  · cases dyd
    refine iteF ⟨_, rfl, ?_⟩
    rw [List.append_nil] at ews
    exact q wl ys H' sH nwl hwl (by rw [ews]; exact dyw)
  obtain ⟨dy0, v, rfl⟩ : ∃ dy0 v, dys = dy0 ++ [v] := by
    have l := dps_len dyd
    rw [List.length_map, List.length_append] at l
    have : dys ≠ [] := fun e => by rw [e] at l; simp at l
    exact ⟨_, _, (List.dropLast_concat_getLast this).symm⟩
  have l0 : dy0.length = todo.length := by
    have l := dps_len dyd
    simp only [List.length_map, List.length_append, List.length_cons, List.length_nil] at l
    omega
  obtain ⟨dyd0, dv⟩ : DpAll K H' dy0 (todo.map tupI) ∧ Dp K H' v (tupI fs) := by
    rw [List.map_append] at dyd
    exact dps_snoc dyd
  have hlen := (hbits fs (by simp)).1
  have hbit := (hbits fs (by simp)).2
  have hb0 : ∀ gs ∈ todo, gs.length ≤ 4 ∧ ∀ f ∈ gs, 0 ≤ f ∧ f ≤ 1 := fun gs hg => hbits gs (List.mem_append_left _ hg)
  rw [show (!(dy0 ++ [v]).isEmpty) = true from by simp]
  refine iteT ⟨fun σ2 H2 => ∃ j, j < m' + 1 ∧ ∃ (x5 x6 : Option V) (ys dys : List V) (dn rest : List (List Int × Int × List Int)) (todo : List (List Int)), σ2 = [some (.ref y), some (.ref s0), some (.ref b), some (.ref wl), some (.ref du), x5, x6] ∧ Same H H2 ∧ H2 wl = some (.lst ys) ∧ WysAt K H2 ys dn ∧ H2 du = some (.lst dys) ∧ DpAll K H2 dys (todo.map tupI) ∧ Trav (WayM code sides hs a) (OutW code sides hs a) j todo rest ∧ ws = dn ++ rest ∧ dn.length + j ≤ n ∧ todo.length + j ≤ n + 1 ∧ ∀ fs ∈ todo, fs.length ≤ 4 ∧ ∀ f ∈ fs, 0 ≤ f ∧ f ≤ 1, fun σ2 H2 ⟨j, hj, h2⟩ => ⟨j, hj, h2⟩, ?_⟩
  refine ⟨_, rfl, .inl ⟨rfl, _, .of hdu⟩, du, _, v, rfl, rfl, hdu, by simp, ?_⟩
  rw [List.dropLast_concat]
  have bd : But du H' (upd H' du (.lst dy0)) := But.upd
  have hdu1 : upd H' du (.lst dy0) du = some (.lst dy0) := upd_same
  generalize upd H' du (.lst dy0) = G0 at bd hdu1 ⊢
  have chd : Ch H' du := .lst hdu
  have sG : Same H G0 := fun b o e => bd _ _ (ne_of_none e ndu0) (sH _ _ e)
  have hwl1 := bd _ _ hwd hwl
  have dyw1 := wys_but chd bd dyw
  have dyd1 := dps_but chd bd dyd0 (tups_noL _)
  have dv1 := dp_but chd bd dv (tupI_noL _)
  obtain ⟨ca, cxs, rfl, hca, hcx⟩ := dp_tup dv1
  have := dps_ints hcx
  subst this
  -- the run
  refine ⟨_, rfl, _, rfl, _, rfl, b, _, rfl, .inr (same_t sG hb), fun l nl => ?_⟩
  have s1 : Same G0 (upd G0 l (.lst (hs.map V.int))) := same_new nl
  have hl1 : upd G0 l (.lst (hs.map V.int)) l = some (.lst (hs.map V.int)) := upd_same
  generalize upd G0 l (.lst (hs.map V.int)) = G1 at s1 hl1 ⊢
  refine ⟨_, rfl, fun x dxx hx hdx ne => ?_⟩
  have s2 : Same G1 (upd (upd G1 dxx (.own x)) x (.ins (He.ga K "Run") dxx [])) := (same_new hdx).trans (same_new (by rw [upd_ne (Ne.symm ne)]; exact hx))
  have hx2 : upd (upd G1 dxx (.own x)) x (.ins (He.ga K "Run") dxx []) x = some (.ins (He.ga K "Run") dxx []) := upd_same
  have s12 := s1.trans s2
  have sG2 := sG.trans s12
  refine ⟨x, dxx, y, s0, l, ca, true, code, sides, hs, fs, a, rfl, hx2, dp_same sG2 hy, same_t sG2 hs0, s2 _ _ hl1, .inr ⟨rfl, same_t s12 hca⟩, fun R H8 ex el ect en hh hu bt r => ⟨rfl, ?_⟩⟩
  have nx0 : G0 x = none := none_of s1 hx
  have rn : RunNew K G0 H8 R (mst0 code sides hs fs a) := ⟨fun b' o e => bt _ _ (ne_of_none e nx0) (s12 _ _ e), r, by rw [ex]; exact nx0, by rw [el]; exact nl, none_of s12 hh, none_of s12 hu⟩
  subst ex
  refine ⟨_, rfl, R, _, rfl, r, mok fs hbit, ?_⟩
  rcases todoW with ⟨r1, cs, ws', ⟨nn, st', fin, hres, rfl⟩, trv, rfl⟩ | ⟨⟨nn, out⟩, l4, trv⟩
  · refine .inl ⟨nn, st', fin, fun H9 bt9 r9 => ?_⟩
    have s9 := rn.fin bt9
    refine ⟨_, rfl, .inl ⟨rfl, _, .of (s9 _ _ hwl1)⟩, _, rfl, _, rfl, R.x, _, R.dx, _, _, rfl, r9.ins, T.c_Run, T.n_Run_result, rf_result, _, rfl, R.x, _, R.dx, _, _, rfl, r9.ins, T.c_Run, T.n_Run_cells, rf_cells, .inl ⟨R.l, _, rfl, .of r9.cells, fun u nu => ⟨(by show 3 ≤ sizeLine; decide), fun t nt => ?_⟩⟩⟩
    rw [hres, show resV (some r1) = V.int r1 from rfl]
    have t1 : Same H9 (upd H9 u (.tup (st'.cells.map V.int))) := same_new nu
    have f1 : upd H9 u (.tup (st'.cells.map V.int)) u = some (.tup (st'.cells.map V.int)) := upd_same
    generalize upd H9 u (.tup (st'.cells.map V.int)) = B1 at t1 f1 nt ⊢
    have t2 : Same B1 (upd B1 t (.tup [.ref ca, .int r1, .ref u])) := same_new nt
    have f2 : upd B1 t (.tup [.ref ca, .int r1, .ref u]) t = some (.tup [.ref ca, .int r1, .ref u]) := upd_same
    have t02 := (s9.trans t1).trans t2
    show _
    have dw : WayAt K (upd B1 t (.tup [.ref ca, .int r1, .ref u])) (.ref t) (fs, r1, st'.cells) := ⟨t, ca, u, rfl, .of f2, same_t t02 hca, t2 _ _ f1⟩
    have hwl2 := t02 _ _ hwl1
    have hdu2 := t02 _ _ hdu1
    have dyw2 := wys_same t02 dyw1
    have dyd2 := dps_same t02 dyd1
    have sB := sG.trans t02
    generalize upd B1 t (.tup [.ref ca, .int r1, .ref u]) = B2 at dw hwl2 hdu2 dyw2 dyd2 sB ⊢
    have bb : But wl B2 (upd B2 wl (.lst (ys ++ [.ref t]))) := But.upd
    have lys : ys.length = dn.length := by exact wys_len dyw2
    refine ⟨wl, ys, _, rfl, rfl, hwl2, by rw [sizeLine_eq]; omega, m', Nat.lt_succ_self _, _, _, ys ++ [.ref t], dy0, dn ++ [(fs, r1, st'.cells)], ws', todo, rfl, fun b o e => bb _ _ (ne_of_none e nwl) (sB _ _ e), upd_same, ?_, bb _ _ (Ne.symm hwd) hdu2, dps_but (.lst hwl2) bb dyd2 (tups_noL _), trv, by rw [ews]; simp, by simp; omega, by simp at htodo; omega, hb0⟩
    exact wys_but (.lst hwl2) bb (wys_snoc dw dyw2)
  · refine .inr ⟨nn, out, fun H9 bt9 => ⟨true, T.xm_CoinsOut, fun _ ea hea => ?_, fun z => nomatch z⟩⟩
    have s9 := rn.fin bt9
    have sH9 := sG.trans s9
    have hdu9 := s9 _ _ hdu1
    have hwl9 := s9 _ _ hwl1
    have dyd9 := dps_same s9 dyd1
    have dyw9 := wys_same s9 dyw1
    have hca9 := same_t s9 hca
    -- one more fall
    have more : ∀ (i : Int) (J : Hp) (t : Addr) (Z : VK), Same H9 J → SqT K J t [.int i] → (∀ (v : V) (J' : Hp), Same J J' → Dp K J' v (tupI (fs ++ [i])) → Z v J') → rCatA K (.ref ca) (.ref t) J Z := fun i J t Z sj ht k => by
      refine ⟨ca, t, _, _, rfl, rfl, same_t sj hca9, ht, by rw [List.length_map, sizeLine_eq]; simp; omega, fun e0 => ?_, fun _ e => (by cases e), fun _ _ p np => ?_⟩
      · have ef : fs = [] := List.map_eq_nil_iff.mp e0
        rw [ef] at k
        exact k _ _ (Same.refl _) (.tup ht (.cons (.int _) .nil))
      · refine k _ _ (same_new np) (.tup (.of upd_same) ?_)
        rw [List.map_append]
        exact dps_app ints_dps (.cons (.int _) .nil)
    refine ⟨_, rfl, .inl ⟨rfl, _, .of hdu9⟩, _, rfl, (by show 1 ≤ sizeLine; decide), fun t1 nt1 => ?_⟩
    have u1 : Same H9 (upd H9 t1 (.tup [.int 1])) := same_new nt1
    refine more 1 _ t1 _ u1 (.of upd_same) fun v1 J1 w1 d1 => ?_
    have u2 := u1.trans w1
    have hdu10 := u2 _ _ hdu9
    refine ⟨du, dy0, v1, rfl, rfl, hdu10, by rw [l0, sizeLine_eq]; simp at htodo; omega, ?_⟩
    have b1 : But du J1 (upd J1 du (.lst (dy0 ++ [v1]))) := But.upd
    have e11 : upd J1 du (.lst (dy0 ++ [v1])) du = some (.lst (dy0 ++ [v1])) := upd_same
    have d11 := dp_but (.lst hdu10) b1 d1 (tupI_noL _)
    have dyd11 := dps_but (.lst hdu10) b1 (dps_same u2 dyd9) (tups_noL _)
    have dyw11 := wys_but (.lst hdu10) b1 (wys_same u2 dyw9)
    have hwl11 := b1 _ _ hwd (u2 _ _ hwl9)
    have hca11 : SqT K (upd J1 du (.lst (dy0 ++ [v1]))) ca (fs.map V.int) := sqT_but (.lst hdu10) b1 (same_t u2 hca9)
    have sH11 : Same H (upd J1 du (.lst (dy0 ++ [v1]))) := fun b o e => b1 _ _ (ne_of_none e ndu0) (u2 _ _ (sH9 _ _ e))
    generalize upd J1 du (.lst (dy0 ++ [v1])) = J2 at b1 e11 d11 dyd11 dyw11 hwl11 hca11 sH11 ⊢
    have more2 : ∀ (i : Int) (J : Hp) (t : Addr) (Z : VK), Same J2 J → SqT K J t [.int i] → (∀ (v : V) (J' : Hp), Same J J' → Dp K J' v (tupI (fs ++ [i])) → Z v J') → rCatA K (.ref ca) (.ref t) J Z := fun i J t Z sj ht k => by
      refine ⟨ca, t, _, _, rfl, rfl, same_t sj hca11, ht, by rw [List.length_map, sizeLine_eq]; simp; omega, fun e0 => ?_, fun _ e => (by cases e), fun _ _ p np => ?_⟩
      · have ef : fs = [] := List.map_eq_nil_iff.mp e0
        rw [ef] at k
        exact k _ _ (Same.refl _) (.tup ht (.cons (.int _) .nil))
      · refine k _ _ (same_new np) (.tup (.of upd_same) ?_)
        rw [List.map_append]
        exact dps_app ints_dps (.cons (.int _) .nil)
    refine ⟨_, rfl, .inl ⟨rfl, _, .of e11⟩, _, rfl, (by show 1 ≤ sizeLine; decide), fun t2 nt2 => ?_⟩
    have u3 : Same J2 (upd J2 t2 (.tup [.int 0])) := same_new nt2
    refine more2 0 _ t2 _ u3 (.of upd_same) fun v2 J3 w3 d3 => ?_
    have u4 := u3.trans w3
    have hdu12 := u4 _ _ e11
    have b2 : But du J3 (upd J3 du (.lst (dy0 ++ [v1] ++ [v2]))) := But.upd
    refine ⟨du, dy0 ++ [v1], v2, rfl, rfl, hdu12, by rw [List.length_append, l0, sizeLine_eq]; simp at htodo ⊢; omega, m', Nat.lt_succ_self _, _, _, ys, dy0 ++ [v1] ++ [v2], dn, rest, todo ++ [fs ++ [1], fs ++ [0]], rfl, fun b o e => b2 _ _ (ne_of_none e ndu0) (u4 _ _ (sH11 _ _ e)), b2 _ _ hwd (u4 _ _ hwl11), wys_but (.lst hdu12) b2 (wys_same u4 dyw11), upd_same, ?_, trv, ews, by omega, by simp at htodo ⊢; omega, fun gs hg => ?_⟩
    · rw [show todo ++ [fs ++ [1], fs ++ [0]] = todo ++ [fs ++ [1]] ++ [fs ++ [0]] from by simp, List.map_append, List.map_append]
      exact dps_app (dps_app (dps_but (.lst hdu12) b2 (dps_same u4 dyd11) (tups_noL _)) (.cons (dp_but (.lst hdu12) b2 (dp_same u4 d11) (tupI_noL _)) .nil)) (.cons (dp_but (.lst hdu12) b2 d3 (tupI_noL _)) .nil)
    · rcases List.mem_append.mp hg with h | h
      · exact hb0 gs h
      · have hx : ∀ i : Int, (i = 0 ∨ i = 1) → (fs ++ [i]).length ≤ 4 ∧ ∀ f ∈ fs ++ [i], 0 ≤ f ∧ f ≤ 1 := fun i hi => ⟨by simp; omega, fun f hf => by
          rcases List.mem_append.mp hf with h | h
          · exact hbit f h
          · rw [List.mem_singleton.mp h]
            omega⟩
        simp only [List.mem_cons, List.not_mem_nil, or_false] at h
        rcases h with rfl | rfl
        · exact hx 1 (.inr rfl)
        · exact hx 0 (.inl rfl)
end

end M

set_option Elab.async false
set_option linter.all false
set_option maxRecDepth 100000
set_option maxHeartbeats 2000000
namespace M
open PySem PySem.Spec PyProof.Rows L2

section
variable {P : Program} {w : World} {K : PySem.W.Frag} {mg : Str → Option Value} {base : Heap}
/-- a call from a state, its coins left open -/
structure CallAt (K : PySem.W.Frag) (H : Hp) (p b t : Addr) (v : Vlt) (hs : List Int) (d : Str × Int × List Row) (a : Int) : Prop where
  vt : VaultAt K H p v
  gd : VGood v
  st : SqT K H b (hs.map .int)
  so : StateOk (v.cells.map (·.1)) hs
  tu : H t = some (.tup [.str d.1, .int a])
  de : d ∈ v.deeds
  ar : 0 ≤ a ∧ a < d.2.1
theorem CallAt.same {H H' : Hp} {p b t : Addr} {v : Vlt} {hs : List Int} {d : Str × Int × List Row} {a : Int} (s : Same H H') (c : CallAt K H p b t v hs d a) : CallAt K H' p b t v hs d a := ⟨c.vt.same s, c.gd, same_t s c.st, c.so, s _ _ c.tu, c.de, c.ar⟩
theorem CallAt.is {H : Hp} {p b t f : Addr} {v : Vlt} {hs fs : List Int} {d : Str × Int × List Row} {a : Int} (c : CallAt K H p b t v hs d a) (hf : SqL K H f (fs.map .int)) (f4 : fs.length ≤ 4) (f1 : ∀ f ∈ fs, 0 ≤ f ∧ f ≤ 1) : CallIs K H p b t f v hs fs d a := ⟨c.vt, c.gd, c.st, c.so, c.tu, c.de, c.ar, hf, f4, f1⟩
theorem CallAt.mok {H : Hp} {p b t : Addr} {v : Vlt} {hs : List Int} {d : Str × Int × List Row} {a : Int} (c : CallAt K H p b t v hs d a) (fs : List Int) (f1 : ∀ f ∈ fs, 0 ≤ f ∧ f ≤ 1) : MOk (mst0 (codeOf d.2.2) (v.cells.map (·.1)) hs fs a) :=
  mst0_ok c.gd c.de c.so ⟨c.ar.1, by have := c.ar.2; have := (c.gd.ds d c.de).2.1.2; omega⟩ f1
theorem CallAt.call {H : Hp} {p b t : Addr} {v : Vlt} {hs : List Int} {d : Str × Int × List Row} {a : Int} (c : CallAt K H p b t v hs d a) : ∃ i : Nat, v.calls[i]? = some (d.1, a) := by
  have : (d.1, a) ∈ v.calls := by
    unfold Vlt.calls
    refine List.mem_flatMap.mpr ⟨d, c.de, List.mem_map.mpr ⟨a.toNat, List.mem_range.mpr ?_, ?_⟩⟩
    · have := c.ar
      omega
    · exact Prod.ext rfl (Int.toNat_of_nonneg c.ar.1)
  obtain ⟨i, hi, e⟩ := List.mem_iff_getElem.mp this
  exact ⟨i, by rw [List.getElem?_eq_getElem hi, e]⟩
def spOuts (K : PySem.W.Frag) : Sp := fun vs H Q _ => ∃ (p b t : Addr) (v : Vlt) (hs : List Int) (d : Str × Int × List Row) (a : Int) (n : Nat) (ws : List (List Int × Int × List Int)), vs = [.ref p, .ref b, .ref t] ∧ CallAt K H p b t v hs d a ∧ n ≤ 1000 ∧
  Trav (WayM (codeOf d.2.2) (v.cells.map (·.1)) hs a) (OutW (codeOf d.2.2) (v.cells.map (·.1)) hs a) n [[]] ws ∧ ∀ (z : Addr) (ys : List V) (H' : Hp), Same H H' → H z = none → H' z = some (.lst ys) → DpAll K H' ys (ws.map wayD) → Q (.ref z) H'
end

end M

set_option Elab.async false
set_option linter.all false
set_option maxRecDepth 100000
set_option maxHeartbeats 2000000
namespace M
open PySem PySem.Spec PyProof.Rows L2

theorem fut_out : Fut fun n M _ => OutM n M := fun _ _ _ _ h h0 hf c r => .step h h0 hf c r
section
variable {C : List FR} {k : Int}
mutual
theorem simRowO {ro : List Int} : ∀ {r : Row} {st : Mst} {c : List FR} {deep loops : Nat}, RowO r st → r.ok k deep loops → ro.length ≤ loops → Agr C c (putRow r c) → ∃ n, OutM n (emb C c.length ro st)
  | _, _, c, _, _, .coin (x := x) (st := st) h, ok, _, ag =>
    ⟨0, .here (x := x) rfl (Int.natCast_nonneg _) (by show C[((c.length : Nat) : Int).toNat]? = _; rw [Int.toNat_natCast]; exact agr_one (f := .row (.coin x)) ag) h⟩
  | _, _, c, _, _, .yes (e := e) (a := a) (b := b) h r, ok, hl, ag => by
    obtain ⟨c1, h1⟩ : ∃ c1, c1 = putRows a (c ++ [FR.hole]) := ⟨_, rfl⟩
    obtain ⟨c2, h2⟩ : ∃ c2, c2 = putRows b ((c1 ++ [FR.hole]).set c.length (FR.unless e (c1.length + 1))) := ⟨_, rfl⟩
    obtain ⟨ec, l1, l2, p0, pa, p1, pb⟩ := lay_iff h1 h2
    rw [ec] at ag
    have lc : (c2.set c1.length (FR.on c2.length)).length = c2.length := List.length_set
    have C0 := (ag c.length (Nat.le_refl _) (by omega)).trans p0
    have lh : (c ++ [FR.hole]).length = c.length + 1 := by simp
    obtain ⟨n, ih⟩ := simRowsO r ok.2.1 hl (c := c ++ [FR.hole]) (fun i hi hj => (ag i (by omega) (by rw [← h1] at hj; omega)).trans ((pa i (by omega) (by rw [← h1] at hj; exact hj)).trans (by rw [h1])))
    rw [lh] at ih
    exact emb_yes C0 h _ fut_out n [] ih
  | _, _, c, _, _, .no (e := e) (a := a) (b := b) h r, ok, hl, ag => by
    obtain ⟨c1, h1⟩ : ∃ c1, c1 = putRows a (c ++ [FR.hole]) := ⟨_, rfl⟩
    obtain ⟨c2, h2⟩ : ∃ c2, c2 = putRows b ((c1 ++ [FR.hole]).set c.length (FR.unless e (c1.length + 1))) := ⟨_, rfl⟩
    obtain ⟨ec, l1, l2, p0, pa, p1, pb⟩ := lay_iff h1 h2
    rw [ec] at ag
    have lc : (c2.set c1.length (FR.on c2.length)).length = c2.length := List.length_set
    have C0 := (ag c.length (Nat.le_refl _) (by omega)).trans p0
    have ld : ((c1 ++ [FR.hole]).set c.length (FR.unless e (c1.length + 1))).length = c1.length + 1 := by simp
    obtain ⟨n, ih⟩ := simRowsO r ok.2.2 hl (c := (c1 ++ [FR.hole]).set c.length (FR.unless e (c1.length + 1))) (fun i hi hj => (ag i (by omega) (by rw [← h2] at hj; omega)).trans ((pb i (by omega)).trans (by rw [h2])))
    rw [ld] at ih
    exact emb_no C0 h _ fut_out n [] ih
theorem simRowsO {ro : List Int} : ∀ {rs : List Row} {st : Mst} {c : List FR} {deep loops : Nat}, RowsO rs st → rowsOk k deep loops rs → ro.length ≤ loops → Agr C c (putRows rs c) → ∃ n, OutM n (emb C c.length ro st)
  | _, _, c, _, _, .here (r := r) (rs := rs) h, ok, hl, ag => by
    have g := putRows_goes rs (putRow r c)
    exact simRowO h ok.2.1 hl (c := c) (fun i hi hj => (ag i hi (Nat.lt_of_lt_of_le hj g.le)).trans (g.old i hj))
  | _, _, c, _, _, .later (r := r) (rs := rs) h kk, ok, hl, ag => by
    have g := putRows_goes rs (putRow r c)
    have g0 := (putRow_goes r c).le
    have i1 := simRow h ok.2.1 hl (c := c) (fun i hi hj => (ag i hi (Nat.lt_of_lt_of_le hj g.le)).trans (g.old i hj))
    obtain ⟨n, i2⟩ := simRowsO kk ok.2.2 hl (c := putRow r c) (fun i hi hj => ag i (Nat.le_trans g0 hi) hj)
    exact i1 _ fut_out n [] i2
end
end
theorem body_out {rs : List Row} {k : Int} {sides cells coins : List Int} {a : Int} (ok : rowsOk k 1 0 rs) (r : RowsO rs (mst0 (codeOf rs) sides cells coins a)) : OutW (codeOf rs) sides cells a coins := by
  have g : Agr (codeOf rs) [] (putRows rs []) := fun i _ hj => List.getElem?_append_left hj
  exact simRowsO (C := codeOf rs) (ro := []) r ok (Nat.le_refl 0) g
/-! ### what the law's walker says of a call -/
def WL (rs : List Row) (sides hs : List Int) (a : Int) (fs : List Int) (r : Int) (cs : List Int) : Prop := ∃ s o t, RowsS rs (mst0 (codeOf rs) sides hs fs a) s o t ∧ o.getD 0 = r ∧ s.cells = cs
def OL (rs : List Row) (sides hs : List Int) (a : Int) (fs : List Int) : Prop := RowsO rs (mst0 (codeOf rs) sides hs fs a)
theorem wl_way {rs : List Row} {k : Int} {sides hs fs cs : List Int} {a r : Int} (ok : rowsOk k 1 0 rs) (h : WL rs sides hs a fs r cs) : WayM (codeOf rs) sides hs a fs r cs := by
  obtain ⟨s, o, t, h, rfl, rfl⟩ := h
  obtain ⟨n, Z, f, h1, h2⟩ := body_fin ok h
  exact ⟨n, Z, f.fin, h1, h2⟩
theorem Trav.imp {W W' : List Int → Int → List Int → Prop} {O O' : List Int → Prop} (hW : ∀ fs r cs, W fs r cs → W' fs r cs) (hO : ∀ fs, O fs → O' fs) : ∀ {n : Nat} {todo : List (List Int)} {ws : List (List Int × Int × List Int)}, Trav W O n todo ws → Trav W' O' n todo ws
  | _, _, _, .done => .done
  | _, _, _, .hit h k => .hit (hW _ _ _ h) (k.imp hW hO)
  | _, _, _, .out h l k => .out (hO _ h) l (k.imp hW hO)
/-! ### further falls do not matter -/
def addM (m : List Int) (st : Mst) : Mst := { st with coins := st.coins ++ m }
theorem add_plain {r : Row} (h : plainR r) (m : List Int) (st : Mst) : stp1 (.row r) (addM m st) = addM m (stp1 (.row r) st) := by
  cases r with
  | swap r k e f =>
    show (if st.cells.getD k.toNat 0 = e.ev st.regs then ({ addM m st with cells := st.cells.set k.toNat (f.ev st.regs % st.sides.getD k.toNat 0), regs := rset st.regs r 1 } : Mst) else { addM m st with regs := rset st.regs r 0 }) = addM m (if st.cells.getD k.toNat 0 = e.ev st.regs then { st with cells := st.cells.set k.toNat (f.ev st.regs % st.sides.getD k.toNat 0), regs := rset st.regs r 1 } else { st with regs := rset st.regs r 0 })
    split <;> rfl
  | read r k => rfl
  | set k e => rfl
  | keep r e => rfl
  | _ => exact h.elim
theorem add_tell {r : Row} (m : List Int) (st : Mst) : tell (.row r) (addM m st) = tell (.row r) st := by cases r <;> rfl
mutual
theorem add_row (m : List Int) : ∀ {r : Row} {st s : Mst} {o : Option Int} {t : List PyData}, RowS r st s o t → RowS r (addM m st) (addM m s) o t
  | r, _, _, _, _, .plain (st := st) h => by
    rw [← add_plain h, ← add_tell m, ← add_plain h]
    exact .plain h
  | _, _, _, _, _, .coin (x := x) (st := st) h => by
    have e : addM m (stp1 (.row (.coin x)) st) = stp1 (.row (.coin x)) (addM m st) := by
      show addM m { st with regs := rset st.regs x (st.coins.getD st.fallen.toNat 0), fallen := st.fallen + 1 } = { addM m st with regs := rset st.regs x ((st.coins ++ m).getD st.fallen.toNat 0), fallen := st.fallen + 1 }
      have : (st.coins ++ m).getD st.fallen.toNat 0 = st.coins.getD st.fallen.toNat 0 := by
        rw [List.getD_eq_getElem?_getD, List.getD_eq_getElem?_getD, List.getElem?_append_left (by omega)]
      rw [this]
      rfl
    rw [e]
    exact .coin ⟨h.1, by show st.fallen < ((st.coins ++ m).length : Nat); rw [List.length_append]; omega⟩
  | _, _, _, _, _, .ans => .ans
  | _, _, _, _, _, .yes h r => .yes h (add_rows m r)
  | _, _, _, _, _, .no h r => .no h (add_rows m r)
  | _, _, _, _, _, .times hn r => .times hn (add_times m r)
theorem add_rows (m : List Int) : ∀ {rs : List Row} {st s : Mst} {o : Option Int} {t : List PyData}, RowsS rs st s o t → RowsS rs (addM m st) (addM m s) o t
  | _, _, _, _, _, .nil => .nil
  | _, _, _, _, _, .stop h => .stop (add_row m h)
  | _, _, _, _, _, .cons h k => .cons (add_row m h) (add_rows m k)
theorem add_times (m : List Int) : ∀ {n : Nat} {a : List Row} {st s : Mst} {o : Option Int} {t : List PyData}, TimesS n a st s o t → TimesS n a (addM m st) (addM m s) o t
  | _, _, _, _, _, _, .zero => .zero
  | _, _, _, _, _, _, .stop h => .stop (add_rows m h)
  | _, _, _, _, _, _, .more h k => .more (add_rows m h) (add_times m k)
end
theorem wl_more {rs : List Row} {sides hs fs cs : List Int} {a r : Int} (m : List Int) (h : WL rs sides hs a fs r cs) : WL rs sides hs a (fs ++ m) r cs := by
  obtain ⟨s, o, t, h, e1, e2⟩ := h
  exact ⟨addM m s, o, t, add_rows m h, e1, e2⟩
/-! ### the tree of falls -/
def pot (fs : List Int) : Nat := 2 ^ (5 - fs.length) - 1
def chn (fs : List Int) : Nat := 2 ^ (4 - fs.length)
theorem pot_pos {fs : List Int} (h : fs.length ≤ 4) : 1 ≤ pot fs := by
  unfold pot
  have : fs.length = 0 ∨ fs.length = 1 ∨ fs.length = 2 ∨ fs.length = 3 ∨ fs.length = 4 := by omega
  rcases this with e | e | e | e | e <;> rw [e] <;> decide
theorem pot_two {fs : List Int} (h : fs.length < 4) : pot (fs ++ [1]) + pot (fs ++ [0]) + 1 = pot fs := by
  unfold pot
  rw [List.length_append, List.length_append]
  have : fs.length = 0 ∨ fs.length = 1 ∨ fs.length = 2 ∨ fs.length = 3 := by omega
  rcases this with e | e | e | e <;> rw [e] <;> decide
theorem chn_two {fs : List Int} (h : fs.length < 4) : chn (fs ++ [1]) + chn (fs ++ [0]) = chn fs := by
  unfold chn
  rw [List.length_append, List.length_append]
  have : fs.length = 0 ∨ fs.length = 1 ∨ fs.length = 2 ∨ fs.length = 3 := by omega
  rcases this with e | e | e | e <;> rw [e] <;> decide
def Pre (O : List Int → Prop) (fs : List Int) : Prop := fs.length ≤ 4 ∧ (∀ f ∈ fs, 0 ≤ f ∧ f ≤ 1) ∧ ∀ k, k < fs.length → O (fs.take k)
theorem Pre.more {O : List Int → Prop} {fs : List Int} {i : Int} (h : Pre O fs) (o : O fs) (l : fs.length < 4) (hi : 0 ≤ i ∧ i ≤ 1) : Pre O (fs ++ [i]) := by
  refine ⟨by simp; omega, fun f hf => ?_, fun k hk => ?_⟩
  · rcases List.mem_append.mp hf with h' | h'
    · exact h.2.1 f h'
    · rw [List.mem_singleton.mp h']
      exact hi
  · simp at hk
    rw [List.take_append_of_le_length (by omega)]
    by_cases e : k = fs.length
    · rw [e, List.take_length]
      exact o
    · exact h.2.2 k (by omega)

end M

set_option Elab.async false
set_option linter.all false
set_option maxRecDepth 100000
set_option maxHeartbeats 2000000
namespace M
open PySem PySem.Spec PyProof.Rows L2

mutual
theorem ans_row : ∀ {r : Row} {st s : Mst} {v : Int} {t : List PyData} {deep loops : Nat}, RowS r st s (some v) t → r.ok st.cells.length deep loops → MOk st → 0 ≤ v ∧ v ≤ 9
  | _, _, _, _, _, _, _, .ans, ok, m => ev_bd m.rg ok.1
  | _, _, _, _, _, _, _, .yes h r, ok, m => ans_rows r ok.2.1 m
  | _, _, _, _, _, _, _, .no h r, ok, m => ans_rows r ok.2.2 m
  | _, _, _, _, _, _, _, .times hn r, ok, m => ans_times r ok.2.2 (Nat.succ_pos _) m
theorem ans_rows : ∀ {rs : List Row} {st s : Mst} {v : Int} {t : List PyData} {deep loops : Nat}, RowsS rs st s (some v) t → rowsOk st.cells.length deep loops rs → MOk st → 0 ≤ v ∧ v ≤ 9
  | _, _, _, _, _, _, _, .stop h, ok, m => ans_row h ok.2.1 m
  | _, _, _, _, _, _, _, .cons h k, ok, m => by
    have a := aft_row h ok.2.1 m
    exact ans_rows k (by rw [a.le]; exact ok.2.2) a.mo
theorem ans_times : ∀ {n : Nat} {a : List Row} {st s : Mst} {v : Int} {t : List PyData} {deep loops : Nat}, TimesS n a st s (some v) t → rowsOk st.cells.length deep loops a → 0 < loops → MOk st → 0 ≤ v ∧ v ≤ 9
  | _, a, _, _, _, _, _, _, .stop h, ok, l, m => ans_rows h ok m
  | _, a, _, _, _, _, _, _, .more h k, ok, l, m => by
    have z := aft_rows h ok m
    exact ans_times k (by rw [z.le]; exact ok) l z.mo
end
/-- lists of falls, none of them the list at D or at E -/
def LsAt (H : Hp) (D E : Addr) : List V → List (List Int) → Prop
  | [], [] => True
  | v :: vs, fs :: r => (∃ p, v = .ref p ∧ H p = some (.lst (fs.map .int)) ∧ p ≠ D ∧ p ≠ E) ∧ LsAt H D E vs r
  | _, _ => False
theorem LsAt.keep {H H' : Hp} {D E : Addr} (k : ∀ b o, b ≠ D → b ≠ E → H b = some o → H' b = some o) : ∀ {vs : List V} {r : List (List Int)}, LsAt H D E vs r → LsAt H' D E vs r
  | [], [], _ => trivial
  | _ :: _, _ :: _, ⟨⟨p, e, h, n1, n2⟩, r⟩ => ⟨⟨p, e, k _ _ n1 n2 h, n1, n2⟩, r.keep k⟩
  | [], _ :: _, h => h.elim
  | _ :: _, [], h => h.elim
theorem LsAt.len {H : Hp} {D E : Addr} : ∀ {vs : List V} {r : List (List Int)}, LsAt H D E vs r → vs.length = r.length
  | [], [], _ => rfl
  | _ :: _, _ :: _, ⟨_, r⟩ => congrArg (· + 1) r.len
  | [], _ :: _, h => h.elim
  | _ :: _, [], h => h.elim
theorem LsAt.snoc {H : Hp} {D E p : Addr} {fs : List Int} (hp : H p = some (.lst (fs.map .int))) (n1 : p ≠ D) (n2 : p ≠ E) : ∀ {vs : List V} {r : List (List Int)}, LsAt H D E vs r → LsAt H D E (vs ++ [.ref p]) (r ++ [fs])
  | [], [], _ => ⟨⟨p, rfl, hp, n1, n2⟩, trivial⟩
  | _ :: _, _ :: _, ⟨h, r⟩ => ⟨h, r.snoc hp n1 n2⟩
  | [], _ :: _, h => h.elim
  | _ :: _, [], h => h.elim
theorem LsAt.last {H : Hp} {D E : Addr} : ∀ {vs : List V} {r : List (List Int)}, LsAt H D E vs r → r ≠ [] → ∃ (v0 : List V) (p : Addr) (r0 : List (List Int)) (fs : List Int), vs = v0 ++ [.ref p] ∧ r = r0 ++ [fs] ∧ H p = some (.lst (fs.map .int)) ∧ p ≠ D ∧ p ≠ E ∧ LsAt H D E v0 r0
  | [], [], _, n => absurd rfl n
  | [v], [fs], ⟨⟨p, e, h, n1, n2⟩, _⟩, _ => ⟨[], p, [], fs, by rw [e]; rfl, rfl, h, n1, n2, trivial⟩
  | v :: v1 :: vs, fs :: f1 :: r, ⟨h, k⟩, _ => by
    obtain ⟨v0, p, r0, gs, e1, e2, hp, n1, n2, h0⟩ := LsAt.last (vs := v1 :: vs) (r := f1 :: r) k (by simp)
    exact ⟨v :: v0, p, fs :: r0, gs, by rw [e1]; rfl, by rw [e2]; rfl, hp, n1, n2, ⟨h, h0⟩⟩
  | [_], _ :: _ :: _, ⟨_, h⟩, _ => h.elim
  | _ :: _ :: _, [_], ⟨_, h⟩, _ => h.elim
  | [], _ :: _, h, _ => h.elim
  | _ :: _, [], h, _ => h.elim
section
variable {P : Program} {w : World} {K : PySem.W.Frag} {mg : Str → Option Value} {base : Heap}
/-- the law's cells, deeds, state and call -/
structure LawAt (K : PySem.W.Frag) (H : Hp) (ca da ba ta : Addr) (cxs dxs : List V) (cs : List (Int × Int)) (ds : List (Str × Int × List Row)) (hs : List Int) (d : Str × Int × List Row) (arg : Int) : Prop where
  cl : SqL K H ca cxs
  cx : DpAll K H cxs (cs.map cellD)
  dl : SqL K H da dxs
  dx : DpAll K H dxs (ds.map deedD)
  sb : SqT K H ba (hs.map .int)
  tu : H ta = some (.tup [.str d.1, .int arg])
theorem LawAt.same {H H' : Hp} {ca da ba ta : Addr} {cxs dxs : List V} {cs : List (Int × Int)} {ds : List (Str × Int × List Row)} {hs : List Int} {d : Str × Int × List Row} {arg : Int} (s : Same H H') (l : LawAt K H ca da ba ta cxs dxs cs ds hs d arg) : LawAt K H' ca da ba ta cxs dxs cs ds hs d arg :=
  ⟨s.seq l.cl, dps_same s l.cx, s.seq l.dl, dps_same s l.dx, same_t s l.sb, s _ _ l.tu⟩
/-- what holds of the deed -/
structure DeedIs (cs : List (Int × Int)) (ds : List (Str × Int × List Row)) (hs : List Int) (d : Str × Int × List Row) (arg : Int) : Prop where
  nd : (ds.map (·.1)).Nodup
  c6 : cs.length ≤ 6
  d8 : ds.length ≤ 8
  de : d ∈ ds
  mo : ∀ fs : List Int, (∀ f ∈ fs, 0 ≤ f ∧ f ≤ 1) → MOk (mst0 (codeOf d.2.2) (cs.map (·.1)) hs fs arg)
  ok : rowsOk hs.length 1 0 d.2.2
  cc : rowsCc d.2.2 ≤ 4
  mx : mxs d.2.2 ≤ 200000
abbrev Ways (cs : List (Int × Int)) (hs : List Int) (d : Str × Int × List Row) (arg : Int) (ws : List (List Int × Int × List Int)) : Prop := ∀ w ∈ ws, Pre (OL d.2.2 (cs.map (·.1)) hs arg) w.1 ∧ WL d.2.2 (cs.map (·.1)) hs arg w.1 w.2.1 w.2.2
def spOutsL (K : PySem.W.Frag) : Sp := fun vs H Q _ => ∃ (ca da ba ta : Addr) (cxs dxs : List V) (cs : List (Int × Int)) (ds : List (Str × Int × List Row)) (hs : List Int) (d : Str × Int × List Row) (arg : Int), vs = [.ref ca, .ref da, .ref ba, .ref ta] ∧ LawAt K H ca da ba ta cxs dxs cs ds hs d arg ∧ DeedIs cs ds hs d arg ∧
  ∀ (z : Addr) (ys : List V) (ws : List (List Int × Int × List Int)) (n : Nat) (H' : Hp), Same H H' → H z = none → H' z = some (.lst ys) → WysAt K H' ys ws → Trav (WL d.2.2 (cs.map (·.1)) hs arg) (OL d.2.2 (cs.map (·.1)) hs arg) n [[]] ws → n ≤ 31 → (ws.map fun w => chn w.1).sum = 16 → Ways cs hs d arg ws → Q (.ref z) H'
theorem ca_l_outs (T : Txt w K mg) : Ca P w K mg base 25 "_law_outs" (spOutsL K) := by
  refine ca_of (N := ["_law_cells_here", "_law_deeds_here", "_law_state", "_law_call_here", "_law_outs_here", "_law_todo", "_law_turn", "_law_falls", "_law_came"]) (ps := ["_law_cells_here", "_law_deeds_here", "_law_state", "_law_call_here"]) T.f_l_outs T.g_law_outs ⟨rfl, rfl, rfl, by decide +kernel, rfl, by decide +kernel, by decide +kernel⟩ (fun _ _ _ _ _ _ us hl => match us, hl with | [_, _, _, _], _ => rfl)
    (fun vs H Q E h => by obtain ⟨ca, da, ba, ta, cxs, dxs, cs, ds, hs, d, arg, rfl, la, di, q⟩ := h; rfl) (fun cdv A outer s H vs Q E hr h => ?_)
  have nd : (["_law_cells_here", "_law_deeds_here", "_law_state", "_law_call_here", "_law_outs_here", "_law_todo", "_law_turn", "_law_falls", "_law_came"] : List Str).Nodup := by decide +kernel
  obtain ⟨ca, da, ba, ta, cxs, dxs, cs, ds, hs, d, arg, rfl, la, di, q⟩ := h
  refine ⟨_, (pss_cons (ps_set (i := 4) nd rfl (.inl rfl) (pe_lst pa_nil))
      (pss_cons (ps_set (i := 5) nd rfl (.inl rfl) (pe_lst (pa_cons (pe_lst pa_nil) pa_nil)))
      (pss_cons (ps_for PassesOwn.never rfl (pi_range1 rfl T.b_range (pa_cons pe_int pa_nil)) (pg_name (i := 6) nd rfl (.inl rfl)) (pss_one (ps_if (pt_cmpR op_gt (pe_callB call_len_seq (by rfl) T.b_len PySem.boot_len (pa_cons (pv 5) pa_nil)) pe_int (nomark _)) (pss_cons (ps_set (i := 7) nd rfl (.inl rfl) (pe_bm0 PySem.F.plainAttrs_list PySem.F.slot_list_pop PySem.F.type_list_pop mt_pop (pv 5)))
      (pss_cons (ps_set (i := 8) nd rfl (.inl rfl) (pe_ca (ca_l_call T) hr (pa_cons (pv 0) (pa_cons (pv 1) (pa_cons (pv 2) (pa_cons (pv 3) (pa_cons (pv 7) pa_nil)))))))
      (pss_one (ps_if (pt_cmpR op_eq (pe_ix ix_tup (pv 8) pe_int (fun _ _ => rfl)) (pe_un un_neg pe_int) (nomark _)) (pss_cons (ps_expr (pe_bm PySem.F.plainAttrs_list PySem.F.slot_list_append PySem.F.type_list_append mt_append (pv 5) (pa_cons (pe_op op_cat (pv 7) (pe_lst (pa_cons pe_int pa_nil))) pa_nil)))
      (pss_one (ps_expr (pe_bm PySem.F.plainAttrs_list PySem.F.slot_list_append PySem.F.type_list_append mt_append (pv 5) (pa_cons (pe_op op_cat (pv 7) (pe_lst (pa_cons pe_int pa_nil))) pa_nil))))) (pss_one (ps_expr (pe_bm PySem.F.plainAttrs_list PySem.F.slot_list_append PySem.F.type_list_append mt_append (pv 4) (pa_cons (pe_tup (pa_cons (pe_tupleOf (by rfl) T.b_tuple (pv 7)) (pa_cons (pe_ix ix_tup (pv 8) pe_int (fun _ _ => rfl)) (pa_cons (pe_ix ix_tup (pv 8) pe_int (fun _ _ => rfl)) pa_nil)))) pa_nil)))))))) pss_nil)))
      (pss_one (ps_ret (pv 4)))))), ?_⟩
  refine ⟨(by show 0 ≤ sizeLine; exact Nat.zero_le _), fun ol nol => ⟨(by show 0 ≤ sizeLine; exact Nat.zero_le _), fun t0 nt0 => ⟨(by show 1 ≤ sizeLine; decide), fun tl ntl => ?_⟩⟩⟩
  have a1 : Same H (upd H ol (.lst [])) := same_new nol
  have e1 : upd H ol (.lst []) ol = some (.lst []) := upd_same
  generalize upd H ol (.lst []) = A1 at a1 e1 nt0 ntl ⊢
  have a2 : Same A1 (upd A1 t0 (.lst [])) := same_new nt0
  have e2 : upd A1 t0 (.lst []) t0 = some (.lst []) := upd_same
  have hot : t0 ≠ ol := Ne.symm (ne_of_none e1 nt0)
  generalize upd A1 t0 (.lst []) = A2 at a2 e2 ntl ⊢
  have a3 : Same A2 (upd A2 tl (.lst [.ref t0])) := same_new ntl
  have e3 : upd A2 tl (.lst [.ref t0]) tl = some (.lst [.ref t0]) := upd_same
  have hol : ol ≠ tl := ne_of_none (a2 _ _ e1) ntl
  have htt : t0 ≠ tl := ne_of_none e2 ntl
  have ntl0 : H tl = none := none_of (a1.trans a2) ntl
  generalize upd A2 tl (.lst [.ref t0]) = A3 at a3 e3 ⊢
  refine ⟨31, rfl, by decide, by decide, for_it (n := 31) walk_range (fun i σ' H' => ∃ (x6 x7 x8 : Option V) (ys vs : List V) (dn : List (List Int × Int × List Int)) (todo : List (List Int)) (c : Nat), σ' = [some (.ref ca), some (.ref da), some (.ref ba), some (.ref ta), some (.ref ol), some (.ref tl), x6, x7, x8] ∧ Same H H' ∧ H' ol = some (.lst ys) ∧ WysAt K H' ys dn ∧ H' tl = some (.lst vs) ∧ LsAt H' ol tl vs todo ∧
    (∀ m rest, Trav (WL d.2.2 (cs.map (·.1)) hs arg) (OL d.2.2 (cs.map (·.1)) hs arg) m todo rest → Trav (WL d.2.2 (cs.map (·.1)) hs arg) (OL d.2.2 (cs.map (·.1)) hs arg) (c + m) [[]] (dn ++ rest)) ∧ c ≤ i ∧ (todo.map pot).sum + i ≤ 31 ∧ (dn.map fun w => chn w.1).sum + (todo.map chn).sum = 16 ∧ (∀ fs ∈ todo, Pre (OL d.2.2 (cs.map (·.1)) hs arg) fs) ∧ Ways cs hs d arg dn ∧ dn.length ≤ i ∧ todo.length ≤ i + 1) ⟨none, none, none, [], [.ref t0], [], [[]], 0, rfl, (a1.trans a2).trans a3, (a2.trans a3) _ _ e1, wys_nil, e3, ⟨⟨t0, rfl, a3 _ _ e2, hot, htt⟩, trivial⟩, fun m rest h => by rw [Nat.zero_add]; exact h, Nat.le_refl 0, by decide, by decide, fun fs hf => by rw [List.mem_singleton.mp hf]; exact ⟨by decide, (fun f h => nomatch h), fun k hk => absurd hk (Nat.not_lt_zero k)⟩, (fun w h => nomatch h), Nat.le_refl 0, Nat.le_refl 1⟩ (fun _ _ _ _ _ => trivial) ?_ ?_⟩
  · rintro i z σ' Hz H' hi ⟨x6, x7, x8, ys, vs, dn, todo0, c, rfl, sH, hol', dyw, htl, hls, htr, hci, hpot, hch, hpre, hway, hdn, htd⟩ ⟨rfl, rfl⟩
    have lvs := hls.len
    refine ⟨_, rfl, _, _, rfl, .inl (.of htl), _, _, rfl, rfl, _, rfl, ?_⟩
    by_cases te : todo0 = []
    · subst te
      rw [decide_eq_false (show ¬ (0 : Int) < ((vs.length : Nat) : Int) from by rw [lvs]; show ¬ (0 : Int) < 0; decide)]
      exact iteF ⟨_, _, _, ys, vs, dn, [], c, rfl, sH, hol', dyw, htl, hls, htr, by omega, by show 0 + (i + 1) ≤ 31; omega, hch, hpre, hway, by omega, Nat.zero_le _⟩
    obtain ⟨v0, p, todo, fs, rfl, rfl, hp, np1, np2, hls0⟩ := hls.last te
    rw [decide_eq_true (show (0 : Int) < (((v0 ++ [V.ref p]).length : Nat) : Int) from by simp)]
    have pfs := hpre fs (by simp)
    have pre0 : ∀ gs ∈ todo, Pre (OL d.2.2 (cs.map (·.1)) hs arg) gs := fun gs hg => hpre gs (List.mem_append_left _ hg)
    have lv0 := hls0.len
    have hpot2 : (todo.map pot).sum + pot fs + i ≤ 31 := by
      rw [List.map_append, List.sum_append] at hpot
      simpa using hpot
    have hch2 : (dn.map fun w => chn w.1).sum + ((todo.map chn).sum + chn fs) = 16 := by
      rw [List.map_append, List.sum_append] at hch
      simpa using hch
    have htd2 : todo.length + 1 ≤ i + 1 := by simpa using htd
    refine iteT ⟨_, rfl, .inl ⟨rfl, _, .of htl⟩, tl, _, .ref p, rfl, rfl, htl, by simp, ?_⟩
    rw [List.dropLast_concat]
    have bd : But tl H' (upd H' tl (.lst v0)) := But.upd
    have htl1 : upd H' tl (.lst v0) tl = some (.lst v0) := upd_same
    generalize upd H' tl (.lst v0) = G0 at bd htl1 ⊢
    have sG : Same H G0 := fun b o e => bd _ _ (ne_of_none e ntl0) (sH _ _ e)
    have hol1 := bd _ _ hol hol'
    have dyw1 := wys_but (.lst htl) bd dyw
    have hls1 : LsAt G0 ol tl v0 todo := hls0.keep fun b o _ n2 e => bd _ _ n2 e
    have hp1 := bd _ _ np2 hp
    have la1 := la.same sG
    have l4 := pfs.1
    refine ⟨_, rfl, _, rfl, _, rfl, _, rfl, _, rfl, ca, da, ba, ta, p, cxs, dxs, cs, ds, hs, fs, d, arg, rfl, la1.cl, la1.cx, la1.dl, la1.dx, ⟨di.nd, di.c6, di.d8⟩, di.de, la1.sb, la1.tu, .of hp1, di.mo fs pfs.2.1, di.ok, di.mx, l4, fun zc cz tz ys2 s o t G1 r1 rows hz hcz _ _ => ?_, fun zc cz tz m G1 r1 rows hz => ?_⟩
    · have ob : 0 ≤ o.getD 0 := by
        cases o with
        | none => exact Int.le_refl 0
        | some v => exact (ans_rows rows di.ok (di.mo fs pfs.2.1)).1
      refine ⟨_, rfl, _, _, _, _, rfl, rfl, .of hz, at0, _, rfl, rfl, _, rfl, ?_⟩
      rw [decide_eq_false (show ¬ V.int (o.getD 0) = V.int (-1) from fun z => by have := V.int.inj z; omega)]
      have w1 : WL d.2.2 (cs.map (·.1)) hs arg fs (o.getD 0) s.cells := ⟨s, o, t, rows, rfl, rfl⟩
      refine iteF ⟨_, rfl, .inl ⟨rfl, _, .of (r1 _ _ hol1)⟩, _, rfl, .inl ⟨p, _, rfl, .of (r1 _ _ hp1), fun u1 nu1 => ?_⟩⟩
      have q1 := same_new (o := .tup (fs.map V.int)) nu1
      have f1 : upd G1 u1 (.tup (fs.map V.int)) u1 = some (.tup (fs.map V.int)) := upd_same
      generalize upd G1 u1 (.tup (fs.map V.int)) = G2 at q1 f1 ⊢
      refine ⟨_, rfl, _, _, _, _, rfl, rfl, .of (q1 _ _ hz), at0, _, rfl, _, _, _, _, rfl, rfl, .of (q1 _ _ hz), at1, (by show 3 ≤ sizeLine; decide), fun u2 nu2 => ?_⟩
      have q2 : Same G2 (upd G2 u2 (.tup [.ref u1, .int (o.getD 0), .ref cz])) := same_new nu2
      have dw : WayAt K (upd G2 u2 (.tup [.ref u1, .int (o.getD 0), .ref cz])) (.ref u2) (fs, o.getD 0, s.cells) := ⟨u2, u1, cz, rfl, .of upd_same, .of (q2 _ _ f1), (q1.trans q2) _ _ hcz⟩
      have q02 := (r1.trans q1).trans q2
      generalize upd G2 u2 (.tup [.ref u1, .int (o.getD 0), .ref cz]) = G3 at q2 dw q02 ⊢
      have hol3 := q02 _ _ hol1
      have bb : But ol G3 (upd G3 ol (.lst (ys ++ [.ref u2]))) := But.upd
      have lys : ys.length = dn.length := wys_len dyw
      refine ⟨ol, ys, _, rfl, rfl, hol3, by rw [sizeLine_eq]; omega, _, _, _, ys ++ [.ref u2], v0, dn ++ [(fs, o.getD 0, s.cells)], todo, c + 1, rfl, fun b o e => bb _ _ (ne_of_none e nol) (q02 _ _ (sG _ _ e)), upd_same, ?_, bb _ _ (Ne.symm hol) (q02 _ _ htl1), hls1.keep fun b o n1 _ e => bb _ _ n1 (q02 _ _ e), fun m rest h => ?_, by omega, ?_, ?_, pre0, fun w hw => ?_, by simp; omega, by omega⟩
      · exact wys_but (.lst hol3) bb (wys_snoc dw (wys_same q02 dyw1))
      · have := htr (m + 1) ((fs, o.getD 0, s.cells) :: rest) (.hit w1 h)
        rw [List.append_assoc, show c + 1 + m = c + (m + 1) from by omega]
        exact this
      · have := pot_pos l4
        omega
      · rw [List.map_append, List.sum_append]
        simp
        omega
      · rcases List.mem_append.mp hw with h | h
        · exact hway w h
        · rw [List.mem_singleton.mp h]
          exact ⟨pfs, w1⟩
    · have l3 : fs.length < 4 := by
        have h := out_ccs rows di.ok (di.mo fs pfs.2.1)
        have h : ((fs.length : Nat) : Int) < 0 + ((rowsCc d.2.2 : Nat) : Int) := h
        have := di.cc
        omega
      have o1 : OL d.2.2 (cs.map (·.1)) hs arg fs := rows
      refine ⟨_, rfl, _, _, _, _, rfl, rfl, .of hz, at0, _, rfl, rfl, _, rfl, iteT ?_⟩
      -- falls + [1]
      refine ⟨_, rfl, .inl ⟨rfl, _, .of (r1 _ _ htl1)⟩, _, rfl, (by show 1 ≤ sizeLine; decide), fun u1 nu1 => ?_⟩
      have q1 : Same G1 (upd G1 u1 (.lst [.int 1])) := same_new nu1
      have f1 : upd G1 u1 (.lst [.int 1]) u1 = some (.lst [.int 1]) := upd_same
      generalize upd G1 u1 (.lst [.int 1]) = G2 at q1 f1 ⊢
      have r2 := r1.trans q1
      refine ⟨p, u1, _, _, rfl, rfl, r2 _ _ hp1, f1, by rw [List.length_map, sizeLine_eq]; simp; omega, fun p1 np1' => ?_⟩
      have q2 : Same G2 (upd G2 p1 (.lst (fs.map V.int ++ [.int 1]))) := same_new np1'
      have f2 : upd G2 p1 (.lst (fs.map V.int ++ [.int 1])) p1 = some (.lst ((fs ++ [1]).map V.int)) := by rw [upd_same, List.map_append]; rfl
      generalize upd G2 p1 (.lst (fs.map V.int ++ [.int 1])) = G3 at q2 f2 ⊢
      have r3 := r2.trans q2
      have htl3 := r3 _ _ htl1
      have n1a : p1 ≠ ol := Ne.symm (ne_of_none (r2 _ _ hol1) np1')
      have n1b : p1 ≠ tl := Ne.symm (ne_of_none (r2 _ _ htl1) np1')
      refine ⟨tl, v0, _, rfl, rfl, htl3, by rw [lv0, sizeLine_eq]; omega, ?_⟩
      have b4 : But tl G3 (upd G3 tl (.lst (v0 ++ [.ref p1]))) := But.upd
      have htl4 : upd G3 tl (.lst (v0 ++ [.ref p1])) tl = some (.lst (v0 ++ [.ref p1])) := upd_same
      generalize upd G3 tl (.lst (v0 ++ [.ref p1])) = G4 at b4 htl4 ⊢
      have hls4 : LsAt G4 ol tl (v0 ++ [.ref p1]) (todo ++ [fs ++ [1]]) := LsAt.snoc (b4 _ _ n1b f2) n1a n1b (hls1.keep fun b o _ n2 e => b4 _ _ n2 (r3 _ _ e))
      have hp4 := b4 _ _ np2 (r3 _ _ hp1)
      have hol4 := b4 _ _ hol (r3 _ _ hol1)
      have dyw4 := wys_but (.lst htl3) b4 (wys_same r3 dyw1)
      have sG4 : Same H G4 := fun b o e => b4 _ _ (ne_of_none e ntl0) (r3 _ _ (sG _ _ e))
      -- falls + [0]
      refine ⟨_, rfl, .inl ⟨rfl, _, .of htl4⟩, _, rfl, (by show 1 ≤ sizeLine; decide), fun u5 nu5 => ?_⟩
      have q5 : Same G4 (upd G4 u5 (.lst [.int 0])) := same_new nu5
      have f5 : upd G4 u5 (.lst [.int 0]) u5 = some (.lst [.int 0]) := upd_same
      generalize upd G4 u5 (.lst [.int 0]) = G5 at q5 f5 ⊢
      refine ⟨p, u5, _, _, rfl, rfl, q5 _ _ hp4, f5, by rw [List.length_map, sizeLine_eq]; simp; omega, fun p6 np6 => ?_⟩
      have q6 : Same G5 (upd G5 p6 (.lst (fs.map V.int ++ [.int 0]))) := same_new np6
      have f6 : upd G5 p6 (.lst (fs.map V.int ++ [.int 0])) p6 = some (.lst ((fs ++ [0]).map V.int)) := by rw [upd_same, List.map_append]; rfl
      generalize upd G5 p6 (.lst (fs.map V.int ++ [.int 0])) = G6 at q6 f6 ⊢
      have r6 := q5.trans q6
      have htl6 := r6 _ _ htl4
      have n6a : p6 ≠ ol := Ne.symm (ne_of_none (q5 _ _ hol4) np6)
      have n6b : p6 ≠ tl := Ne.symm (ne_of_none (q5 _ _ htl4) np6)
      have b7 : But tl G6 (upd G6 tl (.lst (v0 ++ [.ref p1] ++ [.ref p6]))) := But.upd
      refine ⟨tl, v0 ++ [.ref p1], _, rfl, rfl, htl6, by rw [List.length_append, lv0, sizeLine_eq]; simp; omega, _, _, _, ys, v0 ++ [.ref p1] ++ [.ref p6], dn, todo ++ [fs ++ [1]] ++ [fs ++ [0]], c + 1, rfl, fun b o e => b7 _ _ (ne_of_none e ntl0) (r6 _ _ (sG4 _ _ e)), b7 _ _ hol (r6 _ _ hol4), wys_but (.lst htl6) b7 (wys_same r6 dyw4), upd_same, LsAt.snoc (b7 _ _ n6b f6) n6a n6b (hls4.keep fun b o _ n2 e => b7 _ _ n2 (r6 _ _ e)), fun m rest h => ?_, by omega, ?_, ?_, fun gs hg => ?_, hway, by omega, by simp; omega⟩
      · have := htr (m + 1) rest (.out o1 l3 (by rw [List.append_assoc] at h; exact h))
        rw [show c + 1 + m = c + (m + 1) from by omega]
        exact this
      · have := pot_two l3
        rw [List.map_append, List.map_append, List.sum_append, List.sum_append]
        simp
        omega
      · have := chn_two l3
        rw [List.map_append, List.map_append, List.sum_append, List.sum_append]
        simp
        omega
      · rcases List.mem_append.mp hg with h | h
        · rcases List.mem_append.mp h with h | h
          · exact pre0 gs h
          · rw [List.mem_singleton.mp h]
            exact pfs.more o1 l3 (by decide)
        · rw [List.mem_singleton.mp h]
          exact pfs.more o1 l3 (by decide)
  · rintro σ' H' ⟨x6, x7, x8, ys, vs, dn, todo, c, rfl, sH, hol', dyw, htl, hls, htr, hci, hpot, hch, hpre, hway, _, _⟩
    have te : todo = [] := by
      cases todo with
      | nil => rfl
      | cons fs r =>
        have := pot_pos (hpre fs List.mem_cons_self).1
        rw [List.map_cons, List.sum_cons] at hpot
        omega
    subst te
    have tr := htr 0 [] .done
    rw [List.append_nil, Nat.add_zero] at tr
    exact ⟨_, rfl, q ol ys dn c H' sH nol hol' dyw tr hci (by simpa using hch) hway⟩
end

end M

set_option Elab.async false
set_option linter.all false
set_option maxRecDepth 100000
set_option maxHeartbeats 2000000
namespace M
open PySem PySem.Spec PyProof.Rows L2

mutual
theorem ok_less1 {c : Int} : ∀ {r : Row} {deep l l' : Nat}, r.ok c deep l → l' ≤ l → r.ok c deep l'
  | .read .., _, _, _, h, _ => h
  | .set .., _, _, _, h, _ => h
  | .swap .., _, _, _, h, _ => h
  | .keep .., _, _, _, h, _ => h
  | .ans .., _, _, _, h, _ => h
  | .coin r, _, l, l', h, e => ⟨h.1, by have := h.2; omega⟩
  | .iff e a b, _, _, _, h, e' => ⟨h.1, ok_less h.2.1 e', ok_less h.2.2 e'⟩
  | .times e a, _, l, l', h, e' => ⟨h.1, by have := h.2.1; omega, ok_less (l := l + 1) h.2.2 (by omega)⟩
theorem ok_less {c : Int} : ∀ {rs : List Row} {deep l l' : Nat}, rowsOk c deep l rs → l' ≤ l → rowsOk c deep l' rs
  | [], _, _, _, _, _ => trivial
  | r :: rs, _, _, _, h, e => ⟨h.1, ok_less1 h.2.1 e, ok_less h.2.2 e⟩
end
def tT : Nat → Nat
  | 0 => 3
  | n + 1 => 6 + 3 * tT n
section
variable {P : Program} {w : World} {K : PySem.W.Frag} {mg : Str → Option Value} {base : Heap}
/-- tuples put one behind the other -/
theorem cat_dp {H : Hp} {x y : V} {ds es : List PyData} (hx : Dp K H x (.tuple ds)) (hy : Dp K H y (.tuple es)) (hl : ds.length + es.length ≤ 100000) {Z : VK} (k : ∀ (v : V) (H' : Hp), Same H H' → Dp K H' v (.tuple (ds ++ es)) → Z v H') : rCatA K x y H Z := by
  obtain ⟨a, xs, rfl, ha, hxs⟩ := dp_tup hx
  obtain ⟨b, ys, rfl, hb, hys⟩ := dp_tup hy
  refine ⟨a, b, xs, ys, rfl, rfl, ha, hb, by rw [dps_len hxs, dps_len hys, sizeLine_eq]; omega, fun e => ?_, fun _ e => ?_, fun _ _ p np => ?_⟩
  · subst e
    cases hxs
    exact k _ _ (Same.refl _) hy
  · subst e
    cases hys
    rw [List.append_nil] at k
    exact k _ _ (Same.refl _) hx
  · exact k _ _ (same_new np) (.tup (.of upd_same) (dps_same (same_new np) (dps_app hxs hys)))
def spTree (K : PySem.W.Frag) (n : Nat) : Sp := fun vs H Q _ => ∃ (p b : Addr) (many : Int) (deep : Nat) (k : Int), vs = [.ref p, .int many, .int (deep : Int), .ref b] ∧ PoolAt H p ∧ BudAt H b k ∧ 0 ≤ k ∧ p ≠ b ∧ deep < n ∧ (1 ≤ many ∧ many ≤ 6) ∧ deep ≤ 4 ∧
  ∀ (v : V) (rs : List Row) (H' : Hp), But2 p b H H' → PoolAt H' p → BudAt H' b (k - rowsCc rs) → 0 ≤ k - rowsCc rs → Dp K H' v (.tuple (rowsD rs)) → (∀ dp, dp + deep ≤ 12 → rowsOk many dp 0 rs) → rowsCl rs ≤ tT deep → mxs rs ≤ tT deep → Q v H'
theorem tT_le : ∀ {n : Nat}, n ≤ 4 → tT n ≤ 483
  | 0, _ => by decide
  | 1, _ => by decide
  | 2, _ => by decide
  | 3, _ => by decide
  | 4, _ => by decide
theorem rowsD_app (as bs : List Row) : rowsD (as ++ bs) = rowsD as ++ rowsD bs := by rw [rowsD_map, rowsD_map, rowsD_map, List.map_append]
theorem rs_lenX : ∀ rs : List Row, rs.length ≤ rowsCl rs
  | [] => Nat.le_refl 0
  | r :: rs => by
    have := rs_lenX rs
    have h1 : 1 ≤ r.cl := by rw [row_cl]; omega
    show rs.length + 1 ≤ r.cl + rowsCl rs
    omega
theorem ca_l_tree1 {n : Nat} (R : Ca P w K mg base (n + 12) "_law_coin_tree" (spTree K n)) (T : Txt w K mg) : Ca P w K mg base (n + 13) "_law_coin_tree" (spTree K (n + 1)) := by
    refine ca_of (N := ["_law_pool_here", "_law_many", "_law_deep", "_law_left", "_law_rows_here", "_law_reg", "_law_test", "_law_hidden", "_law_first", "_law_second"]) (ps := ["_law_pool_here", "_law_many", "_law_deep", "_law_left"]) T.f_l_coin_tree T.g_law_coin_tree ⟨rfl, rfl, rfl, by decide +kernel, rfl, by decide +kernel, by decide +kernel⟩ (fun _ _ _ _ _ _ us hl => match us, hl with | [_, _, _, _], _ => rfl)
      (fun vs H Q E h => by obtain ⟨p, b, many, deep, k, rfl, hp, hb, hk, npb, hn, hmany, hd4, q⟩ := h; rfl) (fun cdv A outer s H vs Q E hr h => ?_)
    have nd : (["_law_pool_here", "_law_many", "_law_deep", "_law_left", "_law_rows_here", "_law_reg", "_law_test", "_law_hidden", "_law_first", "_law_second"] : List Str).Nodup := by decide +kernel
    obtain ⟨p, b, many, deep, k, rfl, hp, hb, hk, npb, hn, hmany, hd4, q⟩ := h
    refine ⟨_, (pss_cons (ps_set (i := 4) nd rfl (.inl rfl) (pe_ca (ca_l_rows T 1) hr (pa_cons (pv 0) (pa_cons (pv 1) (pa_cons pe_int (pa_cons pe_int (pa_cons (pe_lst (pa_cons pe_int pa_nil)) pa_nil))))) (by omega)))
      (pss_cons (ps_if (PW.pt (pw_or (pt_cmpR op_eq (pv 2) pe_int (nomark _)) (pw_or1 (pt_cmpR op_eq (pe_ix ix_list (pv 3) pe_int (fun _ _ => rfl)) pe_int (nomark _))))) (pss_one (ps_ret (pv 4))) pss_nil)
      (pss_cons (ps_asg (pe_op op_sub (pe_ix ix_list (pv 3) pe_int (fun _ _ => rfl)) pe_int) (pg_sub (pv 3) pe_int set_list))
      (pss_cons (ps_set (i := 5) nd rfl (.inl rfl) (pe_ix ix_str pe_str (pe_ca (ca_l_draw T) hr (pa_cons (pv 0) (pa_cons pe_int pa_nil)) (by omega)) (fun _ _ => rfl)))
      (pss_cons (ps_set (i := 6) nd rfl (.inl rfl) (pe_ix ix_list (pe_lst (pa_cons (pv 5) (pa_cons (pe_tup (pa_cons pe_str (pa_cons (pv 5) (pa_cons pe_str pa_nil)))) (pa_cons (pe_ca (ca_l_e 3 T) hr (pa_cons (pv 0) (pa_cons pe_int pa_nil)) (by omega)) pa_nil)))) (pe_ca (ca_l_draw T) hr (pa_cons (pv 0) (pa_cons pe_int pa_nil)) (by omega)) (fun _ _ => rfl)))
      (pss_cons (ps_set (i := 7) nd rfl (.inl rfl) (pe_tup (pa_cons pe_str (pa_cons (pe_ca (ca_l_draw T) hr (pa_cons (pv 0) (pa_cons (pv 1) pa_nil)) (by omega)) (pa_cons (pe_tup (pa_cons pe_str (pa_cons (pv 5) (pa_cons (pe_ca (ca_l_e 3 T) hr (pa_cons (pv 0) (pa_cons pe_int pa_nil)) (by omega)) pa_nil)))) pa_nil)))))
      (pss_cons (ps_set (i := 8) nd rfl (.inl rfl) (pe_ca R hr (pa_cons (pv 0) (pa_cons (pv 1) (pa_cons (pe_op op_sub (pv 2) pe_int) (pa_cons (pv 3) pa_nil)))) (by omega)))
      (pss_cons (ps_set (i := 9) nd rfl (.inl rfl) (pe_ca R hr (pa_cons (pv 0) (pa_cons (pv 1) (pa_cons (pe_op op_sub (pv 2) pe_int) (pa_cons (pv 3) pa_nil)))) (by omega)))
      (pss_cons (ps_set (i := 4) nd rfl (.inl rfl) (pe_op op_catA (pv 4) (pe_tup (pa_cons (pe_tup (pa_cons pe_str (pa_cons (pv 5) pa_nil))) (pa_cons (pv 7) (pa_cons (pe_tup (pa_cons pe_str (pa_cons (pv 6) (pa_cons (pv 8) (pa_cons (pv 9) pa_nil))))) pa_nil))))))
      (pss_one (ps_ret (pe_op op_catA (pv 4) (pe_ca R hr (pa_cons (pv 0) (pa_cons (pv 1) (pa_cons (pe_op op_sub (pv 2) pe_int) (pa_cons (pv 3) pa_nil)))) (by omega)))))))))))))), ?_⟩
    -- the rows ahead
    refine ⟨_, rfl, _, rfl, (by show 1 ≤ sizeLine; decide), fun z0 nz0 => ?_⟩
    have a1 : Same H (upd H z0 (.lst [.int 0])) := same_new nz0
    have e1 : BudAt (upd H z0 (.lst [.int 0])) z0 0 := upd_same
    have nzp : p ≠ z0 := pool_ne hp nz0
    have nzb : b ≠ z0 := ne_of_none hb nz0
    generalize upd H z0 (.lst [.int 0]) = A1 at a1 e1 ⊢
    refine ⟨p, z0, many, 0, 2, 0, rfl, hp.same a1, e1, Int.le_refl 0, nzp, by omega, hmany, by decide, fun v0 r0 H1 b1 p1 _ k1 d0 ok0 cl0 mx0 _ => ?_⟩
    have cc0 : rowsCc r0 = 0 := by omega
    have b1' : But p H H1 := fun x o h e => b1 x o h (ne_of_none e nz0) (a1 _ _ e)
    have hb1 : BudAt H1 b k := b1' _ _ (Ne.symm npb) hb
    have cl0 : rowsCl r0 ≤ 3 := cl0
    have mx0 : mxs r0 ≤ 3 := mx0
    have okz : ∀ dp, dp ≤ 12 → rowsOk many dp 0 r0 := fun dp h => ok_less (ok0 dp (by omega)) (Nat.zero_le _)
    have t3 : ∀ m, 3 ≤ tT m := fun m => by cases m <;> simp [tT]; omega
    have stop : Q v0 H1 := q v0 r0 H1 (But2.l b1') p1 (by rw [cc0, show k - ((0 : Nat) : Int) = k from by omega]; exact hb1) (by omega) d0 (fun dp h => okz dp (by omega)) (Nat.le_trans cl0 (t3 _)) (Nat.le_trans mx0 (t3 _))
    refine ⟨_, rfl, rfl, _, rfl, ?_⟩
    by_cases dz : deep = 0
    · rw [decide_eq_true (show V.int (deep : Int) = V.int 0 from by rw [dz]; rfl)]
      exact iteT ⟨_, rfl, stop⟩
    rw [decide_eq_false (show ¬ V.int (deep : Int) = V.int 0 from fun z => dz (by have := V.int.inj z; omega))]
    refine iteF ⟨_, rfl, _, _, _, _, rfl, rfl, .of hb1, at0, rfl, _, rfl, ?_⟩
    by_cases kz : k = 0
    · rw [decide_eq_true (show V.int k = V.int 0 from congrArg V.int kz)]
      exact iteT ⟨_, rfl, stop⟩
    rw [decide_eq_false (show ¬ V.int k = V.int 0 from fun z => kz (V.int.inj z))]
    clear stop
    obtain ⟨m, rfl⟩ : ∃ m, deep = m + 1 := ⟨deep - 1, by omega⟩
    have ek : (((m + 1 : Nat) : Int) - 1) = ((m : Nat) : Int) := by omega
    refine iteF ⟨_, rfl, _, _, _, _, rfl, rfl, .of hb1, at0, _, _, rfl, rfl, _, rfl, b, _, _, 0, rfl, rfl, hb1, rfl, ?_⟩
    have bb : But b H1 (upd H1 b (.lst (([.int k] : List V).set 0 (.int (k - 1))))) := But.upd
    have hb2 : BudAt (upd H1 b (.lst (([.int k] : List V).set 0 (.int (k - 1))))) b (k - 1) := upd_same
    have cb1 : Ch H1 b := .lst hb1
    have d2 := dp_but cb1 bb d0 (.tup (rows_noL r0))
    have p2 := p1.but npb bb
    have tb2 : But2 p b H (upd H1 b (.lst (([.int k] : List V).set 0 (.int (k - 1))))) := (But2.l b1').trans (But2.r bb)
    generalize upd H1 b (.lst (([.int k] : List V).set 0 (.int (k - 1)))) = H2 at bb hb2 d2 p2 tb2 ⊢
    refine ⟨_, rfl, p, 4, rfl, p2, by omega, fun ri H3 b3 p3 hri => ?_⟩
    obtain ⟨cd, hcd, hreg⟩ := let4 hri
    refine ⟨_, ri, cd, rfl, rfl, (by decide +kernel), hcd, ?_⟩
    generalize (⟨#[cd]⟩ : Str) = rg at hreg ⊢
    -- the test
    refine ⟨_, rfl, _, rfl, (by show 3 ≤ sizeLine; decide), fun t1 nt1 => ?_⟩
    have s4 : Same H3 (upd H3 t1 (.tup [.str "=", .str rg, .str "x"])) := same_new nt1
    have f4 : upd H3 t1 (.tup [.str "=", .str rg, .str "x"]) t1 = some (.tup [.str "=", .str rg, .str "x"]) := upd_same
    have p4 := p3.same s4
    generalize upd H3 t1 (.tup [.str "=", .str rg, .str "x"]) = H4 at s4 f4 p4 ⊢
    refine ⟨_, rfl, p, 1, rfl, p4, by omega, fun ev e H5 b5 p5 eo ed de => ⟨(by show 3 ≤ sizeLine; decide), fun l nl => ?_⟩⟩
    have s6 : Same H5 (upd H5 l (.lst [.str rg, .ref t1, ev])) := same_new nl
    have f6 : upd H5 l (.lst [.str rg, .ref t1, ev]) l = some (.lst [.str rg, .ref t1, ev]) := upd_same
    have p6 := p5.same s6
    have g1 : Dp K H5 (.ref t1) (Exp.op "=" (.reg rg) (.reg "x")).d := dp_but p4.ch b5 (.tup (.of f4) (.cons (.str _) (.cons (.str _) (.cons (.str _) .nil)))) (Exp.noL _)
    have nlp : l ≠ p := pool_nl p5 nl
    generalize upd H5 l (.lst [.str rg, .ref t1, ev]) = H6 at s6 f6 p6 ⊢
    refine ⟨_, rfl, p, 3, rfl, p6, by omega, fun i H7 b7 p7 hi => ?_⟩
    have b37 : But p H2 H7 := (((b3.trans (same_but s4)).trans b5).trans (same_but s6)).trans b7
    obtain ⟨tv, te, hat, dte, gte⟩ : ∃ (tv : V) (te : Exp), atI ([.str rg, .ref t1, ev] : List V) i = some tv ∧ Dp K H7 tv te.d ∧ te.good := by
      have : i = 0 ∨ i = 1 ∨ i = 2 := by omega
      rcases this with rfl | rfl | rfl
      · exact ⟨_, .reg rg, at0, .str _, in45 hreg, Nat.zero_le _⟩
      · exact ⟨_, _, at1, dp_but p6.ch b7 (dp_same s6 g1) (Exp.noL _), ⟨by decide +kernel, in45 hreg, in_x⟩, by show 1 ≤ 6; decide⟩
      · exact ⟨_, e, at2, dp_but p6.ch b7 (dp_same s6 de) e.noL, eo, by omega⟩
    refine ⟨_, _, _, _, rfl, rfl, .of (b7 _ _ nlp f6), hat, ?_⟩
    -- what is hidden
    refine ⟨_, rfl, _, rfl, p, many, rfl, p7, by omega, fun cell H8 b8 p8 hcell => ?_⟩
    refine ⟨_, rfl, _, rfl, p, 0, rfl, p8, by omega, fun fv f H9 b9 p9 fo fd df => ⟨(by show 3 ≤ sizeLine; decide), fun t2 nt2 => ?_⟩⟩
    have s10 : Same H9 (upd H9 t2 (.tup [.str "+", .str rg, fv])) := same_new nt2
    have g10 : Dp K (upd H9 t2 (.tup [.str "+", .str rg, fv])) (.ref t2) (Exp.op "+" (.reg rg) f).d := .tup (.of upd_same) (.cons (.str _) (.cons (.str _) (.cons (dp_same s10 df) .nil)))
    have p10 := p9.same s10
    generalize upd H9 t2 (.tup [.str "+", .str rg, fv]) = H10 at s10 g10 p10 ⊢
    refine ⟨(by show 3 ≤ sizeLine; decide), fun t3 nt3 => ?_⟩
    have s11 : Same H10 (upd H10 t3 (.tup [.str "set", .int cell, .ref t2])) := same_new nt3
    have g11 : Dp K (upd H10 t3 (.tup [.str "set", .int cell, .ref t2])) (.ref t3) (Row.set cell (.op "+" (.reg rg) f)).d := .tup (.of upd_same) (.cons (.str _) (.cons (.int _) (.cons (dp_same s11 g10) .nil)))
    have p11 := p10.same s11
    have b711 : But p H7 (upd H10 t3 (.tup [.str "set", .int cell, .ref t2])) := ((b8.trans b9).trans (same_but s10)).trans (same_but s11)
    generalize upd H10 t3 (.tup [.str "set", .int cell, .ref t2]) = H11 at s11 g11 p11 b711 ⊢
    have ghid : Exp.good (.op "+" (.reg rg) f) := ⟨⟨by decide +kernel, in45 hreg, fo⟩, by show Nat.max 0 f.dep + 1 ≤ 6; have : Nat.max 0 f.dep ≤ 0 := Nat.max_le.mpr ⟨Nat.le_refl 0, fd⟩; omega⟩
    have b211 := b37.trans b711
    have hb11 : BudAt H11 b (k - 1) := b211 _ _ (Ne.symm npb) hb2
    have d11 := dp_but p2.ch b211 d2 (.tup (rows_noL r0))
    have te11 := dp_but p7.ch b711 dte te.noL
    have t11 := tb2.trans (But2.l b211)
    have k0 : 0 ≤ k - 1 := by omega
    -- three more trees
    refine ⟨_, rfl, _, rfl, _, rfl, _, _, rfl, rfl, _, rfl, p, b, many, m, k - 1, by rw [← ek]; rfl, p11, hb11, k0, npb, by omega, hmany, by omega, fun v1 r1 H12 b12 p12 hb12 k12 d12 ok12 cl12 mx12 => ?_⟩
    have c11 : Ch H11 b := .lst hb11
    have c12 : Ch H12 b := .lst hb12
    refine ⟨_, rfl, _, rfl, _, rfl, _, _, rfl, rfl, _, rfl, p, b, many, m, k - 1 - rowsCc r1, by rw [← ek]; rfl, p12, hb12, k12, npb, by omega, hmany, by omega, fun v2 r2 H13 b13 p13 hb13 k13 d13 ok13 cl13 mx13 => ?_⟩
    have c13 : Ch H13 b := .lst hb13
    have b1113 := b12.trans b13
    have r0d := dp_b2 p11.ch c11 b1113 d11 (.tup (rows_noL r0))
    have hid := dp_b2 p11.ch c11 b1113 g11 (Row.noL _)
    have ted := dp_b2 p11.ch c11 b1113 te11 te.noL
    have v1d := dp_b2 p12.ch c12 b13 d12 (.tup (rows_noL r1))
    -- the rows put together
    refine ⟨_, rfl, _, rfl, (by show 2 ≤ sizeLine; decide), fun t5 nt5 => ?_⟩
    have s14 : Same H13 (upd H13 t5 (.tup [.str "coin", .str rg])) := same_new nt5
    have g14 : Dp K (upd H13 t5 (.tup [.str "coin", .str rg])) (.ref t5) (Row.coin rg).d := .tup (.of upd_same) (.cons (.str _) (.cons (.str _) .nil))
    generalize upd H13 t5 (.tup [.str "coin", .str rg]) = H14 at s14 g14 ⊢
    refine ⟨_, rfl, _, rfl, _, rfl, _, rfl, (by show 4 ≤ sizeLine; decide), fun t6 nt6 => ?_⟩
    have s15 : Same H14 (upd H14 t6 (.tup [.str "if", tv, v1, v2])) := same_new nt6
    have s315 := s14.trans s15
    have g15 : Dp K (upd H14 t6 (.tup [.str "if", tv, v1, v2])) (.ref t6) (Row.iff te r1 r2).d := .tup (.of upd_same) (.cons (.str _) (.cons (dp_same s315 ted) (.cons (dp_same s315 v1d) (.cons (dp_same s315 d13) .nil))))
    have g14' := dp_same s15 g14
    generalize upd H14 t6 (.tup [.str "if", tv, v1, v2]) = H15 at s15 g15 s315 g14' ⊢
    refine ⟨(by show 3 ≤ sizeLine; decide), fun t7 nt7 => ?_⟩
    have s16 : Same H15 (upd H15 t7 (.tup [.ref t5, .ref t3, .ref t6])) := same_new nt7
    have s316 := s315.trans s16
    have g16 : Dp K (upd H15 t7 (.tup [.ref t5, .ref t3, .ref t6])) (.ref t7) (.tuple (rowsD [.coin rg, .set cell (.op "+" (.reg rg) f), .iff te r1 r2])) := .tup (.of upd_same) (.cons (dp_same s16 g14') (.cons (dp_same s316 hid) (.cons (dp_same s16 g15) .nil)))
    have r0d16 := dp_same s316 r0d
    have p16 := p13.same s316
    have hb16 : BudAt (upd H15 t7 (.tup [.ref t5, .ref t3, .ref t6])) b (k - 1 - rowsCc r1 - rowsCc r2) := s316 _ _ hb13
    have t16 := ((t11.trans b1113).trans (But2.same s316))
    generalize upd H15 t7 (.tup [.ref t5, .ref t3, .ref t6]) = H16 at s16 g16 r0d16 p16 hb16 t16 ⊢
    have l0 := rs_lenX r0
    have lt1 := tT_le (n := m) (by omega)
    refine cat_dp r0d16 g16 (by rw [rowsD_map, rowsD_map, List.length_map, List.length_map]; simp; omega) fun w1 H17 s17 d17 => ?_
    rw [← rowsD_app] at d17
    have p17 := p16.same s17
    have hb17 : BudAt H17 b (k - 1 - rowsCc r1 - rowsCc r2) := s17 _ _ hb16
    have c17 : Ch H17 b := .lst hb17
    refine ⟨_, rfl, _, rfl, _, rfl, _, rfl, _, _, rfl, rfl, _, rfl, p, b, many, m, k - 1 - rowsCc r1 - rowsCc r2, by rw [← ek]; rfl, p17, hb17, k13, npb, by omega, hmany, by omega, fun v3 r3 H18 b18 p18 hb18 k18 d18 ok18 cl18 mx18 => ?_⟩
    have d17' := dp_b2 p17.ch c17 b18 d17 (.tup (rows_noL _))
    have l3 := rs_lenX r3
    refine cat_dp d17' d18 (by rw [rowsD_map, rowsD_map, List.length_map, List.length_map]; simp; omega) fun w2 H19 s19 d19 => ?_
    rw [← rowsD_app] at d19
    have ecc : rowsCc (r0 ++ [.coin rg, .set cell (.op "+" (.reg rg) f), .iff te r1 r2] ++ r3) = rowsCc r0 + (1 + (rowsCc r1 + rowsCc r2)) + rowsCc r3 := by
      rw [cc_app, cc_app]
      show rowsCc r0 + (1 + (0 + ((rowsCc r1 + rowsCc r2) + 0))) + rowsCc r3 = _
      omega
    have ecl : rowsCl (r0 ++ [.coin rg, .set cell (.op "+" (.reg rg) f), .iff te r1 r2] ++ r3) = rowsCl r0 + (3 + (rowsCl r1 + rowsCl r2)) + rowsCl r3 := by
      rw [cl_app, cl_app]
      show rowsCl r0 + (1 + (1 + ((1 + (rowsCl r1 + rowsCl r2)) + 0))) + rowsCl r3 = _
      omega
    have emx : mxs (r0 ++ [.coin rg, .set cell (.op "+" (.reg rg) f), .iff te r1 r2] ++ r3) = mxs r0 + (1 + (mxs r1 + mxs r2)) + mxs r3 := by
      rw [mx_app, mx_app]
      show mxs r0 + (0 + (1 + ((mxs r1 + mxs r2) + 0))) + mxs r3 = _
      omega
    have et : tT (m + 1) = 6 + 3 * tT m := rfl
    refine q w2 (r0 ++ [.coin rg, .set cell (.op "+" (.reg rg) f), .iff te r1 r2] ++ r3) H19 (((t16.trans (But2.same s17)).trans b18).trans (But2.same s19)) (p18.same s19) ?_ ?_ d19 (fun dp hdp => ?_) (by rw [ecl, et]; omega) (by rw [emx, et]; omega)
    · rw [ecc, show k - ((rowsCc r0 + (1 + (rowsCc r1 + rowsCc r2)) + rowsCc r3 : Nat) : Int) = k - 1 - rowsCc r1 - rowsCc r2 - rowsCc r3 from by omega]
      exact s19 _ _ hb18
    · rw [ecc]
      omega
    · exact ok_app (ok_app (okz dp (by omega)) ⟨by omega, ⟨hreg, rfl⟩, by omega, ⟨hcell, ghid⟩, by omega, ⟨gte, ok12 (dp + 1) (by omega), ok13 (dp + 1) (by omega)⟩, trivial⟩) (ok18 dp (by omega))
theorem ca_l_tree (T : Txt w K mg) : ∀ n, Ca P w K mg base (n + 12) "_law_coin_tree" (spTree K n)
  | 0 => by
    refine ca_of (N := ["_law_pool_here", "_law_many", "_law_deep", "_law_left", "_law_rows_here", "_law_reg", "_law_test", "_law_hidden", "_law_first", "_law_second"]) (ps := ["_law_pool_here", "_law_many", "_law_deep", "_law_left"]) T.f_l_coin_tree T.g_law_coin_tree ⟨rfl, rfl, rfl, by decide +kernel, rfl, by decide +kernel, by decide +kernel⟩ (fun _ _ _ _ _ _ us hl => match us, hl with | [_, _, _, _], _ => rfl)
      (fun vs H Q E h => by obtain ⟨p, b, many, deep, k, rfl, hp, hb, hk, npb, hn, hmany, hd4, q⟩ := h; rfl) (fun cdv A outer s H vs Q E hr h => ?_)
    have nd : (["_law_pool_here", "_law_many", "_law_deep", "_law_left", "_law_rows_here", "_law_reg", "_law_test", "_law_hidden", "_law_first", "_law_second"] : List Str).Nodup := by decide +kernel
    obtain ⟨p, b, many, deep, k, rfl, hp, hb, hk, npb, hn, hmany, hd4, q⟩ := h
    omega
  | n + 1 => ca_l_tree1 (ca_l_tree T n) T
end

end M

set_option Elab.async false
set_option linter.all false
set_option maxRecDepth 100000
set_option maxHeartbeats 2000000
namespace M
open PySem PySem.Spec PyProof.Rows L2

section
variable {P : Program} {w : World} {K : PySem.W.Frag} {mg : Str → Option Value} {base : Heap}
def spCoinV (K : PySem.W.Frag) : Sp := fun vs H Q _ => ∃ (p cl : Addr) (cxs : List V), vs = [.ref p, .ref cl] ∧ PoolAt H p ∧ H cl = some (.lst cxs) ∧ cl ≠ p ∧ (1 ≤ cxs.length ∧ cxs.length ≤ 6) ∧
  ∀ (l : Addr) (ys : List V) (ds : List (Str × Int × List Row)) (H' : Hp), But p H H' → PoolAt H' p → H l = none → l ≠ p → H' l = some (.lst ys) → DpAll K H' ys (ds.map deedD) → (1 ≤ ds.length ∧ ds.length ≤ 4) → (∀ d ∈ ds, DeedOk (cxs.length : Nat) d ∧ mxs d.2.2 ≤ 40000) → (ds.map (·.1)).Nodup → Q (.ref l) H'
theorem ca_l_coin_vault (T : Txt w K mg) : Ca P w K mg base 18 "_law_coin_vault" (spCoinV K) := by
  refine ca_of (N := ["_law_pool_here", "_law_cells_here", "_law_deeds_here", "_law_at", "_law_rows_here"]) (ps := ["_law_pool_here", "_law_cells_here"]) T.f_l_coin_vault T.g_law_coin_vault ⟨rfl, rfl, rfl, by decide +kernel, rfl, by decide +kernel, by decide +kernel⟩ (fun _ _ _ _ _ _ us hl => match us, hl with | [_, _], _ => rfl)
    (fun vs H Q E h => by obtain ⟨p, cl, cxs, rfl, hp, hcl, nclp, hmany, q⟩ := h; rfl) (fun cdv A outer s H vs Q E hr h => ?_)
  have nd : (["_law_pool_here", "_law_cells_here", "_law_deeds_here", "_law_at", "_law_rows_here"] : List Str).Nodup := by decide +kernel
  obtain ⟨p, cl, cxs, rfl, hp, hcl, nclp, hmany, q⟩ := h
  refine ⟨_, (pss_cons (ps_set (i := 2) nd rfl (.inl rfl) (pe_ca (ca_l_deeds T) hr (pa_cons (pv 0) (pa_cons (pe_callB call_len_seq (by rfl) T.b_len PySem.boot_len (pa_cons (pv 1) pa_nil)) (pa_cons pe_int pa_nil)))))
      (pss_cons (ps_set (i := 3) nd rfl (.inl rfl) (pe_ca (ca_l_draw T) hr (pa_cons (pv 0) (pa_cons (pe_callB call_len_seq (by rfl) T.b_len PySem.boot_len (pa_cons (pv 2) pa_nil)) pa_nil))))
      (pss_cons (ps_set (i := 4) nd rfl (.inl rfl) (pe_ca (ca_l_tree T 5) hr (pa_cons (pv 0) (pa_cons (pe_callB call_len_seq (by rfl) T.b_len PySem.boot_len (pa_cons (pv 1) pa_nil)) (pa_cons pe_int (pa_cons (pe_lst (pa_cons (pe_op op_add pe_int (pe_ca (ca_l_draw T) hr (pa_cons (pv 0) (pa_cons pe_int pa_nil)))) pa_nil)) pa_nil))))))
      (pss_cons (ps_asg (pe_tup (pa_cons (pe_ix ix_tup (pe_ix ix_list (pv 2) (pv 3) (fun _ _ => rfl)) pe_int (fun _ _ => rfl)) (pa_cons (pe_ix ix_tup (pe_ix ix_list (pv 2) (pv 3) (fun _ _ => rfl)) pe_int (fun _ _ => rfl)) (pa_cons (pe_op op_catA (pv 4) (pe_tup (pa_cons (pe_tup (pa_cons pe_str (pa_cons (pe_ca (ca_l_e 3 T) hr (pa_cons (pv 0) (pa_cons pe_int pa_nil))) pa_nil))) pa_nil))) pa_nil)))) (pg_sub (pv 2) (pv 3) set_list))
      (pss_one (ps_ret (pv 2))))))), ?_⟩
  refine ⟨_, rfl, _, rfl, _, _, rfl, .inl (.of hcl), p, (cxs.length : Nat), 4, rfl, hp, by omega, by decide, fun dl dxs ds H1 b1 p1 ndl ndlp hdl hdx hdn hds nds _ => ?_⟩
  have ldx : dxs.length = ds.length := by rw [dps_len hdx, List.length_map]
  refine ⟨_, rfl, _, rfl, _, _, rfl, .inl (.of hdl), p, (dxs.length : Nat), rfl, p1, by omega, fun ix H2 b2 p2 hix => ?_⟩
  have hcl2 := b2 _ _ nclp (b1 _ _ nclp hcl)
  refine ⟨_, rfl, _, rfl, _, _, rfl, .inl (.of hcl2), _, rfl, p, 4, rfl, p2, by omega, fun c H3 b3 p3 hc => ⟨_, _, rfl, rfl, (by show 1 ≤ sizeLine; decide), fun z nz => ?_⟩⟩
  have s4 : Same H3 (upd H3 z (.lst [.int (1 + c)])) := same_new nz
  have f4 : BudAt (upd H3 z (.lst [.int (1 + c)])) z (1 + c) := upd_same
  have p4 := p3.same s4
  have npz : p ≠ z := pool_ne p3 nz
  have nz0 : ∀ a o, H3 a = some o → a ≠ z := fun a o h => ne_of_none h nz
  generalize upd H3 z (.lst [.int (1 + c)]) = H4 at s4 f4 p4 ⊢
  refine ⟨p, z, (cxs.length : Nat), 4, 1 + c, rfl, p4, f4, by omega, npz, by decide, by omega, by decide, fun v rs H5 b5 p5 bd5 k5 d5 ok5 cl5 mx5 => ?_⟩
  have b35 : But p H3 H5 := fun a o h e => b5 a o h (nz0 _ _ e) (s4 _ _ e)
  have b15 : But p H1 H5 := (b2.trans b3).trans b35
  have hdl5 := b15 _ _ ndlp hdl
  have hdx5 := dps_but p1.ch b15 hdx (deeds_noL ds)
  have hin : ix.toNat < ds.length := by omega
  obtain ⟨d0, hd0⟩ : ∃ d0, ds[ix.toNat]? = some d0 := ⟨_, List.getElem?_eq_getElem hin⟩
  obtain ⟨dv, hdv, ddv⟩ := dps_at (i := ix.toNat) hdx5 (d := deedD d0) (by rw [List.getElem?_map, hd0]; rfl)
  obtain ⟨dt, y1, y2, y3, rfl, hdt, g1, g2, g3⟩ := dp3 ddv
  cases dp_str g1
  cases dp_int g2
  have hat : atI dxs ix = some (.ref dt) := by
    have := atI_nat hdv
    rw [Int.toNat_of_nonneg hix.1] at this
    exact this
  refine ⟨_, rfl, _, rfl, _, _, _, _, rfl, rfl, .of hdl5, hat, _, _, _, _, rfl, rfl, hdt, at0, ?_⟩
  refine ⟨_, rfl, _, rfl, _, _, _, _, rfl, rfl, .of hdl5, hat, _, _, _, _, rfl, rfl, hdt, at1, ?_⟩
  refine ⟨_, rfl, _, rfl, p, 2, rfl, p5, by omega, fun ev e H6 b6 p6 eo ed de => ⟨(by show 2 ≤ sizeLine; decide), fun t nt => ?_⟩⟩
  have s7 : Same H6 (upd H6 t (.tup [.str "answer", ev])) := same_new nt
  have f7 : Dp K (upd H6 t (.tup [.str "answer", ev])) (.ref t) (Row.ans e).d := .tup (.of upd_same) (.cons (.str _) (.cons (dp_same s7 de) .nil))
  generalize upd H6 t (.tup [.str "answer", ev]) = H7 at s7 f7 ⊢
  refine ⟨(by show 1 ≤ sizeLine; decide), fun u nu => ?_⟩
  have s8 : Same H7 (upd H7 u (.tup [.ref t])) := same_new nu
  have f8 : Dp K (upd H7 u (.tup [.ref t])) (.ref u) (.tuple (rowsD [.ans e])) := .tup (.of upd_same) (.cons (dp_same s8 f7) .nil)
  have s78 := s7.trans s8
  have d8 : Dp K (upd H7 u (.tup [.ref t])) v (.tuple (rowsD rs)) := dp_same s78 (dp_but p5.ch b6 d5 (.tup (rows_noL rs)))
  have b58 : But p H5 (upd H7 u (.tup [.ref t])) := b6.trans (same_but s78)
  have p8 := p6.same s78
  generalize upd H7 u (.tup [.ref t]) = H8 at s8 f8 s78 d8 b58 p8 ⊢
  have lrs := rs_lenX rs
  have t4 : tT 4 = 483 := by decide
  refine cat_dp d8 f8 (by rw [rowsD_map, rowsD_map, List.length_map, List.length_map]; simp; omega) fun w1 H9 s9 d9 => ⟨(by show 3 ≤ sizeLine; decide), fun t2 nt2 => ?_⟩
  rw [← rowsD_app] at d9
  have s10 : Same H9 (upd H9 t2 (.tup [.str d0.1, .int d0.2.1, w1])) := same_new nt2
  have f10 : Dp K (upd H9 t2 (.tup [.str d0.1, .int d0.2.1, w1])) (.ref t2) (deedD (d0.1, d0.2.1, rs ++ [.ans e])) := .tup (.of upd_same) (.cons (.str _) (.cons (.int _) (.cons (dp_same s10 d9) .nil)))
  have b510 : But p H5 (upd H9 t2 (.tup [.str d0.1, .int d0.2.1, w1])) := b58.trans (same_but (s9.trans s10))
  have p10 := p8.same (s9.trans s10)
  generalize upd H9 t2 (.tup [.str d0.1, .int d0.2.1, w1]) = H10 at s10 f10 b510 p10 ⊢
  have hdl10 := b510 _ _ ndlp hdl5
  have hdx10 := dps_but p5.ch b510 hdx5 (deeds_noL ds)
  refine ⟨_, rfl, _, rfl, dl, _, _, ix.toNat, rfl, rfl, hdl10, ixK hix.1 (by omega), ?_⟩
  have bb : But dl H10 (upd H10 dl (.lst (dxs.set ix.toNat (.ref t2)))) := But.upd
  have dok := hds d0 (List.mem_of_getElem? hd0)
  have ge : e.good := ⟨eo, by omega⟩
  have ecc : rowsCc (rs ++ [.ans e]) = rowsCc rs := by rw [cc_app]; rfl
  have ecl : rowsCl (rs ++ [.ans e]) = rowsCl rs + 1 := by rw [cl_app]; rfl
  have emx : mxs (rs ++ [.ans e]) = mxs rs := by rw [mx_app]; rfl
  refine ⟨_, rfl, q dl _ (ds.set ix.toNat (d0.1, d0.2.1, rs ++ [.ans e])) _ (fun a o h e' => bb _ _ (ne_of_none e' ndl) (b510 _ _ h (b15 _ _ h (b1 _ _ h e')))) (p10.but (Ne.symm ndlp) bb) ndl ndlp upd_same ?_ (by rw [List.length_set]; exact hdn) (fun d hd => ?_) ?_⟩
  · rw [List.map_set]
    exact dps_set (dps_but (.lst hdl10) bb hdx10 (deeds_noL ds)) (dp_but (.lst hdl10) bb f10 (deed_noL _))
  · rcases List.mem_or_eq_of_mem_set hd with h | h
    · exact hds d h
    · rw [h]
      refine ⟨⟨dok.1.1, dok.1.2.1, ok_app (ok5 1 (by decide)) ⟨by decide, ge, trivial⟩, by show rowsCc (rs ++ [.ans e]) ≤ 4; rw [ecc]; omega, by show rowsCl (rs ++ [.ans e]) ≤ 2000; rw [ecl]; omega⟩, by show mxs (rs ++ [.ans e]) ≤ 40000; rw [emx]; omega⟩
  · have : (ds.set ix.toNat (d0.1, d0.2.1, rs ++ [.ans e])).map (·.1) = ds.map (·.1) := by
      rw [List.map_set]
      refine List.ext_getElem? fun j => ?_
      by_cases ej : ix.toNat = j
      · subst ej
        rw [List.getElem?_set_self (by rw [List.length_map]; exact hin), List.getElem?_map, hd0]
        rfl
      · rw [List.getElem?_set_ne ej]
    rw [this]
    exact nds
end

end M

set_option Elab.async false
set_option linter.all false
set_option maxRecDepth 100000
set_option maxHeartbeats 2000000
namespace M
open PySem PySem.Spec PyProof.Rows L2

/-! ### every call comes to something -/
def FlOk (st : Mst) : Prop := 0 ≤ st.fallen ∧ st.fallen ≤ st.coins.length
theorem tot_times {a : List Row} {deep loops : Nat} (l : 0 < loops) (h : ∀ st : Mst, rowsOk st.cells.length deep loops a → MOk st → FlOk st → (∃ s o t, RowsS a st s o t ∧ FlOk s) ∨ RowsO a st) : ∀ (n : Nat) (st : Mst), rowsOk st.cells.length deep loops a → MOk st → FlOk st → ∃ s o t, TimesS n a st s o t ∧ FlOk s
  | 0, st, _, _, f => ⟨st, none, [], .zero, f⟩
  | n + 1, st, ok, m, f => by
    rcases h st ok m f with ⟨s, o, t, r, g⟩ | r
    · cases o with
      | some v => exact ⟨s, some v, t, .stop r, g⟩
      | none =>
        have z := aft_rows r ok m
        obtain ⟨s2, o, u, r2, g2⟩ := tot_times l h n s (by rw [z.le]; exact ok) z.mo g
        exact ⟨s2, o, t ++ u, .more r r2, g2⟩
    · have z := out_ccs r ok m
      rw [ccs_loop ok l] at z
      have := f.2
      omega
mutual
theorem tot_row : ∀ (r : Row) {st : Mst} {deep loops : Nat}, r.ok st.cells.length deep loops → MOk st → FlOk st → (∃ s o t, RowS r st s o t ∧ FlOk s) ∨ RowO r st
  | .read r k, st, _, _, _, _, f => .inl ⟨_, _, _, .plain trivial, f⟩
  | .set k e, st, _, _, _, _, f => .inl ⟨_, _, _, .plain trivial, f⟩
  | .swap r k e g, st, _, _, _, _, f => .inl ⟨_, _, _, .plain trivial, by
      show FlOk (if st.cells.getD k.toNat 0 = e.ev st.regs then ({ st with cells := st.cells.set k.toNat (g.ev st.regs % st.sides.getD k.toNat 0), regs := rset st.regs r 1 } : Mst) else { st with regs := rset st.regs r 0 })
      split <;> exact f⟩
  | .keep r e, st, _, _, _, _, f => .inl ⟨_, _, _, .plain trivial, f⟩
  | .coin x, st, _, _, _, _, f => by
    by_cases c : st.fallen = st.coins.length
    · exact .inr (.coin c)
    · refine .inl ⟨_, _, _, .coin ⟨f.1, by have := f.2; omega⟩, ?_⟩
      have h1 := f.1
      have h2 := f.2
      exact ⟨by show 0 ≤ st.fallen + 1; omega, by show st.fallen + 1 ≤ (st.coins.length : Nat); omega⟩
  | .ans e, st, _, _, _, _, f => .inl ⟨_, _, _, .ans, f⟩
  | .iff e a b, st, deep, loops, ok, m, f => by
    by_cases c : e.ev st.regs = 0
    · rcases tot_rows b ok.2.2 m f with ⟨s, o, t, r, g⟩ | r
      · exact .inl ⟨s, o, t, .no c r, g⟩
      · exact .inr (.no c r)
    · rcases tot_rows a ok.2.1 m f with ⟨s, o, t, r, g⟩ | r
      · exact .inl ⟨s, o, t, .yes c r, g⟩
      · exact .inr (.yes c r)
  | .times e a, st, deep, loops, ok, m, f => by
    have b := ev_bd m.rg ok.1.1
    obtain ⟨s, o, t, r, g⟩ := tot_times (Nat.succ_pos loops) (fun st ok m f => tot_rows a ok m f) (e.ev st.regs).toNat st ok.2.2 m f
    exact .inl ⟨s, o, t, .times (Int.toNat_of_nonneg b.1).symm r, g⟩
theorem tot_rows : ∀ (rs : List Row) {st : Mst} {deep loops : Nat}, rowsOk st.cells.length deep loops rs → MOk st → FlOk st → (∃ s o t, RowsS rs st s o t ∧ FlOk s) ∨ RowsO rs st
  | [], st, _, _, _, _, f => .inl ⟨st, none, [], .nil, f⟩
  | r :: rs, st, deep, loops, ok, m, f => by
    rcases tot_row r ok.2.1 m f with ⟨s, o, t, h, g⟩ | h
    · cases o with
      | some v => exact .inl ⟨s, some v, t, .stop h, g⟩
      | none =>
        have z := aft_row h ok.2.1 m
        rcases tot_rows rs (by rw [z.le]; exact ok.2.2) z.mo g with ⟨s2, o, u, k, g2⟩ | k
        · exact .inl ⟨s2, o, t ++ u, .cons h k, g2⟩
        · exact .inr (.later h k)
    · exact .inr (.here h)
end
/-- a deed's rows, called from a state -/
structure Able (rs : List Row) (sides hs : List Int) (a : Int) : Prop where
  mo : ∀ fs : List Int, (∀ f ∈ fs, 0 ≤ f ∧ f ≤ 1) → MOk (mst0 (codeOf rs) sides hs fs a)
  ok : rowsOk hs.length 1 0 rs
  cc : rowsCc rs ≤ 4
section
variable {rs : List Row} {sides hs : List Int} {a : Int}
theorem Able.tot (g : Able rs sides hs a) {fs : List Int} (hf : ∀ f ∈ fs, 0 ≤ f ∧ f ≤ 1) : (∃ r cs, WL rs sides hs a fs r cs) ∨ OL rs sides hs a fs := by
  rcases tot_rows rs (st := mst0 (codeOf rs) sides hs fs a) g.ok (g.mo fs hf) ⟨Int.le_refl 0, Int.natCast_nonneg _⟩ with ⟨s, o, t, r, _⟩ | r
  · exact .inl ⟨_, _, s, o, t, r, rfl, rfl⟩
  · exact .inr r
theorem Able.l3 (g : Able rs sides hs a) {fs : List Int} (hf : ∀ f ∈ fs, 0 ≤ f ∧ f ≤ 1) (h : OL rs sides hs a fs) : fs.length < 4 := by
  have z := out_ccs h g.ok (g.mo fs hf)
  have z : ((fs.length : Nat) : Int) < 0 + ((rowsCc rs : Nat) : Int) := z
  have := g.cc
  omega
theorem Able.ways (g : Able rs sides hs a) : ∀ (m : Nat) (todo : List (List Int)), (todo.map pot).sum ≤ m → (∀ fs ∈ todo, Pre (OL rs sides hs a) fs) →
    ∃ n ws, Trav (WL rs sides hs a) (OL rs sides hs a) n todo ws ∧ n ≤ (todo.map pot).sum ∧ (ws.map fun w => chn w.1).sum = (todo.map chn).sum ∧ ∀ w ∈ ws, Pre (OL rs sides hs a) w.1 ∧ WL rs sides hs a w.1 w.2.1 w.2.2 := by
  intro m
  induction m with
  | zero =>
    intro todo hp pre
    cases todo with
    | nil => exact ⟨0, [], .done, Nat.le_refl _, rfl, fun w h => nomatch h⟩
    | cons fs r =>
      have := pot_pos (pre fs List.mem_cons_self).1
      rw [List.map_cons, List.sum_cons] at hp
      omega
  | succ m ih =>
    intro todo hp pre
    rcases List.eq_nil_or_concat todo with rfl | ⟨t0, fs, rfl⟩
    · exact ⟨0, [], .done, Nat.le_refl _, rfl, fun w h => nomatch h⟩
    rw [List.concat_eq_append] at hp pre ⊢
    rw [List.map_append, List.sum_append] at hp ⊢
    rw [List.map_append, List.sum_append]
    have hp : (t0.map pot).sum + pot fs ≤ m + 1 := by simpa using hp
    have pfs := pre fs (by simp)
    have pre0 : ∀ gs ∈ t0, Pre (OL rs sides hs a) gs := fun gs h => pre gs (List.mem_append_left _ h)
    have pp := pot_pos pfs.1
    have e1 : (List.map pot [fs]).sum = pot fs := by simp
    have e2 : (List.map chn [fs]).sum = chn fs := by simp
    rw [e1, e2]
    rcases g.tot pfs.2.1 with ⟨r, cs, w⟩ | o
    · obtain ⟨n, ws, tr, hn, hc, hw⟩ := ih t0 (by omega) pre0
      refine ⟨n + 1, (fs, r, cs) :: ws, .hit w tr, by omega, by rw [List.map_cons, List.sum_cons, hc, Nat.add_comm], fun x hx => ?_⟩
      rcases List.mem_cons.mp hx with rfl | hx
      · exact ⟨pfs, w⟩
      · exact hw x hx
    · have l3 := g.l3 pfs.2.1 o
      have q1 := pot_two l3
      have q2 := chn_two l3
      have e3 : (List.map pot (t0 ++ [fs ++ [1], fs ++ [0]])).sum = (t0.map pot).sum + (pot (fs ++ [1]) + pot (fs ++ [0])) := by simp
      have e4 : (List.map chn (t0 ++ [fs ++ [1], fs ++ [0]])).sum = (t0.map chn).sum + (chn (fs ++ [1]) + chn (fs ++ [0])) := by simp
      obtain ⟨n, ws, tr, hn, hc, hw⟩ := ih (t0 ++ [fs ++ [1], fs ++ [0]]) (by rw [e3]; omega) (fun gs h => by
        rcases List.mem_append.mp h with h | h
        · exact pre0 gs h
        · simp only [List.mem_cons, List.not_mem_nil, or_false] at h
          rcases h with rfl | rfl
          · exact pfs.more o l3 (by decide)
          · exact pfs.more o l3 (by decide))
      rw [e3] at hn
      rw [e4] at hc
      exact ⟨n + 1, ws, .out o l3 tr, by omega, by omega, hw⟩
end
/-! ### and to one thing alone -/
theorem fin_out : ∀ {n m : Nat} {st s : Mst}, Fin n st s → OutM m st → False
  | _, _, _, _, .stop h, .here h2 _ _ _ => by rw [h2] at h; cases h
  | _, _, _, _, .stop h, .step h2 _ _ _ _ => by rw [h2] at h; cases h
  | _, _, _, _, .step _ _ hf c _, .here _ _ hf2 e => by
    rw [hf] at hf2
    cases (Option.some.inj hf2)
    have c2 := c.2
    have c2 : _ < _ := c2
    dsimp only at c2
    omega
  | _, _, _, _, .step _ _ hf _ r, .step _ _ hf2 _ r2 => by
    rw [hf] at hf2
    cases (Option.some.inj hf2)
    exact fin_out r r2
theorem trav_det {W : List Int → Int → List Int → Prop} {O : List Int → Prop} (dW : ∀ fs r cs r' cs', W fs r cs → W fs r' cs' → r = r' ∧ cs = cs') (dO : ∀ fs r cs, W fs r cs → O fs → False) : ∀ {n m : Nat} {l l2 : List (List Int)} {ws us : List (List Int × Int × List Int)}, Trav W O n l ws → Trav W O m l2 us → l = l2 → ws = us := by
  intro n m l l2 ws us h
  induction h generalizing m l2 us with
  | done =>
    intro k e
    cases k with
    | done => rfl
    | hit => simp at e
    | out => simp at e
  | @hit _ _ _ fs r cs w _ ih =>
    intro k e
    cases k with
    | done => simp at e
    | hit w2 k =>
      obtain ⟨e1, e2⟩ := List.append_inj' e rfl
      cases e2
      obtain ⟨rfl, rfl⟩ := dW _ _ _ _ _ w w2
      rw [ih k e1]
    | out o2 _ k =>
      obtain ⟨e1, e2⟩ := List.append_inj' e rfl
      cases e2
      exact (dO _ _ _ w o2).elim
  | @out _ _ _ fs o _ _ ih =>
    intro k e
    cases k with
    | done => simp at e
    | hit w2 k =>
      obtain ⟨e1, e2⟩ := List.append_inj' e rfl
      cases e2
      exact (dO _ _ _ w2 o).elim
    | out o2 _ k =>
      obtain ⟨e1, e2⟩ := List.append_inj' e rfl
      cases e2
      exact ih k (by rw [e1])
theorem wayM_det {code : List FR} {sides hs fs cs cs' : List Int} {a r r' : Int} (h : WayM code sides hs a fs r cs) (k : WayM code sides hs a fs r' cs') : r = r' ∧ cs = cs' := by
  obtain ⟨n, s, f, e1, e2⟩ := h
  obtain ⟨m, t, g, e3, e4⟩ := k
  cases fin_det f g
  rw [e1] at e3
  exact ⟨Option.some.inj e3, e2.symm.trans e4⟩
open Classical in
/-- the ways of a call from a state -/
noncomputable def wys (rs : List Row) (sides : List Int) (a : Int) (hs : List Int) : List (List Int × Int × List Int) :=
  if h : ∃ ws, ∃ n, n ≤ 31 ∧ Trav (WL rs sides hs a) (OL rs sides hs a) n [[]] ws ∧ (ws.map fun w => chn w.1).sum = 16 ∧ ∀ w ∈ ws, Pre (OL rs sides hs a) w.1 ∧ WL rs sides hs a w.1 w.2.1 w.2.2 then h.choose else []
section
variable {rs : List Row} {sides hs : List Int} {a : Int}
theorem Able.wys (g : Able rs sides hs a) : ∃ n, n ≤ 31 ∧ Trav (WL rs sides hs a) (OL rs sides hs a) n [[]] (wys rs sides a hs) ∧ ((wys rs sides a hs).map fun w => chn w.1).sum = 16 ∧ ∀ w ∈ wys rs sides a hs, Pre (OL rs sides hs a) w.1 ∧ WL rs sides hs a w.1 w.2.1 w.2.2 := by
  have h : ∃ ws, ∃ n, n ≤ 31 ∧ Trav (WL rs sides hs a) (OL rs sides hs a) n [[]] ws ∧ (ws.map fun w => chn w.1).sum = 16 ∧ ∀ w ∈ ws, Pre (OL rs sides hs a) w.1 ∧ WL rs sides hs a w.1 w.2.1 w.2.2 := by
    obtain ⟨n, ws, tr, hn, hc, hw⟩ := g.ways 31 [[]] (by decide) (fun fs hf => by rw [List.mem_singleton.mp hf]; exact ⟨by decide, (fun f h => nomatch h), fun k hk => absurd hk (Nat.not_lt_zero k)⟩)
    exact ⟨ws, n, Nat.le_trans hn (by decide), tr, hc, hw⟩
  unfold M.wys
  rw [dif_pos h]
  exact h.choose_spec
theorem Able.one (g : Able rs sides hs a) {n : Nat} {ws : List (List Int × Int × List Int)} (tr : Trav (WayM (codeOf rs) sides hs a) (OutW (codeOf rs) sides hs a) n [[]] ws) : ws = M.wys rs sides a hs := by
  obtain ⟨m, _, tr2, _, _⟩ := g.wys
  refine trav_det (W := WayM (codeOf rs) sides hs a) (O := OutW (codeOf rs) sides hs a) (fun fs r cs r' cs' h k => wayM_det h k) (fun fs r cs h o => ?_) tr (tr2.imp (fun fs r cs h => wl_way g.ok h) (fun fs h => ?_)) rfl
  · obtain ⟨_, _, f, _, _⟩ := h
    obtain ⟨_, o⟩ := o
    exact fin_out f o
  · exact body_out g.ok h
theorem Able.one' (g : Able rs sides hs a) {n : Nat} {ws : List (List Int × Int × List Int)} (tr : Trav (WL rs sides hs a) (OL rs sides hs a) n [[]] ws) : ws = M.wys rs sides a hs :=
  g.one (tr.imp (fun fs r cs h => wl_way g.ok h) (fun fs h => body_out g.ok h))
theorem Able.wysM (g : Able rs sides hs a) : ∃ n, n ≤ 31 ∧ Trav (WayM (codeOf rs) sides hs a) (OutW (codeOf rs) sides hs a) n [[]] (M.wys rs sides a hs) := by
  obtain ⟨n, hn, tr, _, _⟩ := g.wys
  exact ⟨n, hn, tr.imp (fun fs r cs h => wl_way g.ok h) (fun fs h => body_out g.ok h)⟩
theorem Able.so (g : Able rs sides hs a) (so : StateOk sides hs) {w : List Int × Int × List Int} (hw : w ∈ M.wys rs sides a hs) : StateOk sides w.2.2 ∧ w.1.length ≤ 4 := by
  obtain ⟨_, _, _, _, h⟩ := g.wys
  obtain ⟨p, k⟩ := h w hw
  obtain ⟨n, s, f, _, e⟩ := wl_way g.ok k
  rw [← e]
  exact ⟨so_fin f so, p.1⟩
end

end M

set_option Elab.async false
set_option linter.all false
set_option maxRecDepth 100000
set_option maxHeartbeats 2000000
namespace M
open PySem PySem.Spec PyProof.Rows L2

/-! ### weights -/
abbrev Wt := List (List Int × Nat)
abbrev WyF := List Int → List (List Int × Int × List Int)
def wAt : Wt → List Int → Nat
  | [], _ => 0
  | p :: r, k => if p.1 = k then p.2 else wAt r k
/-- w more for k -/
def wPut : Wt → List Int → Nat → Wt
  | [], k, w => [(k, w)]
  | p :: r, k, w => if p.1 = k then (p.1, p.2 + w) :: r else p :: wPut r k w
def lin : Wt → (List Int → Nat) → Nat
  | [], _ => 0
  | p :: r, f => p.2 * f p.1 + lin r f
def wAll (L xs : Wt) : Wt := xs.foldl (fun L p => wPut L p.1 p.2) L
def ctr (W : WyF) (L : Wt) : Wt := L.flatMap fun p => (W p.1).map fun w => (w.2.2, p.2 * chn w.1)
def stepW (W : WyF) (L : Wt) : Wt := wAll [] (ctr W L)
def rowW (Ws : List WyF) (L : Wt) : Wt := Ws.foldl (fun L W => stepW W L) L
def scl (g : Nat) (L : Wt) : Wt := L.map fun p => (p.1, g * p.2)
def gcdW (L : Wt) : Nat := L.foldl (fun a p => Nat.gcd a p.2) 0
def red (L : Wt) : Wt := L.map fun p => (p.1, p.2 / gcdW L)
def tot (L : Wt) : Nat := (L.map (·.2)).sum
def fr (w n : Nat) : Nat × Nat := (w / Nat.gcd w n, n / Nat.gcd w n)
def kf (W : WyF) (f : List Int → Nat) (s : List Int) : Nat := ((W s).map fun w => chn w.1 * f w.2.2).sum
def kk : List WyF → (List Int → Nat) → List Int → Nat
  | [], f => f
  | W :: Ws, f => kf W (kk Ws f)
theorem lin_put (L : Wt) (k : List Int) (w : Nat) (f : List Int → Nat) : lin (wPut L k w) f = lin L f + w * f k := by
  induction L with
  | nil => show w * f k + 0 = 0 + w * f k; omega
  | cons p r ih =>
    unfold wPut
    split
    · rename_i e
      show (p.2 + w) * f p.1 + lin r f = p.2 * f p.1 + lin r f + w * f k
      rw [e, Nat.add_mul]
      omega
    · show p.2 * f p.1 + lin (wPut r k w) f = p.2 * f p.1 + lin r f + w * f k
      rw [ih]
      omega
theorem lin_all (xs : Wt) (f : List Int → Nat) : ∀ L : Wt, lin (wAll L xs) f = lin L f + lin xs f := by
  induction xs with
  | nil => intro L; rfl
  | cons p r ih =>
    intro L
    show lin (wAll (wPut L p.1 p.2) r) f = lin L f + (p.2 * f p.1 + lin r f)
    rw [ih, lin_put]
    omega
theorem lin_app (L M : Wt) (f : List Int → Nat) : lin (L ++ M) f = lin L f + lin M f := by
  induction L with
  | nil => show lin M f = 0 + lin M f; omega
  | cons p r ih => show p.2 * f p.1 + lin (r ++ M) f = p.2 * f p.1 + lin r f + lin M f; rw [ih]; omega
theorem lin_map (p : Nat) (ws : List (List Int × Int × List Int)) (f : List Int → Nat) : lin (ws.map fun w => (w.2.2, p * chn w.1)) f = p * (ws.map fun w => chn w.1 * f w.2.2).sum := by
  induction ws with
  | nil => rfl
  | cons w r ih =>
    show p * chn w.1 * f w.2.2 + lin (r.map fun w => (w.2.2, p * chn w.1)) f = p * ((r.map fun w => chn w.1 * f w.2.2).foldr (· + ·) 0 |> (chn w.1 * f w.2.2 + ·))
    rw [ih, Nat.mul_assoc]
    exact (Nat.mul_add ..).symm
theorem lin_ctr (W : WyF) (L : Wt) (f : List Int → Nat) : lin (ctr W L) f = lin L (kf W f) := by
  induction L with
  | nil => rfl
  | cons p r ih =>
    show lin (((W p.1).map fun w => (w.2.2, p.2 * chn w.1)) ++ ctr W r) f = p.2 * kf W f p.1 + lin r (kf W f)
    rw [lin_app, ih, lin_map]
    rfl
theorem lin_step (W : WyF) (L : Wt) (f : List Int → Nat) : lin (stepW W L) f = lin L (kf W f) := by
  unfold stepW
  rw [lin_all, lin_ctr]
  show 0 + _ = _
  omega
theorem lin_row (f : List Int → Nat) : ∀ (Ws : List WyF) (L : Wt), lin (rowW Ws L) f = lin L (kk Ws f)
  | [], _ => rfl
  | W :: Ws, L => by
    show lin (rowW Ws (stepW W L)) f = lin L (kf W (kk Ws f))
    rw [lin_row f Ws, lin_step]
theorem kk_app (f : List Int → Nat) : ∀ Ws Us : List WyF, kk (Ws ++ Us) f = kk Ws (kk Us f)
  | [], _ => rfl
  | W :: Ws, Us => by
    show kf W (kk (Ws ++ Us) f) = kf W (kk Ws (kk Us f))
    rw [kk_app f Ws Us]
theorem row_app (Ws Us : List WyF) (L : Wt) : rowW (Ws ++ Us) L = rowW Us (rowW Ws L) := List.foldl_append
theorem row_snoc (Ws : List WyF) (W : WyF) (L : Wt) : rowW (Ws ++ [W]) L = stepW W (rowW Ws L) := row_app Ws [W] L
/-! ### keys -/
theorem keys_put (L : Wt) (k : List Int) (w : Nat) (x : List Int) : x ∈ (wPut L k w).map (·.1) ↔ x ∈ L.map (·.1) ∨ x = k := by
  induction L with
  | nil => show x ∈ [k] ↔ _; simp
  | cons p r ih =>
    unfold wPut
    split
    · rename_i e
      simp only [List.map_cons, List.mem_cons]
      constructor
      · exact fun h => .inl h
      · rintro (h | h)
        · exact h
        · exact .inl (h.trans e.symm)
    · simp only [List.map_cons, List.mem_cons] at ih ⊢
      rw [ih]
      constructor
      · rintro (h | h | h)
        · exact .inl (.inl h)
        · exact .inl (.inr h)
        · exact .inr h
      · rintro ((h | h) | h)
        · exact .inl h
        · exact .inr (.inl h)
        · exact .inr (.inr h)
theorem wnd_put (L : Wt) (k : List Int) (w : Nat) (n : (L.map (·.1)).Nodup) : ((wPut L k w).map (·.1)).Nodup := by
  induction L with
  | nil => exact List.nodup_cons.mpr ⟨(fun h => nomatch h), List.nodup_nil⟩
  | cons p r ih =>
    rw [List.map_cons, List.nodup_cons] at n
    unfold wPut
    split
    · exact List.nodup_cons.mpr n
    · rename_i e
      rw [List.map_cons, List.nodup_cons]
      refine ⟨fun h => ?_, ih n.2⟩
      rcases (keys_put r k w p.1).mp h with h | h
      · exact n.1 h
      · exact e h
/-- weights of states, one each -/
structure WOk (S : List Int → Prop) (L : Wt) : Prop where
  nd : (L.map (·.1)).Nodup
  po : ∀ p ∈ L, 0 < p.2
  st : ∀ p ∈ L, S p.1
theorem po_put (L : Wt) (k : List Int) (w : Nat) (hw : 0 < w) (n : ∀ p ∈ L, 0 < p.2) : ∀ p ∈ wPut L k w, 0 < p.2 := by
  induction L with
  | nil => intro p h; rw [List.mem_singleton.mp h]; exact hw
  | cons q r ih =>
    intro p h
    unfold wPut at h
    split at h
    · rcases List.mem_cons.mp h with h | h
      · rw [h]; show 0 < q.2 + w; omega
      · exact n p (List.mem_cons_of_mem _ h)
    · rcases List.mem_cons.mp h with h | h
      · rw [h]; exact n q List.mem_cons_self
      · exact ih (fun p h => n p (List.mem_cons_of_mem _ h)) p h
theorem WOk.key {S : List Int → Prop} {L : Wt} (h : WOk S L) {x : List Int} (hx : x ∈ L.map (·.1)) : S x := by
  obtain ⟨p, hp, rfl⟩ := List.mem_map.mp hx
  exact h.st p hp
theorem WOk.put {S : List Int → Prop} {L : Wt} (h : WOk S L) {k : List Int} {w : Nat} (hk : S k) (hw : 0 < w) : WOk S (wPut L k w) :=
  ⟨wnd_put L k w h.nd, po_put L k w hw h.po, fun p hp => by
    rcases (keys_put L k w p.1).mp (List.mem_map.mpr ⟨p, hp, rfl⟩) with e | e
    · exact h.key e
    · rw [e]; exact hk⟩
theorem WOk.nil {S : List Int → Prop} : WOk S [] := ⟨List.nodup_nil, (fun p h => nomatch h), (fun p h => nomatch h)⟩
theorem WOk.all {S : List Int → Prop} : ∀ {xs L : Wt}, WOk S L → (∀ p ∈ xs, S p.1 ∧ 0 < p.2) → WOk S (wAll L xs)
  | [], _, h, _ => h
  | p :: r, L, h, k => WOk.all (xs := r) (h.put (k p List.mem_cons_self).1 (k p List.mem_cons_self).2) fun q hq => k q (List.mem_cons_of_mem _ hq)
theorem wAll_app (L xs ys : Wt) : wAll L (xs ++ ys) = wAll (wAll L xs) ys := List.foldl_append
theorem wAll_snoc (L xs : Wt) (k : List Int) (w : Nat) : wAll L (xs ++ [(k, w)]) = wPut (wAll L xs) k w := wAll_app L xs [(k, w)]
theorem wAt_no {L : Wt} {k : List Int} (h : k ∉ L.map (·.1)) : wAt L k = 0 := by
  induction L with
  | nil => rfl
  | cons p r ih =>
    rw [List.map_cons, List.mem_cons] at h
    unfold wAt
    rw [if_neg (fun e => h (.inl e.symm))]
    exact ih fun z => h (.inr z)
theorem wAt_mem {L : Wt} (n : (L.map (·.1)).Nodup) {p : List Int × Nat} (h : p ∈ L) : wAt L p.1 = p.2 := by
  induction L with
  | nil => exact nomatch h
  | cons q r ih =>
    rw [List.map_cons, List.nodup_cons] at n
    unfold wAt
    rcases List.mem_cons.mp h with rfl | h
    · rw [if_pos rfl]
    · rw [if_neg (fun e : q.1 = p.1 => n.1 (by rw [e]; exact List.mem_map.mpr ⟨p, h, rfl⟩))]
      exact ih n.2 h
open Classical in
noncomputable def dlt (k : List Int) : List Int → Nat := fun x => if x = k then 1 else 0
theorem lin_no {L : Wt} {k : List Int} (h : k ∉ L.map (·.1)) : lin L (dlt k) = 0 := by
  induction L with
  | nil => rfl
  | cons p r ih =>
    rw [List.map_cons, List.mem_cons] at h
    show p.2 * dlt k p.1 + lin r (dlt k) = 0
    rw [ih fun z => h (.inr z)]
    unfold dlt
    rw [if_neg (fun e => h (.inl e.symm))]
    omega
theorem lin_dlt {L : Wt} (n : (L.map (·.1)).Nodup) (k : List Int) : lin L (dlt k) = wAt L k := by
  induction L with
  | nil => rfl
  | cons p r ih =>
    rw [List.map_cons, List.nodup_cons] at n
    show p.2 * dlt k p.1 + lin r (dlt k) = _
    unfold wAt
    by_cases e : p.1 = k
    · rw [if_pos e]
      rw [lin_no (e ▸ n.1)]
      unfold dlt
      rw [if_pos e]
      omega
    · rw [if_neg e, ih n.2]
      unfold dlt
      rw [if_neg e]
      omega
theorem WOk.mem {S : List Int → Prop} {L : Wt} (h : WOk S L) (k : List Int) : k ∈ L.map (·.1) ↔ 0 < wAt L k := by
  constructor
  · intro m
    obtain ⟨p, hp, rfl⟩ := List.mem_map.mp m
    rw [wAt_mem h.nd hp]
    exact h.po p hp
  · intro m
    apply Classical.byContradiction
    intro n
    rw [wAt_no n] at m
    exact absurd m (Nat.lt_irrefl 0)
theorem nodup_len {α : Type} [DecidableEq α] : ∀ {l m : List α}, l.Nodup → (∀ x ∈ l, x ∈ m) → l.length ≤ m.length
  | [], _, _, _ => Nat.zero_le _
  | x :: l, m, n, h => by
    rw [List.nodup_cons] at n
    have hx := h x List.mem_cons_self
    have ih := nodup_len (l := l) (m := m.erase x) n.2 fun y hy => (List.mem_erase_of_ne (fun e : y = x => n.1 (by rw [← e]; exact hy))).mpr (h y (List.mem_cons_of_mem _ hy))
    rw [List.length_erase_of_mem hx] at ih
    have := List.length_pos_of_mem hx
    show l.length + 1 ≤ m.length
    omega
/-! ### the ways of a call -/
/-- the ways part the whole -/
structure WyOk (S : List Int → Prop) (W : WyF) : Prop where
  su : ∀ s, S s → ((W s).map fun w => chn w.1).sum = 16
  st : ∀ s, S s → ∀ w ∈ W s, S w.2.2
  l4 : ∀ s, S s → ∀ w ∈ W s, w.1.length ≤ 4
theorem chn_pos (fs : List Int) : 0 < chn fs := Nat.pow_pos (by decide)
theorem ctr_ok {S : List Int → Prop} {W : WyF} {L : Wt} (h : WOk S L) (k : WyOk S W) : ∀ p ∈ ctr W L, S p.1 ∧ 0 < p.2 := by
  intro p hp
  obtain ⟨q, hq, hp⟩ := List.mem_flatMap.mp hp
  obtain ⟨w, hw, rfl⟩ := List.mem_map.mp hp
  exact ⟨k.st _ (h.st q hq) w hw, Nat.mul_pos (h.po q hq) (chn_pos _)⟩
theorem WOk.step {S : List Int → Prop} {W : WyF} {L : Wt} (h : WOk S L) (k : WyOk S W) : WOk S (stepW W L) := WOk.nil.all (ctr_ok h k)
theorem WOk.row {S : List Int → Prop} : ∀ {Ws : List WyF} {L : Wt}, WOk S L → (∀ W ∈ Ws, WyOk S W) → WOk S (rowW Ws L)
  | [], _, h, _ => h
  | W :: Ws, L, h, k => WOk.row (Ws := Ws) (h.step (k W List.mem_cons_self)) fun V hV => k V (List.mem_cons_of_mem _ hV)
theorem tot_lin (L : Wt) : tot L = lin L fun _ => 1 := by
  induction L with
  | nil => rfl
  | cons p r ih => show p.2 + tot r = p.2 * 1 + lin r _; rw [ih, Nat.mul_one]
theorem lin_eq {L : Wt} {f g : List Int → Nat} (h : ∀ p ∈ L, f p.1 = g p.1) : lin L f = lin L g := by
  induction L with
  | nil => rfl
  | cons p r ih =>
    show p.2 * f p.1 + lin r f = p.2 * g p.1 + lin r g
    rw [ih fun q hq => h q (List.mem_cons_of_mem _ hq), h p List.mem_cons_self]
theorem lin_mul (L : Wt) (c : Nat) (f : List Int → Nat) : lin L (fun s => c * f s) = c * lin L f := by
  induction L with
  | nil => rfl
  | cons p r ih =>
    show p.2 * (c * f p.1) + lin r (fun s => c * f s) = c * (p.2 * f p.1 + lin r f)
    rw [ih, Nat.mul_add, Nat.mul_left_comm]
theorem tot_step {S : List Int → Prop} {W : WyF} {L : Wt} (h : WOk S L) (k : WyOk S W) : tot (stepW W L) = 16 * tot L := by
  rw [tot_lin, tot_lin, lin_step, ← lin_mul]
  refine lin_eq fun p hp => ?_
  have := k.su p.1 (h.st p hp)
  unfold kf
  simpa using this
theorem tot_row' {S : List Int → Prop} : ∀ {Ws : List WyF} {L : Wt}, WOk S L → (∀ W ∈ Ws, WyOk S W) → tot (rowW Ws L) = 16 ^ Ws.length * tot L
  | [], _, h, _ => by show tot _ = 16 ^ 0 * tot _; rw [Nat.pow_zero, Nat.one_mul]; rfl
  | W :: Ws, L, h, k => by
    show tot (rowW Ws (stepW W L)) = 16 ^ (Ws.length + 1) * tot L
    rw [tot_row' (h.step (k W List.mem_cons_self)) fun V hV => k V (List.mem_cons_of_mem _ hV), tot_step h (k W List.mem_cons_self), Nat.pow_succ, Nat.mul_assoc]
/-! ### weights put together -/
def mixC (c : Nat) (L : Wt) (G : List Int → Wt) : Wt := L.flatMap fun p => (G p.1).map fun q => (q.1, p.2 * q.2 * c)
theorem lin_scal (a c : Nat) (L : Wt) (f : List Int → Nat) : lin (L.map fun q => (q.1, a * q.2 * c)) f = a * (c * lin L f) := by
  induction L with
  | nil => show 0 = a * (c * 0); rw [Nat.mul_zero, Nat.mul_zero]
  | cons p r ih =>
    show a * p.2 * c * f p.1 + lin (r.map fun q => (q.1, a * q.2 * c)) f = a * (c * (p.2 * f p.1 + lin r f))
    rw [ih, Nat.mul_add, Nat.mul_add]
    congr 1
    rw [Nat.mul_assoc, Nat.mul_assoc, Nat.mul_left_comm p.2 c]
theorem lin_mix (c : Nat) (G : List Int → Wt) (f : List Int → Nat) : ∀ L : Wt, lin (mixC c L G) f = c * lin L fun s => lin (G s) f
  | [] => rfl
  | p :: r => by
    show lin (((G p.1).map fun q => (q.1, p.2 * q.2 * c)) ++ mixC c r G) f = c * (p.2 * lin (G p.1) f + lin r fun s => lin (G s) f)
    rw [lin_app, lin_mix c G f r, lin_scal, Nat.mul_add, Nat.mul_left_comm]
/-- the second row's weights from the states of the first come to the weights of the whole -/
theorem mix_row (c : Nat) (Ws Us : List WyF) (L : Wt) (f : List Int → Nat) : lin (mixC c (rowW Ws L) fun s => rowW Us [(s, 1)]) f = c * lin (rowW (Ws ++ Us) L) f := by
  rw [lin_mix, lin_row, lin_row, kk_app]
  congr 1
  congr 1
  congr 1
  funext s
  rw [lin_row]
  show 1 * kk Us f s + 0 = _
  omega
theorem mix_same {S : List Int → Prop} {M L : Wt} {c : Nat} (hM : WOk S M) (hL : WOk S L) (hc : 0 < c) (h : ∀ f, lin M f = c * lin L f) : M.length = L.length ∧ ∀ p ∈ M, p.1 ∈ L.map (·.1) ∧ p.2 = c * wAt L p.1 := by
  have h1 : ∀ k, wAt M k = c * wAt L k := fun k => by rw [← lin_dlt hM.nd, ← lin_dlt hL.nd, h]
  have h2 : ∀ k, k ∈ M.map (·.1) ↔ k ∈ L.map (·.1) := fun k => by
    rw [hM.mem, hL.mem, h1]
    exact ⟨fun z => Nat.pos_of_mul_pos_left z |> fun _ => (Nat.eq_zero_or_pos _).elim (fun e => by rw [e] at z; omega) id, fun z => Nat.mul_pos hc z⟩
  have l1 := nodup_len hM.nd fun x hx => (h2 x).mp hx
  have l2 := nodup_len hL.nd fun x hx => (h2 x).mpr hx
  rw [List.length_map, List.length_map] at l1 l2
  refine ⟨Nat.le_antisymm l1 l2, fun p hp => ⟨(h2 _).mp (List.mem_map.mpr ⟨p, hp, rfl⟩), ?_⟩⟩
  rw [← h1, wAt_mem hM.nd hp]
/-! ### without a common divisor -/
theorem scl_put (g : Nat) (L : Wt) (k : List Int) (w : Nat) : wPut (scl g L) k (g * w) = scl g (wPut L k w) := by
  induction L with
  | nil => rfl
  | cons p r ih =>
    show wPut ((p.1, g * p.2) :: scl g r) k (g * w) = _
    unfold wPut
    by_cases e : p.1 = k
    · rw [if_pos e, if_pos e, ← Nat.mul_add]
      rfl
    · rw [if_neg e, if_neg e, ih]
      rfl
theorem scl_all (g : Nat) : ∀ (xs L : Wt), wAll (scl g L) (scl g xs) = scl g (wAll L xs)
  | [], _ => rfl
  | p :: r, L => by
    show wAll (wPut (scl g L) p.1 (g * p.2)) (scl g r) = scl g (wAll (wPut L p.1 p.2) r)
    rw [scl_put, scl_all g r]
theorem scl_ctr (g : Nat) (W : WyF) : ∀ L : Wt, ctr W (scl g L) = scl g (ctr W L)
  | [] => rfl
  | p :: r => by
    show ((W p.1).map fun w => (w.2.2, g * p.2 * chn w.1)) ++ ctr W (scl g r) = scl g (((W p.1).map fun w => (w.2.2, p.2 * chn w.1)) ++ ctr W r)
    rw [scl_ctr g W r]
    show _ = List.map _ (_ ++ _)
    rw [List.map_append, List.map_map]
    congr 1
    refine List.map_congr_left fun w _ => ?_
    show (w.2.2, g * p.2 * chn w.1) = (w.2.2, g * (p.2 * chn w.1))
    rw [Nat.mul_assoc]
theorem scl_step (g : Nat) (W : WyF) (L : Wt) : stepW W (scl g L) = scl g (stepW W L) := by
  unfold stepW
  rw [scl_ctr]
  exact scl_all g (ctr W L) []
theorem gcdf_scl (g : Nat) : ∀ (L : Wt) (a : Nat), (scl g L).foldl (fun a p => Nat.gcd a p.2) (g * a) = g * L.foldl (fun a p => Nat.gcd a p.2) a
  | [], _ => rfl
  | p :: r, a => by
    show (scl g r).foldl (fun a p => Nat.gcd a p.2) (Nat.gcd (g * a) (g * p.2)) = g * r.foldl (fun a p => Nat.gcd a p.2) (Nat.gcd a p.2)
    rw [Nat.gcd_mul_left, gcdf_scl g r]
theorem gcd_scl (g : Nat) (L : Wt) : gcdW (scl g L) = g * gcdW L := gcdf_scl g L 0
theorem gcdf_dvd : ∀ (L : Wt) (a : Nat), L.foldl (fun a p => Nat.gcd a p.2) a ∣ a ∧ ∀ p ∈ L, L.foldl (fun a p => Nat.gcd a p.2) a ∣ p.2
  | [], a => ⟨Nat.dvd_refl a, fun p h => nomatch h⟩
  | q :: r, a => by
    have ih := gcdf_dvd r (Nat.gcd a q.2)
    refine ⟨Nat.dvd_trans ih.1 (Nat.gcd_dvd_left ..), fun p hp => ?_⟩
    rcases List.mem_cons.mp hp with rfl | hp
    · exact Nat.dvd_trans ih.1 (Nat.gcd_dvd_right ..)
    · exact ih.2 p hp
theorem gcd_dvd {L : Wt} {p : List Int × Nat} (h : p ∈ L) : gcdW L ∣ p.2 := (gcdf_dvd L 0).2 p h
theorem scl_red (L : Wt) : scl (gcdW L) (red L) = L := by
  show (L.map fun p => (p.1, p.2 / gcdW L)).map (fun p => (p.1, gcdW L * p.2)) = L
  rw [List.map_map]
  refine (List.map_congr_left fun p hp => ?_).trans (List.map_id L)
  show (p.1, gcdW L * (p.2 / gcdW L)) = p
  rw [Nat.mul_div_cancel' (gcd_dvd hp)]
theorem red_scl {g : Nat} (hg : 0 < g) (L : Wt) : red (scl g L) = red L := by
  unfold red
  rw [gcd_scl]
  show (L.map fun p => (p.1, g * p.2)).map _ = _
  rw [List.map_map]
  refine List.map_congr_left fun p _ => ?_
  show (p.1, g * p.2 / (g * gcdW L)) = _
  rw [Nat.mul_div_mul_left _ _ hg]
theorem gcd_pos {S : List Int → Prop} {L : Wt} (h : WOk S L) (n : L ≠ []) : 0 < gcdW L := by
  cases L with
  | nil => exact absurd rfl n
  | cons p r => exact Nat.pos_of_dvd_of_pos (gcd_dvd (List.mem_cons_self (a := p) (l := r))) (h.po p List.mem_cons_self)
theorem red_step {S : List Int → Prop} {L : Wt} (W : WyF) (h : WOk S L) (n : L ≠ []) : red (stepW W (red L)) = red (stepW W L) := by
  have e : stepW W L = scl (gcdW L) (stepW W (red L)) := by rw [← scl_step, scl_red]
  rw [e, red_scl (gcd_pos h n)]
theorem tot_scl (g : Nat) (L : Wt) : tot (scl g L) = g * tot L := by
  induction L with
  | nil => rfl
  | cons p r ih => show g * p.2 + tot (scl g r) = g * (p.2 + tot r); rw [ih, Nat.mul_add]
theorem fr_mul {g : Nat} (hg : 0 < g) (w n : Nat) : fr (g * w) (g * n) = fr w n := by
  unfold fr
  rw [Nat.gcd_mul_left, Nat.mul_div_mul_left _ _ hg, Nat.mul_div_mul_left _ _ hg]
/-- the share of weights -/
def shr (L : Wt) : List (List Int × Nat × Nat) := L.map fun p => (p.1, fr p.2 (tot L))
theorem shr_red {S : List Int → Prop} {L : Wt} (h : WOk S L) (n : L ≠ []) : shr (red L) = shr L := by
  have hg := gcd_pos h n
  have e : shr L = shr (scl (gcdW L) (red L)) := by rw [scl_red]
  rw [e]
  show _ = (scl (gcdW L) (red L)).map _
  rw [tot_scl]
  show (red L).map _ = ((red L).map fun p => (p.1, gcdW L * p.2)).map _
  rw [List.map_map]
  refine List.map_congr_left fun p _ => ?_
  show (p.1, fr p.2 (tot (red L))) = (p.1, fr (gcdW L * p.2) (gcdW L * tot (red L)))
  rw [fr_mul hg]
theorem WOk.red {S : List Int → Prop} {L : Wt} (h : WOk S L) (n : L ≠ []) : WOk S (red L) := by
  have hg := gcd_pos h n
  refine ⟨by show ((L.map _).map _).Nodup; rw [List.map_map]; exact h.nd, fun p hp => ?_, fun p hp => ?_⟩
  · obtain ⟨q, hq, rfl⟩ := List.mem_map.mp hp
    exact Nat.div_pos (Nat.le_of_dvd (h.po q hq) (gcd_dvd hq)) hg
  · obtain ⟨q, hq, rfl⟩ := List.mem_map.mp hp
    exact h.st q hq
theorem row_ne {S : List Int → Prop} {Ws : List WyF} {L : Wt} (h : WOk S L) (k : ∀ W ∈ Ws, WyOk S W) (n : L ≠ []) : rowW Ws L ≠ [] := by
  intro e
  have z := tot_row' h k
  rw [e] at z
  have : 0 < tot L := by
    cases L with
    | nil => exact absurd rfl n
    | cons p r => have := h.po p List.mem_cons_self; show 0 < p.2 + tot r; omega
  have : 0 < 16 ^ Ws.length * tot L := Nat.mul_pos (Nat.pow_pos (by decide)) this
  rw [← z] at this
  exact absurd this (Nat.lt_irrefl 0)
/-! ### how many states there are -/
def allSt : List Int → List (List Int)
  | [] => [[]]
  | s :: r => (List.range s.toNat).flatMap fun i : Nat => (allSt r).map fun t => ((i : Nat) : Int) :: t
theorem mem_allSt : ∀ {ss hs : List Int}, StateOk ss hs → hs ∈ allSt ss
  | [], [], _ => List.mem_singleton.mpr rfl
  | [], h :: t, so => by have := so.1; simp at this
  | s :: r, [], so => by have := so.1; simp at this
  | s :: r, h :: t, so => by
    have z := so.2 0 s h rfl rfl
    have k : StateOk r t := ⟨by have := so.1; simpa using this, fun i a b e1 e2 => so.2 (i + 1) a b e1 e2⟩
    refine List.mem_flatMap.mpr ⟨h.toNat, List.mem_range.mpr (show h.toNat < s.toNat by omega), List.mem_map.mpr ⟨t, mem_allSt k, ?_⟩⟩
    show ((h.toNat : Nat) : Int) :: t = h :: t
    rw [Int.toNat_of_nonneg z.1]
theorem len_allSt {m : Nat} : ∀ {ss : List Int}, (∀ s ∈ ss, s ≤ (m : Int)) → (allSt ss).length ≤ m ^ ss.length
  | [], _ => Nat.le_refl 1
  | s :: r, h => by
    have ih := len_allSt (ss := r) fun x hx => h x (List.mem_cons_of_mem _ hx)
    show ((List.range s.toNat).flatMap fun i : Nat => (allSt r).map fun t => ((i : Nat) : Int) :: t).length ≤ m ^ (r.length + 1)
    rw [List.length_flatMap]
    have e : (List.map (fun i : Nat => ((allSt r).map fun t => ((i : Nat) : Int) :: t).length) (List.range s.toNat)) = List.replicate s.toNat (allSt r).length := by
      refine List.ext_getElem (by simp) fun i _ _ => by simp
    rw [e]
    have := h s List.mem_cons_self
    have hs : s.toNat ≤ m := by omega
    rw [List.sum_replicate_nat, Nat.pow_succ, Nat.mul_comm]
    exact Nat.mul_le_mul ih hs
theorem WOk.len {sides : List Int} {L : Wt} (h : WOk (StateOk sides) L) (l6 : sides.length ≤ 6) (s9 : ∀ s ∈ sides, s ≤ 9) : L.length ≤ 531441 := by
  have z := nodup_len h.nd fun x hx => mem_allSt (h.key hx)
  rw [List.length_map] at z
  have k := len_allSt (m := 9) (ss := sides) s9
  have : (9 : Nat) ^ sides.length ≤ 9 ^ 6 := Nat.pow_le_pow_right (by decide) l6
  have : (9 : Nat) ^ 6 = 531441 := by decide
  omega

end M

set_option Elab.async false
set_option linter.all false
set_option maxRecDepth 100000
set_option maxHeartbeats 2000000
namespace M
open PySem PySem.Spec PyProof.Rows L2

/-! ### dicts whose keys are tuples: what the hand layer has not -/
/-! ### the values of a dict whose keys are tuples -/
def Itdt (d : Addr) (o : Obj) (kvs : List (List Key × V)) : It :=
  ⟨fun i H => H d = some (.frz o (.dT kvs)) ∧ i < kvs.length, fun i H x H' => H' = H ∧ ∃ k, kvs[i]? = some (k, x), fun i H => H d = some (.frz o (.dT kvs)) ∧ kvs.length ≤ i⟩
section
variable {X : Cx} {pins : List (Addr × Obj)} {σ : L2.St} {H : Hp} {s : Shared} {d : Addr} {o : Obj}
theorem dt_vals {kvs : List (List Key × V)} (h : Rd H d (.dT kvs)) (I : Inv X pins σ H s) :
    (d == sysModules) = false ∧ ∃ (o : Obj) (es : Array DictEntry) (ep : Nat), s.heap.get? d = some o ∧ o.ExactDict ∧ o.data = .dict es ep ∧ es.size = kvs.length ∧
      ∀ (i : Nat) (k : List Key) (v : V), kvs[i]? = some (k, v) → ∃ (en : DictEntry), es[i]? = some en ∧ RelV v en.val := by
  obtain ⟨z, hs, xs, pr, o', es, ep, ho, hx, hdt, he, _⟩ := h.ok I.hok
  refine ⟨hs, o', es, ep, ho, hx, hdt, ?_, fun i k v e => ?_⟩
  · have l1 : es.size = xs.length := size_of_entries he
    have l2 : kvs.length = xs.length := Paired.length pr
    omega
  · obtain ⟨b, hb, e1, e2, e3⟩ := paired_get pr e
    have q := entry_at he i
    rw [hb] at q
    exact ⟨_, q, e3⟩
end
section
variable {P : Program} {w : World} {K : PySem.W.Frag} {tg : Expr} {d : Addr} {o : Obj} {es : Array DictEntry} {ep : Nat}
theorem frz_at {X : Cx} {pins : List (Addr × Obj)} {σ : L2.St} {H : Hp} {s : Shared} {u : HO} (I : Inv X pins σ H s) (h : H d = some (.frz o u)) : s.heap.get? d = some o := (I.hok d _ h).1
theorem turn_valsT {kvs : List (List Key × V)} (it : Addr) (hod : o.data = .dict es ep) : Turn P w K tg (Itdt d o kvs) [it] it (fun i h => h.IsValIter it d i kvs.length ep) where
  mem := by simp
  obj := fun i h st b hb => by
    have e : b = it := by simpa using hb
    subst e
    obtain ⟨oi, e, c, dd⟩ := st
    exact ⟨oi, e, fun v z => by rw [dd] at z; cases z⟩
  keep := fun i h h' st k => st.at fun oi e => k it (by simp) oi e
  item := by
    intro X hP hw hK hc i pins s σ H E I hf st hg
    subst hP hw hK
    obtain ⟨hd, hi⟩ := hg
    obtain ⟨f0, f1, f2, f3, f4, f5⟩ := hf it (by simp)
    obtain ⟨hs, o', es', ep', ho, hx, hdt, hsz, ent⟩ := dt_vals (.inr ⟨_, hd⟩) I
    have eo := frz_at I hd
    rw [eo] at ho
    cases ho
    obtain ⟨rfl, rfl⟩ := dict_ep hod hdt
    obtain ⟨⟨k, v⟩, hkv⟩ : ∃ p, kvs[i]? = some p := ⟨kvs[i], List.getElem?_eq_getElem hi⟩
    obtain ⟨en, hen, rv⟩ := ent i k v hkv
    rw [← hsz] at st
    have hi' : i < es'.size := by omega
    have een : es'[i] = en := by
      rw [Array.getElem?_eq_getElem hi'] at hen
      exact Option.some.inj hen
    refine wpAny_pyNext_values_item_raw st ⟨o, eo, hx, hdt⟩ hi' fun h' st' sb => ?_
    have I1 : Inv X pins σ H { s with heap := h' } := I.turned (t' := s.toks) (fun b ob hb e => (sb.2 b hb).trans e) f0 f1 f3 f4 f5
    obtain ⟨oi, e, c, dd⟩ := id st'
    refine ⟨_, rfl, go_of (s := { s with heap := h' }) e c dd (by decide) ⟨v, H, I1, een ▸ rv, ⟨rfl, k, hkv⟩, ?_, fun b hb => (hf b hb).1⟩⟩
    show h'.IsValIter it d (i + 1) kvs.length _
    rw [← hsz]
    exact st'
  done := by
    intro X hP hw hK hc i pins s σ H E I hf st hg
    subst hP hw hK
    obtain ⟨hd, hi⟩ := hg
    obtain ⟨f0, f1, f2, f3, f4, f5⟩ := hf it (by simp)
    obtain ⟨hs, o', es', ep', ho, hx, hdt, hsz, ent⟩ := dt_vals (.inr ⟨_, hd⟩) I
    have eo := frz_at I hd
    rw [eo] at ho
    cases ho
    obtain ⟨rfl, rfl⟩ := dict_ep hod hdt
    rw [← hsz] at st
    exact wpAny_pyNext_values_end_raw (I.ok.hd hc) st ⟨o, eo, hx, hdt⟩ (by omega) fun h' eb => ⟨rfl, I.turned (t' := s.toks) (fun b ob hb e => eb b ob hb e) f0 f1 f3 f4 f5⟩
  self := fun A i s Q E st h => wpAny_pyIter_valiter st h
end
def iValsT (td : TE) : TI := fun σ H R => td σ H fun x H1 => ∃ d o kvs, x = .ref d ∧ H1 d = some (.frz o (.dT kvs)) ∧ R (Itdt d o kvs) H1
section
variable {X : Cx} {tg e : Expr} {td : TE} {apos cpos : Pos}
theorem pi_valuesT (he : PE X e td) (hbase : attributeBase e "values" X.env (eval e X.env) = eval e X.env := by rfl) (hline : (apos.endLine == cpos.line) = true := by rfl) : PI X tg (.Call (.Attribute e "values" apos) [] [] cpos) (iValsT td) := by
  refine ⟨fun pins s σ H R I h => ?_⟩
  refine wpAny_Call_method (T := "dict") (id := "dict.values") hbase rfl hline F.plainAttrs_dict F.slot_dict_values F.type_dict_values (thn (he.run pins s σ H _ I h) fun u s1 ⟨x, H1, I1, rx, d, o, kvs, ex, hd, q⟩ => ?_)
  subst ex
  obtain rfl : u = Value.ref d := rx
  obtain ⟨hs, o', es, ep, ho, hx, hdt, hsz, ent⟩ := dt_vals (.inr ⟨_, hd⟩) I1
  have eo := frz_at I1 hd
  rw [eo] at ho
  cases ho
  have hm : s1.heap.DictRaw d es ep := ⟨o, eo, hx, hdt⟩
  refine ⟨hm.typeIs, fun b q => ?_, ?_⟩
  · cases q
    exact ⟨o, eo, hx.2.1⟩
  have I2 : Inv X pins σ H1 { s1 with heap := s1.heap.push { cls := .type "dict_values", data := .fields #[.ref d] } } := I1.kept (t' := s1.toks) fun b ob q => Heap.get?_push_of_some _ q
  have fin : wpAny (model X.prog X.w) X.A (pyIter (.ref s1.heap.objs.size)) (PIE X pins σ tg R) X.xe { s1 with heap := s1.heap.push { cls := .type "dict_values", data := .fields #[.ref d] } } := by
    refine wpAny_pyIter_values_raw (d := d) ⟨_, Heap.get?_push_size _ rfl, rfl, rfl⟩ (hm.at fun o e => Heap.get?_push_of_some _ e) (pi_one (tk := s1.toks) I2 _ (turn_valsT _ hdt) ⟨_, Heap.get?_push_size _ rfl, rfl, ?_⟩ q)
    rw [hsz] <;> rfl
  show wpAny _ _ (callWith cpos (.builtin "dict.values") [.ref d] [] []) _ X.xe s1
  exact method_meetsIn F.slot_dict_values F.entry_dict_values rfl (PySem.evalArgs_none ⟨rfl, hm.typeIs, F.args_dict_values_1 _, _, meets_dict_values_raw d hs, ⟨es, ep, hm⟩, fin⟩)
end
theorem walk_valuesT {d : Addr} {o : Obj} {kvs : List (List Key × V)} : Walk (Itdt d o kvs) kvs.length (fun H => H d = some (.frz o (.dT kvs))) (fun i H x H' => H' = H ∧ ∃ k, kvs[i]? = some (k, x)) :=
  ⟨fun _ _ hi q => ⟨q, hi⟩, fun _ q => ⟨q, Nat.le_refl _⟩, fun _ _ _ _ _ _ y => y⟩
/-! ### sum(d.values()) -/
def tSumVals (td : TE) : TE := fun σ H Q => td σ H fun x H1 => ∃ (a : Addr) (kvs : List (List Key × V)) (is : List Int), x = V.ref a ∧ H1 a = some (.dT kvs) ∧ kvs.map (·.2) = is.map V.int ∧ Q (.int is.sum) H1
theorem preSum_is (is : List Int) : ∀ n, n ≤ is.length → preSum (fun i => is.getD i 0) n = (is.take n).sum
  | 0, _ => rfl
  | n + 1, h => by
    have hx : is[n]? = some is[n] := List.getElem?_eq_getElem h
    show preSum (fun i => is.getD i 0) n + is.getD n 0 = _
    rw [preSum_is is n (Nat.le_of_succ_le h), List.take_succ, hx, List.getD_eq_getElem?_getD, hx, List.sum_append]
    simp
section
variable {X : Cx} {o : Expr} {p pos apos mpos : Pos} {td : TE}
theorem pe_sumVals (hc : X.calm = true) (hg : Gl X "sum") (hm : X.mg "sum" = none) (hd : PE X o td) (hbase : attributeBase o "values" X.env (eval o X.env) = eval o X.env := by rfl) (hline : (apos.endLine == mpos.line) = true := by rfl)
    (hse : starEach [Expr.Call (.Attribute o "values" apos) [] [] mpos] X.env = [(false, eval (Expr.Call (.Attribute o "values" apos) [] [] mpos) X.env)] := by rfl) :
    PE X (.Call (.Name "sum" p) [.Call (.Attribute o "values" apos) [] [] mpos] [] pos) (tSumVals td) := by
  refine ⟨fun pins s σ H Q I h => ?_⟩
  refine wpAny_Call_Name_kw (ld_blt I hg hm (u := .builtin "sum") (by first | rfl | decide +kernel) ?_ (by first | decide +kernel | decide) (by first | decide +kernel | decide))
  rw [hse]
  refine PySem.callWith_builtin1 (wpAny_Call_method0_late hbase hline (thn (hd.run pins s σ H _ I h) fun v s1 ⟨x, H1, I1, r1, a, kvs, is, ex, ha, hv, q⟩ => ?_))
  subst ex
  obtain rfl : v = Value.ref a := r1
  obtain ⟨hsys, ob, es, ep, ho, hx, hdt, hsz, ent⟩ := dt_vals (.inl ha) I1
  have hraw : s1.heap.DictRaw a es ep := ⟨ob, ho, hx, hdt⟩
  refine ⟨"dict", "dict.values", F.plainAttrs_dict, F.slot_dict_values, F.type_dict_values, hraw.typeIs, fun b e => ?_, Calls.callWith_builtin rfl (PySem.evalArgs_none ?_)⟩
  · cases e
    exact ⟨ob, ho, hx.2.1⟩
  refine call_meetsIn F.slot_dict_values hraw.typeIs F.entry_dict_values (F.args_dict_values_1 _) (meets_dict_values_raw a hsys) ⟨⟨es, ep, hraw⟩, ?_⟩
  have k1 : ∀ b u, s1.heap.get? b = some u → (s1.heap.push { cls := .type "dict_values", data := .fields #[.ref a] }).get? b = some u := fun b u e => Heap.get?_push_of_some _ e
  have raw1 : (s1.heap.push { cls := .type "dict_values", data := .fields #[.ref a] }).DictRaw a es ep := hraw.at fun o e => k1 a o e
  have hlv : es.size = is.length := by
    have e1 := congrArg List.length hv
    rw [List.length_map, List.length_map] at e1
    omega
  have hval : ∀ (i : Nat) (v : Value), (∃ hi : i < es.size, v = es[i].val) → ∃ t, v = Value.int (is.getD i 0) t := fun i v ⟨hi, ev⟩ => by
    have hi2 : i < kvs.length := by omega
    obtain ⟨en, hen, rv⟩ := ent i kvs[i].1 kvs[i].2 (List.getElem?_eq_getElem hi2)
    rw [Array.getElem?_eq_getElem hi] at hen
    have een := Option.some.inj hen
    have e1 : (kvs.map (·.2))[i]? = some kvs[i].2 := by rw [List.getElem?_map, List.getElem?_eq_getElem hi2] <;> rfl
    rw [hv, List.getElem?_map] at e1
    obtain ⟨j, hj, e2⟩ := Option.map_eq_some_iff.mp e1
    rw [← e2, ← een, ← ev] at rv
    obtain ⟨t, e3⟩ := rv
    refine ⟨t, ?_⟩
    rw [e3, List.getD_eq_getElem?_getD, hj] <;> rfl
  have hlt : a < s1.heap.objs.size := Heap.lt_size ho
  have hsz1 : (s1.heap.push { cls := .type "dict_values", data := .fields #[.ref a] }).objs.size = s1.heap.objs.size + 1 := Heap.size_push _ _
  refine call_sum_walkAnyS (wpAny_pyIter_values_raw (v := s1.heap.objs.size) (d := a) ⟨_, Heap.get?_push_size _ rfl, rfl, rfl⟩ raw1 ?_)
  refine ⟨_, _, _, _, _, _, _, _, rfl, (Walks.rawValues (A := X.A.in1) (I.ok.hd hc) (s1.heap.push { cls := .type "dict_values", data := .fields #[.ref a] }).objs.size a (by rw [hsz1]; exact Nat.ne_of_lt (Nat.lt_succ_of_lt hlt)) es ep).toS,
    ⟨⟨_, Heap.get?_push_size _ rfl, rfl, rfl⟩, raw1.at fun u e => Heap.get?_push_of_some _ e⟩, fun b hb => ?_, hval, fun s' t' hmv => ?_⟩
  · show b < ((s1.heap.push _).push _).objs.size
    rw [Heap.size_push, Heap.size_push]
    rw [hsz1] at hb
    rcases List.mem_cons.mp hb with e | hb
    · rw [e]
      exact Nat.lt_succ_self _
    · have e : b = a := List.mem_singleton.mp hb
      rw [e]
      exact Nat.lt_succ_of_lt (Nat.lt_succ_of_lt hlt)
  · rw [Moved.eq_with hmv]
    have es2 : preSum (fun i => is.getD i 0) es.size = is.sum := by
      rw [hlv, preSum_is is is.length (Nat.le_refl _), List.take_length]
    refine ⟨.int is.sum, H1, I1.kept (t' := s'.toks) fun b u e => hmv.heap b u (fun hmem => ?_) (Heap.get?_push_of_some _ (k1 b u e)), ⟨t', by rw [es2]⟩, q⟩
    have e1 : b = (s1.heap.push { cls := .type "dict_values", data := .fields #[.ref a] }).objs.size := List.mem_singleton.mp hmem
    have e2 := Heap.lt_size e
    rw [hsz1] at e1
    rw [e1] at e2
    exact absurd e2 (Nat.not_lt.mpr (Nat.le_succ _))
end
/-! ### {t: v}, t a tuple -/
def tDispT (tk tv : TE) : TE := fun σ H Q => ∀ p, H p = none → tk σ (upd H p (.dT [])) fun y H1 => tv σ H1 fun v H2 => H2 p = some (.dT []) ∧ ∃ (b : Addr) (k : List Key), y = .ref b ∧ H2 b = some (.tup (k.map kV)) ∧ Q (.ref p) (upd H2 p (.dT [(k, v)]))
theorem pe_dispT {X : Cx} {pos : Pos} {kx vx : Expr} {tk tv : TE} (hu : X.A.units + 1 < cLine) (hk : PE X kx tk) (hv : PE X vx tv) : PE X (.Dict [some kx] [vx] pos) (tDispT tk tv) := by
  refine ⟨fun pins s σ H Q I q => ?_⟩
  have hn := I.hok.fresh (Nat.le_refl s.heap.objs.size)
  have I1 := I.laid (a := s.heap.objs.size) (o := .dT []) (h' := s.heap.push { cls := .type "dict", data := .dict #[] }) (t' := s.toks) (fun _ _ q => Heap.get?_push_of_some _ q) (Nat.le_refl _) (dt_empty s.heap I.big)
  have pps := pps_cons (pos := pos) hk hv (pps_nil (X := X))
  rw [arm_eval_Dict, zip_pairTrees [some kx] [vx] X.env pos rfl rfl, dictDisplay_pairs (pairTrees [some kx] [vx] X.env pos) (List.cons_ne_nil _ _) (by show 1 < 17; decide)]
  refine wpAny_bind (wpAny_standAt (wpAny_bind (wpAny_subDictH (knd := tupleKind (mixKind X.prog X.w)) (Q := fun d s' => wpAny (model X.prog X.w) X.A (pure (Value.ref d)) (EP X pins σ Q) X.xe s') (show X.A.units < cLine from by omega) (by show 1 ≤ 15; decide) ?_)))
  refine thn (pps.run pins _ σ _ (fun ps H2 => match ps with
    | [(y, v)] => H2 s.heap.objs.size = some (.dT []) ∧ ∃ (b : Addr) (k : List Key), y = .ref b ∧ H2 b = some (.tup (k.map kV)) ∧ Q (.ref s.heap.objs.size) (upd H2 s.heap.objs.size (.dT [(k, v)]))
    | _ => False) I1 (q _ hn)) fun ws s2 ⟨ps, H2, I2, rel, q2⟩ => ?_
  obtain ⟨y, v, ep, e, b, k, ey, eb, q3⟩ : ∃ y v, ps = [(y, v)] ∧ H2 s.heap.objs.size = some (.dT []) ∧ ∃ (b : Addr) (k : List Key), y = .ref b ∧ H2 b = some (.tup (k.map kV)) ∧ Q (.ref s.heap.objs.size) (upd H2 s.heap.objs.size (.dT [(k, v)])) := by
    match ps, q2 with
    | [(y, v)], q2 => exact ⟨y, v, rfl, q2⟩
  subst ep ey
  cases rel with
  | cons r rr =>
    cases rr
    obtain ⟨r1, r2⟩ := r
    rename_i wv _
    obtain ⟨wk, wv⟩ := wv
    cases (show wk = Value.ref b from r1)
    obtain ⟨z0, nd, zs, kt, dd⟩ := dt_of I2.hok e
    cases kt
    refine ⟨[(k, b, wv)], ⟨rfl, rfl, key_of I2.hok eb, trivial⟩, dd, fun h' tk' dd' hs => wpAny_pure ⟨.ref s.heap.objs.size, _, ?_, rfl, q3⟩⟩
    obtain ⟨o, es, ep, g1, g2, g3, g4, _, g5⟩ := dd'
    refine d_write I2 (by rw [e]; exact True.intro) hs ⟨o, g1⟩ ⟨by rw [sizeLine_eq]; show 1 ≤ _; decide, nd, [(k, b, wv)], .cons ⟨rfl, ?_, r2⟩ .nil, o, es, ep, g1, g2, g3, g4, g5⟩
    rw [upd_ne (ne_of eb e fun j => nomatch j)]
    exact eb

end M

set_option Elab.async false
set_option linter.all false
set_option maxRecDepth 100000
set_option maxHeartbeats 2000000
namespace M
open PySem PySem.Spec PyProof.Rows L2

/-! ### weights in dicts -/
def stK (k : List Int) : List Key := k.map Sum.inl
def wE (p : List Int × Nat) : List Key × V := (stK p.1, .int ((p.2 : Nat) : Int))
abbrev WK (L : Wt) : List (List Key × V) := L.map wE
theorem stK_inj : ∀ {a b : List Int}, stK a = stK b → a = b
  | [], [], _ => rfl
  | [], _ :: _, h => by cases h
  | _ :: _, [], h => by cases h
  | x :: a, y :: b, h => by
    have h : Sum.inl x :: stK a = (Sum.inl y :: stK b : List Key) := h
    injection h with h1 h2
    injection h1 with h1
    rw [h1, stK_inj h2]
theorem stK_v (k : List Int) : (stK k).map kV = k.map V.int := by
  unfold stK
  rw [List.map_map]
  rfl
theorem wk_val {L : Wt} (n : (L.map (·.1)).Nodup) {p : List Int × Nat} (h : p ∈ L) : valV (WK L) (stK p.1) = some (.int ((p.2 : Nat) : Int)) := by
  induction L with
  | nil => exact nomatch h
  | cons q r ih =>
    rw [List.map_cons, List.nodup_cons] at n
    show valV (wE q :: WK r) _ = _
    rcases List.mem_cons.mp h with rfl | h
    · exact valV_pos rfl
    · rw [valV_neg (fun e => n.1 (by
        have e2 : q.1 = p.1 := stK_inj e
        rw [e2]
        exact List.mem_map.mpr ⟨p, h, rfl⟩))]
      exact ih n.2 h
theorem wk_none {L : Wt} {k : List Int} (h : k ∉ L.map (·.1)) : valV (WK L) (stK k) = none := by
  induction L with
  | nil => rfl
  | cons q r ih =>
    rw [List.map_cons, List.mem_cons] at h
    show valV (wE q :: WK r) _ = _
    rw [valV_neg (fun e => h (.inl (stK_inj e).symm))]
    exact ih fun z => h (.inr z)
theorem wk_get {L : Wt} (n : (L.map (·.1)).Nodup) (k : List Int) : (valV (WK L) (stK k)).getD (.int 0) = .int ((wAt L k : Nat) : Int) := by
  by_cases h : k ∈ L.map (·.1)
  · obtain ⟨p, hp, rfl⟩ := List.mem_map.mp h
    rw [wk_val n hp, wAt_mem n hp]
    rfl
  · rw [wk_none h, wAt_no h]
    rfl
theorem wput_no {L : Wt} {k : List Int} (w : Nat) (h : k ∉ L.map (·.1)) : wPut L k w = L ++ [(k, w)] := by
  induction L with
  | nil => rfl
  | cons q r ih =>
    rw [List.map_cons, List.mem_cons] at h
    unfold wPut
    rw [if_neg (fun e => h (.inl e.symm)), ih fun z => h (.inr z)]
    rfl
theorem wk_same {L : Wt} {k : List Int} {v : V} (h : k ∉ L.map (·.1)) : (WK L).map (fun kv => if kv.1 = stK k then (kv.1, v) else kv) = WK L := by
  induction L with
  | nil => rfl
  | cons q r ih =>
    rw [List.map_cons, List.mem_cons] at h
    show (if stK q.1 = stK k then _ else _) :: _ = _
    rw [if_neg (fun e => h (.inl (stK_inj e).symm)), ih fun z => h (.inr z)]
    rfl
theorem wk_put {L : Wt} (n : (L.map (·.1)).Nodup) (k : List Int) (w : Nat) : putK (WK L) (stK k) (.int ((wAt L k + w : Nat) : Int)) = WK (wPut L k w) := by
  by_cases h : k ∈ L.map (·.1)
  · unfold putK
    rw [valV_any]
    obtain ⟨p, hp, rfl⟩ := List.mem_map.mp h
    rw [wk_val n hp, if_pos (show (some (V.int ((p.2 : Nat) : Int))).isSome = true from rfl)]
    clear h
    induction L with
    | nil => exact nomatch hp
    | cons q r ih =>
      rw [List.map_cons, List.nodup_cons] at n
      unfold wPut wAt
      by_cases e : q.1 = p.1
      · rw [if_pos e, if_pos e]
        show (if stK q.1 = stK p.1 then _ else _) :: List.map _ (WK r) = _
        rw [if_pos (by rw [e]), wk_same (by rw [← e]; exact n.1)]
        rfl
      · rw [if_neg e, if_neg e]
        show (if stK q.1 = stK p.1 then _ else _) :: List.map _ (WK r) = _
        rw [if_neg (fun z => e (stK_inj z))]
        rcases List.mem_cons.mp hp with rfl | hp
        · exact absurd rfl e
        · rw [ih n.2 hp]
          rfl
  · rw [putK_new _ (wk_none h), wput_no w h, wAt_no h, Nat.zero_add]
    show _ = (L ++ [(k, w)]).map wE
    rw [List.map_append]
    rfl
theorem wk_len (L : Wt) : (WK L).length = L.length := List.length_map ..
/-- small enough -/
def Few (L : Wt) : Prop := L.length ≤ 531441 ∧ tot L < 2 ^ 200
theorem le_tot {L : Wt} {p : List Int × Nat} (h : p ∈ L) : p.2 ≤ tot L := by
  induction L with
  | nil => exact nomatch h
  | cons q r ih =>
    show p.2 ≤ q.2 + tot r
    rcases List.mem_cons.mp h with rfl | h
    · omega
    · have := ih h
      omega
theorem div_w {i : Int} {n : Nat} (h : 0 < n) (l : n < 2 ^ 200) : CDivW i ((n : Nat) : Int) := wide_div (b := 200) (by omega) (by rw [Int.natAbs_natCast]; exact l) (by decide) (by decide)
theorem gcdf_snoc (L : Wt) (p : List Int × Nat) : gcdW (L ++ [p]) = Nat.gcd (gcdW L) p.2 := List.foldl_append
section
variable {P : Program} {w : World} {K : PySem.W.Frag} {mg : Str → Option Value} {base : Heap}
def spLowest (K : PySem.W.Frag) : Sp := fun vs H Q _ => ∃ (p : Addr) (L : Wt), vs = [.ref p] ∧ H p = some (.dT (WK L)) ∧ (L.map (·.1)).Nodup ∧ 0 < gcdW L ∧ Few L ∧ ∀ d H', Same H H' → H d = none → H' d = some (.dT (WK (red L))) → Q (.ref d) H'
theorem ca_lowest (T : Txt w K mg) : Ca P w K mg base 1 "lowest" (spLowest K) := by
  refine ca_of (N := ["weights", "common", "weight", "state"]) (ps := ["weights"]) T.f_lowest T.g_lowest ⟨rfl, rfl, rfl, by decide +kernel, rfl, by decide +kernel, by decide +kernel⟩ (fun _ _ _ _ _ _ us hl => match us, hl with | [_], _ => rfl)
    (fun vs H Q E h => by obtain ⟨p, L, rfl, hp, nd0, hg, fw, q⟩ := h; rfl) (fun cdv A outer s H vs Q E hr h => ?_)
  have nd : (["weights", "common", "weight", "state"] : List Str).Nodup := by decide +kernel
  obtain ⟨p, L, rfl, hp, nd0, hg, fw, q⟩ := h
  refine ⟨_, (pss_cons (ps_set (i := 1) nd rfl (.inr rfl) pe_int)
      (pss_cons (ps_lock (ps_for PassesOwn.never rfl (pi_valuesT (pv 0)) (pg_name (i := 2) nd rfl (.inl rfl)) (pss_one (ps_set (i := 1) nd rfl (.inr rfl) (pe_callBfun cr_gcd (by rfl) T.blt_gcd (pa_cons (pv 1) (pa_cons (pv 2) pa_nil)))))))
      (pss_one (ps_ret (pe_lock (pe_dcT (own := [("state", 3)]) (hu_of hr) rfl nd (pi_keys (pv 0)) (blkOk_by (N := ["weights", "common", "weight", "state"]) (sc := defScope s_lowest) (by decide +kernel)) (fun _ _ _ _ _ => pg_name (i := 3) nd rfl (.inl rfl)) (fun _ _ _ _ _ => pv 3) (fun _ _ _ _ _ => pe_op op_fdivW (pe_dget (hu_of hr) (pv 0) (pv 3) (fun _ _ => rfl)) (pv 1)))))))), ?_⟩
  have gl : gcdW L < 2 ^ 200 := by
    cases L with
    | nil => exact absurd hg (Nat.lt_irrefl 0)
    | cons x r =>
      by_cases hx : x.2 = 0
      · refine Nat.lt_of_le_of_lt ?_ fw.2
        apply Classical.byContradiction
        intro c
        have z : ∀ y ∈ x :: r, y.2 = 0 := fun y hy => by
          have d1 := gcd_dvd hy
          have d2 := le_tot hy
          rcases Nat.eq_zero_or_pos y.2 with e | e
          · exact e
          · have := Nat.le_of_dvd e d1
            omega
        have z2 : ∀ (M : Wt) (a : Nat), (∀ y ∈ M, y.2 = 0) → M.foldl (fun a p => Nat.gcd a p.2) a = a := by
          intro M
          induction M with
          | nil => intro a _; rfl
          | cons y M ih =>
            intro a hM
            show M.foldl (fun a p => Nat.gcd a p.2) (Nat.gcd a y.2) = a
            rw [hM y List.mem_cons_self, Nat.gcd_zero_right]
            exact ih a fun y hy => hM y (List.mem_cons_of_mem _ hy)
        have := z2 _ 0 z
        unfold gcdW at hg
        omega
      · have d := gcd_dvd (List.mem_cons_self (a := x) (l := r))
        have := Nat.le_of_dvd (Nat.pos_of_ne_zero hx) d
        have := le_tot (List.mem_cons_self (a := x) (l := r))
        have := fw.2
        omega
  refine ⟨p, _, hp, True.intro, fun od => ?_⟩
  have l1 := wk_len L
  have back : upd (upd H p (.frz od (.dT (WK L)))) p (.dT (WK L)) = H := by rw [upd_upd, upd_id hp]
  refine ⟨_, rfl, p, od, WK L, rfl, upd_same, for_it (n := (WK L).length) walk_valuesT (fun i σ' H' => ∃ x, σ' = [some (.ref p), some (.int ((gcdW (L.take i) : Nat) : Int)), x, none] ∧ H' = upd H p (.frz od (.dT (WK L)))) ⟨none, rfl, rfl⟩ (fun i σ' H' _ ⟨_, _, e⟩ => by rw [e, upd_same]) ?_ ?_⟩
  · rintro i x σ' H' H2 hi ⟨_, rfl, rfl⟩ ⟨rfl, k, hk⟩
    rw [List.getElem?_map] at hk
    obtain ⟨y, hy, ey⟩ := Option.map_eq_some_iff.mp hk
    have ev : x = V.int ((y.2 : Nat) : Int) := (congrArg Prod.snd ey).symm
    subst ev
    refine ⟨_, rfl, _, rfl, _, _, rfl, some (.int ((y.2 : Nat) : Int)), ?_, rfl⟩
    have e2 : L.take (i + 1) = L.take i ++ [y] := take_more hy
    rw [e2, gcdf_snoc]
    rfl
  · rintro σ' H' ⟨x, rfl, rfl⟩
    rw [l1, List.take_length]
    refine ⟨upd_same, ?_⟩
    dsimp only
    rw [back]
    refine ⟨p, _, hp, True.intro, fun od => ?_⟩
    have back : ∀ {G : Hp}, (∀ b o, H b = some o → b ≠ p → G b = some o) → Same H (upd G p (.dT (WK L))) := fun h b o e => by
      by_cases c : b = p
      · subst c
        rw [upd_same, ← hp, e]
      · rw [upd_ne c]
        exact h b o e c
    refine ⟨_, rfl, p, od, rfl, .inr ⟨WK L, upd_same, fun D hD => ?_⟩⟩
    have hDp : D ≠ p := fun e => by rw [e, upd_same] at hD; cases hD
    have nD : H D = none := by rw [upd_ne hDp] at hD; exact hD
    refine it_any (n := (WK L).length) walk_keysT (fun i H' => (∀ b o, H b = some o → b ≠ p → H' b = some o) ∧ H' p = some (.frz od (.dT (WK L))) ∧ H' D = some (.dT ((L.take i).map fun x => wE (x.1, x.2 / gcdW L)))) ⟨fun b o e c => by rw [upd_ne (ne_of_none e nD), upd_ne c]; exact e, by rw [upd_ne (Ne.symm hDp), upd_same], by rw [upd_same]; rfl⟩ (fun i H' _ ⟨_, e, _⟩ => e) ?_ ?_
    · rintro i x H' H2 hi ⟨sm, e1, e2⟩ ⟨rfl, k, v, qa, hk, rfl, hq⟩
      rw [List.getElem?_map] at hk
      obtain ⟨y, hy, ey⟩ := Option.map_eq_some_iff.mp hk
      have ek : k = stK y.1 := (congrArg Prod.fst ey).symm
      subst ek
      have hy' : y ∈ L := List.mem_of_getElem? hy
      refine ⟨rfl, _, rfl, _, rfl, _, rfl, p, _, rfl, .inr ⟨_, _, qa, .inr ⟨_, e1⟩, rfl, hq, (wk_val nd0 hy').symm⟩, _, rfl, _, _, rfl, rfl, div_w hg gl, _, stK y.1, qa, rfl, hq, e2, by rw [List.length_map, List.length_take, sizeLine_eq]; have := fw.1; omega, ⟨fun b o e c => ?_, ?_, ?_⟩⟩
      · rw [upd_ne (ne_of_none e nD)]
        exact sm b o e c
      · rw [upd_ne (Ne.symm hDp)]
        exact e1
      · rw [upd_same, take_more hy, List.map_append]
        have em : ((L.take i).map fun x => wE (x.1, x.2 / gcdW L)) = WK ((L.take i).map fun x => (x.1, x.2 / gcdW L)) := by
          show _ = List.map wE (List.map _ _)
          rw [List.map_map]
          rfl
        rw [em, putK_new]
        · rfl
        · refine wk_none fun h => ?_
          rw [List.map_map] at h
          obtain ⟨z, hz, ez⟩ := List.mem_map.mp h
          have ez : z.1 = y.1 := ez
          have n2 := nd0
          rw [← List.take_append_drop i L, List.map_append] at n2
          have n3 := (List.nodup_append.mp n2).2.2
          have hd : y ∈ L.drop i := List.mem_of_getElem? (i := 0) (by rw [List.getElem?_drop]; exact hy)
          exact n3 _ (List.mem_map.mpr ⟨z, hz, rfl⟩) _ (List.mem_map.mpr ⟨y, hd, rfl⟩) ez
    · rintro H' ⟨sm, e1, e2⟩
      rw [l1, List.take_length] at e2
      refine ⟨e1, q D _ (back sm) nD ?_⟩
      rw [upd_ne hDp, e2]
      show _ = some (HO.dT (List.map wE (List.map _ L)))
      rw [List.map_map]
      rfl
end

end M

set_option Elab.async false
set_option linter.all false
set_option maxRecDepth 100000
set_option maxHeartbeats 2000000
namespace M
open PySem PySem.Spec PyProof.Rows L2

/-! ### the weights behind a call; the share of weights -/
theorem parts_at {fs : List Int} (h : fs.length ≤ 4) : atI ([.int 16, .int 8, .int 4, .int 2, .int 1] : List V) ((fs.length : Nat) : Int) = some (.int ((chn fs : Nat) : Int)) := by
  unfold chn
  have : fs.length = 0 ∨ fs.length = 1 ∨ fs.length = 2 ∨ fs.length = 3 ∨ fs.length = 4 := by omega
  rcases this with e | e | e | e | e <;> rw [e] <;> rfl
theorem chn_le (fs : List Int) : chn fs ≤ 16 := by
  unfold chn
  have : 4 - fs.length = 0 ∨ 4 - fs.length = 1 ∨ 4 - fs.length = 2 ∨ 4 - fs.length = 3 ∨ 4 - fs.length = 4 := by omega
  rcases this with e | e | e | e | e <;> rw [e] <;> decide
theorem ctr_app (W : WyF) (L M : Wt) : ctr W (L ++ M) = ctr W L ++ ctr W M := List.flatMap_append
theorem take_nd {α : Type} {l : List α} {i : Nat} {y : α} (n : l.Nodup) (h : l[i]? = some y) : y ∉ l.take i := by
  intro m
  rw [← List.take_append_drop i l] at n
  have hd : y ∈ l.drop i := List.mem_of_getElem? (i := 0) (by rw [List.getElem?_drop]; exact h)
  exact (List.nodup_append.mp n).2.2 _ m _ hd rfl
theorem wk_at {L : Wt} {i : Nat} {k : List Key} {v : V} (h : (WK L)[i]? = some (k, v)) : ∃ y, L[i]? = some y ∧ k = stK y.1 ∧ v = .int ((y.2 : Nat) : Int) := by
  rw [List.getElem?_map] at h
  obtain ⟨y, hy, ey⟩ := Option.map_eq_some_iff.mp h
  exact ⟨y, hy, (congrArg Prod.fst ey).symm, (congrArg Prod.snd ey).symm⟩
/-- a dict of shares: the fractions are tuples -/
def ShAt (H : Hp) : List (List Key × V) → List (List Int × Nat × Nat) → Prop
  | [], [] => True
  | p :: r, q :: s => p.1 = stK q.1 ∧ (∃ b, p.2 = .ref b ∧ H b = some (.tup [.int ((q.2.1 : Nat) : Int), .int ((q.2.2 : Nat) : Int)])) ∧ ShAt H r s
  | _, _ => False
theorem ShAt.imp {H H' : Hp} (hu : ∀ a xs, H a = some (.tup xs) → H' a = some (.tup xs)) : ∀ {kvs : List (List Key × V)} {sh : List (List Int × Nat × Nat)}, ShAt H kvs sh → ShAt H' kvs sh
  | [], [], _ => trivial
  | _ :: _, _ :: _, ⟨e, ⟨b, e1, e2⟩, r⟩ => ⟨e, ⟨b, e1, hu _ _ e2⟩, r.imp hu⟩
  | [], _ :: _, h => h.elim
  | _ :: _, [], h => h.elim
theorem ShAt.same {H H' : Hp} (s : Same H H') {kvs : List (List Key × V)} {sh : List (List Int × Nat × Nat)} (h : ShAt H kvs sh) : ShAt H' kvs sh := h.imp fun _ _ => s _ _
theorem ShAt.len {H : Hp} : ∀ {kvs : List (List Key × V)} {sh : List (List Int × Nat × Nat)}, ShAt H kvs sh → kvs.length = sh.length
  | [], [], _ => rfl
  | _ :: _, _ :: _, ⟨_, _, r⟩ => congrArg (· + 1) r.len
  | [], _ :: _, h => h.elim
  | _ :: _, [], h => h.elim
theorem ShAt.snoc {H : Hp} {k : List Int} {a b : Nat} {p : Addr} (hp : H p = some (.tup [.int ((a : Nat) : Int), .int ((b : Nat) : Int)])) : ∀ {kvs : List (List Key × V)} {sh : List (List Int × Nat × Nat)}, ShAt H kvs sh → ShAt H (kvs ++ [(stK k, .ref p)]) (sh ++ [(k, a, b)])
  | [], [], _ => ⟨rfl, ⟨p, rfl, hp⟩, trivial⟩
  | _ :: _, _ :: _, ⟨e, e1, r⟩ => ⟨e, e1, r.snoc hp⟩
  | [], _ :: _, h => h.elim
  | _ :: _, [], h => h.elim
theorem ShAt.none {H : Hp} {k : List Int} : ∀ {kvs : List (List Key × V)} {sh : List (List Int × Nat × Nat)}, ShAt H kvs sh → k ∉ sh.map (·.1) → valV kvs (stK k) = none
  | [], [], _, _ => rfl
  | p :: _, q :: _, ⟨e, _, r⟩, n => by
    rw [List.map_cons, List.mem_cons] at n
    rw [valV_neg (fun z => n (.inl (stK_inj (e.symm.trans z)).symm))]
    exact r.none fun z => n (.inr z)
  | [], _ :: _, h, _ => h.elim
  | _ :: _, [], h, _ => h.elim
theorem ShAt.val {H : Hp} : ∀ {kvs : List (List Key × V)} {sh : List (List Int × Nat × Nat)}, ShAt H kvs sh → (sh.map (·.1)).Nodup → ∀ {q : List Int × Nat × Nat}, q ∈ sh → ∃ b, valV kvs (stK q.1) = some (.ref b) ∧ H b = some (.tup [.int ((q.2.1 : Nat) : Int), .int ((q.2.2 : Nat) : Int)])
  | p :: _, q :: s, ⟨e, ⟨b, e1, e2⟩, r⟩, n, y, hy => by
    rw [List.map_cons, List.nodup_cons] at n
    rcases List.mem_cons.mp hy with rfl | hy
    · exact ⟨b, by rw [valV_pos e, e1], e2⟩
    · obtain ⟨c, h1, h2⟩ := r.val n.2 hy
      refine ⟨c, ?_, h2⟩
      rw [valV_neg (fun z => n.1 (by
        have : q.1 = y.1 := stK_inj (e.symm.trans z)
        rw [this]
        exact List.mem_map.mpr ⟨y, hy, rfl⟩))]
      exact h1
  | [], [], _, _, _, hy => nomatch hy
  | [], _ :: _, h, _, _, _ => h.elim
  | _ :: _, [], h, _, _, _ => h.elim
theorem ShAt.at {H : Hp} : ∀ {kvs : List (List Key × V)} {sh : List (List Int × Nat × Nat)} {i : Nat} {k : List Key} {v : V}, ShAt H kvs sh → kvs[i]? = some (k, v) → ∃ q, sh[i]? = some q ∧ k = stK q.1 ∧ ∃ b, v = .ref b ∧ H b = some (.tup [.int ((q.2.1 : Nat) : Int), .int ((q.2.2 : Nat) : Int)])
  | p :: _, q :: _, 0, _, _, ⟨e, e1, _⟩, h => by
    cases (Option.some.inj h)
    exact ⟨q, rfl, e, e1⟩
  | _ :: _, _ :: _, i + 1, _, _, ⟨_, _, r⟩, h => r.at (i := i) h
  | [], [], _, _, _, _, h => by simp at h
  | [], _ :: _, _, _, _, h, _ => h.elim
  | _ :: _, [], _, _, _, h, _ => h.elim
theorem int_sum {L : Wt} : (L.map fun p => ((p.2 : Nat) : Int)).sum = ((tot L : Nat) : Int) := by
  induction L with
  | nil => rfl
  | cons p r ih =>
    show ((p.2 : Nat) : Int) + (r.map fun p => ((p.2 : Nat) : Int)).sum = ((p.2 + tot r : Nat) : Int)
    rw [ih]
    omega
section
variable {P : Program} {w : World} {K : PySem.W.Frag} {mg : Str → Option Value} {base : Heap}
/-- the outcomes of the states -/
def WyD (K : PySem.W.Frag) (H : Hp) (kws : List (List Key × V)) (W : WyF) (L : Wt) : Prop := ∀ p ∈ L, ∃ (z : Addr) (ys : List V), valV kws (stK p.1) = some (.ref z) ∧ SqL K H z ys ∧ WysAt K H ys (W p.1)
def spMoved (K : PySem.W.Frag) : Sp := fun vs H Q _ => ∃ (p y : Addr) (L : Wt) (kws : List (List Key × V)) (W : WyF) (S : List Int → Prop), vs = [.ref p, .ref y] ∧ H p = some (.dT (WK L)) ∧ H y = some (.dT kws) ∧ p ≠ y ∧ WyD K H kws W L ∧ WOk S L ∧ WyOk S W ∧ L ≠ [] ∧ tot L < 2 ^ 190 ∧ (∀ M : Wt, WOk S M → M.length ≤ 531441) ∧
  ∀ d H', Same H H' → H d = none → H' d = some (.dT (WK (red (stepW W L)))) → Q (.ref d) H'
theorem ca_moved (T : Txt w K mg) : Ca P w K mg base 2 "moved" (spMoved K) := by
  refine ca_of (N := ["weights", "ways", "behind", "state", "coins", "_", "after"]) (ps := ["weights", "ways"]) T.f_moved T.g_moved ⟨rfl, rfl, rfl, by decide +kernel, rfl, by decide +kernel, by decide +kernel⟩ (fun _ _ _ _ _ _ us hl => match us, hl with | [_, _], _ => rfl)
    (fun vs H Q E h => by obtain ⟨p, y, L, kws, W, S, rfl, hp, hy, npy, hd, ok, wy, ne, tl, len, q⟩ := h; rfl) (fun cdv A outer s H vs Q E hr h => ?_)
  have nd : (["weights", "ways", "behind", "state", "coins", "_", "after"] : List Str).Nodup := by decide +kernel
  obtain ⟨p, y, L, kws, W, S, rfl, hp, hy, npy, hd, ok, wy, ne, tl, len, q⟩ := h
  refine ⟨_, (pss_cons (ps_set (i := 2) nd rfl (.inl rfl) (pe_dnewT))
      (pss_cons (ps_lock (ps_for PassesOwn.never rfl (pi_keys (pv 0)) (pg_name (i := 3) nd rfl (.inl rfl)) (pss_one (ps_for PassesOwn.never rfl (pi_list (pe_dget (hu_of hr) (pv 1) (pv 3) (fun _ _ => rfl))) (pg_three K 4 5 6 rfl rfl nd rfl rfl rfl (.inl rfl) (.inl rfl) (.inl rfl) (.inr rfl) (.inr rfl) (.inr rfl)) (pss_one (ps_dput (hu_of hr) (pv 2) (pv 6) (pe_op op_add (pe_dget2 (hu_of hr) (pv 2) (pv 6) pe_int ⟨rfl, rfl, rfl, rfl⟩) (pe_op op_mul (pe_dget (hu_of hr) (pv 0) (pv 3) (fun _ _ => rfl)) (pe_ix ix_tup (pe_gr T.g_PARTS) (pe_callB call_len_seq (by rfl) T.b_len PySem.boot_len (pa_cons (pv 4) pa_nil)) (fun _ _ => rfl)))) rfl))))))
      (pss_one (ps_ret (pe_ca (ca_lowest T) hr (pa_cons (pv 2) pa_nil)))))), ?_⟩
  intro D nD
  have s1 : Same H (upd H D (.dT [])) := same_new nD
  have eD : upd H D (.dT []) D = some (.dT (WK (wAll [] []))) := upd_same
  have nDp : D ≠ p := Ne.symm (ne_of_none hp nD)
  generalize upd H D (.dT []) = H1 at s1 eD ⊢
  refine ⟨p, _, s1 _ _ hp, True.intro, fun od => ?_⟩
  have l1 := wk_len L
  -- what stays but at p and D
  have bk : ∀ {G : Hp}, (∀ b o, H b = some o → b ≠ p → G b = some o) → Same H (upd G p (.dT (WK L))) := fun h b o e => by
    by_cases c : b = p
    · subst c
      rw [upd_same, ← hp, e]
    · rw [upd_ne c]
      exact h b o e c
  have tT : ∀ {G : Hp}, (∀ b o, H b = some o → b ≠ p → G b = some o) → ∀ a xs, H a = some (.tup xs) → G a = some (.tup xs) := fun h a xs e => h _ _ e (fun z => by rw [z, hp] at e; cases e)
  have sT : ∀ {G : Hp}, (∀ b o, H b = some o → b ≠ p → G b = some o) → ∀ a xs, SqT K H a xs → SqT K G a xs := fun h a xs e => by
    rcases e with (e | ⟨o, e⟩) | e
    · exact .inl (.inl (tT h _ _ e))
    · exact .inl (.inr ⟨o, h _ _ e (fun z => by rw [z, hp] at e; cases e)⟩)
    · exact .inr e
  have sL : ∀ {G : Hp}, (∀ b o, H b = some o → b ≠ p → G b = some o) → ∀ a xs, SqL K H a xs → SqL K G a xs := fun h a xs e => by
    rcases e with (e | ⟨o, e⟩) | e
    · exact .inl (.inl (h _ _ e (fun z => by rw [z, hp] at e; cases e)))
    · exact .inl (.inr ⟨o, h _ _ e (fun z => by rw [z, hp] at e; cases e)⟩)
    · exact .inr e
  refine ⟨_, rfl, p, od, rfl, .inr ⟨WK L, upd_same, for_it (n := (WK L).length) walk_keysT (fun i σ' H' => ∃ x3 x4 x5 x6, σ' = [some (.ref p), some (.ref y), some (.ref D), x3, x4, x5, x6] ∧ (∀ b o, H b = some o → b ≠ p → H' b = some o) ∧ H' p = some (.frz od (.dT (WK L))) ∧ H' D = some (.dT (WK (wAll [] (ctr W (L.take i)))))) ⟨none, none, none, none, rfl, fun b o e c => by rw [upd_ne c]; exact s1 _ _ e, upd_same, by rw [upd_ne nDp]; exact eD⟩ (fun i σ' H' _ ⟨_, _, _, _, _, _, e, _⟩ => e) ?_ ?_⟩⟩
  · rintro i x σ' H' H2 hi ⟨x3, x4, x5, x6, rfl, sm, e1, e2⟩ ⟨rfl, k, v, qa, hk, rfl, hq⟩
    obtain ⟨u, hu, rfl, rfl⟩ := wk_at hk
    have hum : u ∈ L := List.mem_of_getElem? hu
    obtain ⟨z, ys, hz, hzl, hzw⟩ := hd u hum
    have hkeys : ∀ s ∈ (L.take i).map (·.1), S s := fun s hs => by
      obtain ⟨t, ht, rfl⟩ := List.mem_map.mp hs
      exact ok.st t (List.mem_of_mem_take ht)
    have okt : WOk S (L.take i) := ⟨by rw [List.map_take]; exact ok.nd.sublist (List.take_sublist ..), fun t ht => ok.po t (List.mem_of_mem_take ht), fun t ht => ok.st t (List.mem_of_mem_take ht)⟩
    have oki : WOk S (wAll [] (ctr W (L.take i))) := WOk.nil.all (ctr_ok okt wy)
    have Su := ok.st u hum
    have pu := ok.po u hum
    refine ⟨_, rfl, _, rfl, y, .ref z, rfl, .inr ⟨_, _, qa, .inl (sm _ _ hy (Ne.symm npy)), rfl, hq, hz.symm⟩, z, rfl, ⟨_, sL sm _ _ hzl⟩, for_list (xs := ys) (fun j σ' H' => ∃ x4 x5 x6, σ' = [some (.ref p), some (.ref y), some (.ref D), some (.ref qa), x4, x5, x6] ∧ (∀ b o, H b = some o → b ≠ p → H' b = some o) ∧ H' p = some (.frz od (.dT (WK L))) ∧ H' qa = some (.tup ((stK u.1).map kV)) ∧ H' D = some (.dT (WK (wAll (wAll [] (ctr W (L.take i))) (((W u.1).take j).map fun w => (w.2.2, u.2 * chn w.1)))))) ⟨x4, x5, x6, rfl, sm, e1, hq, e2⟩ (fun j σ' H' _ ⟨_, _, _, _, s, _⟩ => sL s _ _ hzl) ?_ ?_⟩
    · rintro j v σ' H' hv ⟨x4, x5, x6, rfl, sm, e1, hq, e2⟩
      obtain ⟨wy1, hwy, ta, c, s, rfl, h1, h2, h3⟩ := wys_at hzw hv
      have hwm : wy1 ∈ W u.1 := List.mem_of_getElem? hwy
      have h1' := sT sm _ _ h1
      have h2' := sT sm _ _ h2
      have h3' := tT sm _ _ h3
      have l4 := wy.l4 _ Su _ hwm
      have okj : WOk S (wAll (wAll [] (ctr W (L.take i))) (((W u.1).take j).map fun w => (w.2.2, u.2 * chn w.1))) := oki.all fun t ht => by
        obtain ⟨w0, hw0, rfl⟩ := List.mem_map.mp ht
        exact ⟨wy.st _ Su _ (List.mem_of_mem_take hw0), Nat.mul_pos pu (chn_pos _)⟩
      refine ⟨ta, _, rfl, h1', rfl, _, _, rfl, _, _, rfl, _, _, rfl, ?_⟩
      refine ⟨rfl, _, rfl, D, rfl, .inr ⟨_, .inl e2⟩, _, rfl, _, .inr ⟨_, stK wy1.2.2, s, .inl e2, rfl, by rw [stK_v]; exact h3', rfl⟩, ?_⟩
      refine ⟨_, rfl, _, rfl, p, _, rfl, .inr ⟨_, _, qa, .inr ⟨_, e1⟩, rfl, hq, (wk_val ok.nd hum).symm⟩, ?_⟩
      have lM := len _ okj
      refine ⟨_, rfl, c, _, rfl, .inr h2', _, _, _, _, rfl, rfl, He.tupB_ok T.e_PARTS H', by rw [List.length_map]; exact parts_at l4, _, _, rfl, rfl, .inr ⟨by have := chn_pos wy1.1; omega, by have := chn_le wy1.1; omega⟩, _, _, wk_get okj.nd _, rfl, _, rfl, _, rfl, D, _, rfl, .inr ⟨_, stK wy1.2.2, s, e2, rfl, by rw [stK_v]; exact h3', by rw [wk_len, sizeLine_eq]; omega, rfl⟩, _, _, _, rfl, fun b o e cc => by rw [upd_ne (ne_of_none e nD)]; exact sm _ _ e cc, by rw [upd_ne (Ne.symm nDp)]; exact e1, by rw [upd_ne (ne_of hq e2 fun j => nomatch j)]; exact hq, ?_⟩
      rw [upd_same, take_more hwy, List.map_append]
      show _ = some (HO.dT (WK (wAll _ (_ ++ [(wy1.2.2, u.2 * chn wy1.1)]))))
      rw [wAll_snoc, ← wk_put okj.nd]
      rfl
    · rintro σ' H' ⟨x4, x5, x6, rfl, sm, e1, hq, e2⟩
      refine ⟨_, _, _, _, rfl, sm, e1, ?_⟩
      rw [e2, wys_len hzw, List.take_length, take_more hu, ctr_app, wAll_app]
      show _ = some (HO.dT (WK (wAll _ (((W u.1).map fun w => (w.2.2, u.2 * chn w.1)) ++ []))))
      rw [List.append_nil]
  · rintro σ' H' ⟨x3, x4, x5, x6, rfl, sm, e1, e2⟩
    rw [l1, List.take_length] at e2
    have oks := ok.step wy
    have nes : stepW W L ≠ [] := row_ne (Ws := [W]) ok (fun V hV => by rw [List.mem_singleton.mp hV]; exact wy) ne
    have ts := tot_step ok wy
    have sG := bk sm
    refine ⟨e1, _, rfl, D, stepW W L, rfl, by rw [upd_ne nDp]; exact e2, oks.nd, gcd_pos oks nes, ⟨len _ oks, by omega⟩, fun d H2 s2 nd2 e3 => q d H2 (sG.trans s2) (none_of sG nd2) e3⟩
def spChances (K : PySem.W.Frag) : Sp := fun vs H Q _ => ∃ (p : Addr) (L : Wt) (S : List Int → Prop), vs = [.ref p] ∧ H p = some (.dT (WK L)) ∧ WOk S L ∧ L ≠ [] ∧ Few L ∧
  ∀ (d : Addr) (kvs : List (List Key × V)) (H' : Hp), Same H H' → H d = none → H' d = some (.dT kvs) → ShAt H' kvs (shr L) → Q (.ref d) H'
theorem ca_chances (T : Txt w K mg) : Ca P w K mg base 1 "chances" (spChances K) := by
  refine ca_of (N := ["weights", "total", "share", "state", "common"]) (ps := ["weights"]) T.f_chances T.g_chances ⟨rfl, rfl, rfl, by decide +kernel, rfl, by decide +kernel, by decide +kernel⟩ (fun _ _ _ _ _ _ us hl => match us, hl with | [_], _ => rfl)
    (fun vs H Q E h => by obtain ⟨p, L, S, rfl, hp, ok, ne, fw, q⟩ := h; rfl) (fun cdv A outer s H vs Q E hr h => ?_)
  have nd : (["weights", "total", "share", "state", "common"] : List Str).Nodup := by decide +kernel
  obtain ⟨p, L, S, rfl, hp, ok, ne, fw, q⟩ := h
  refine ⟨_, (pss_cons (ps_set (i := 1) nd rfl (.inl rfl) (pe_sumVals rfl (by rfl) T.b_sum (pv 0)))
      (pss_cons (ps_set (i := 2) nd rfl (.inl rfl) (pe_dnewT))
      (pss_cons (ps_lock (ps_for PassesOwn.never rfl (pi_keys (pv 0)) (pg_name (i := 3) nd rfl (.inl rfl)) (pss_cons (ps_set (i := 4) nd rfl (.inl rfl) (pe_callBfun cr_gcd (by rfl) T.blt_gcd (pa_cons (pe_dget (hu_of hr) (pv 0) (pv 3) (fun _ _ => rfl)) (pa_cons (pv 1) pa_nil))))
      (pss_one (ps_dput (hu_of hr) (pv 2) (pv 3) (pe_tup (pa_cons (pe_op op_fdivW (pe_dget (hu_of hr) (pv 0) (pv 3) (fun _ _ => rfl)) (pv 4)) (pa_cons (pe_op op_fdivW (pv 1) (pv 4)) pa_nil))) rfl)))))
      (pss_one (ps_ret (pv 2)))))), ?_⟩
  refine ⟨_, rfl, p, WK L, L.map (fun p => ((p.2 : Nat) : Int)), rfl, hp, by rw [List.map_map, List.map_map]; rfl, ?_⟩
  rw [int_sum]
  intro D nD
  have s1 : Same H (upd H D (.dT [])) := same_new nD
  have eD : upd H D (.dT []) D = some (.dT []) := upd_same
  have nDp : D ≠ p := Ne.symm (ne_of_none hp nD)
  generalize upd H D (.dT []) = H1 at s1 eD ⊢
  refine ⟨p, _, s1 _ _ hp, True.intro, fun od => ?_⟩
  have l1 := wk_len L
  have bk : ∀ {G : Hp}, (∀ b o, H b = some o → b ≠ p → G b = some o) → Same H (upd G p (.dT (WK L))) := fun h b o e => by
    by_cases c : b = p
    · subst c
      rw [upd_same, ← hp, e]
    · rw [upd_ne c]
      exact h b o e c
  have tp : 0 < tot L := by
    cases L with
    | nil => exact absurd rfl ne
    | cons x r => have := ok.po x List.mem_cons_self; show 0 < x.2 + tot r; omega
  refine ⟨_, rfl, p, od, rfl, .inr ⟨WK L, upd_same, for_it (n := (WK L).length) walk_keysT (fun i σ' H' => ∃ x3 x4 kvs, σ' = [some (.ref p), some (.int ((tot L : Nat) : Int)), some (.ref D), x3, x4] ∧ (∀ b o, H b = some o → b ≠ p → H' b = some o) ∧ H' p = some (.frz od (.dT (WK L))) ∧ H' D = some (.dT kvs) ∧ ShAt H' kvs ((L.take i).map fun p => (p.1, fr p.2 (tot L)))) ⟨none, none, [], rfl, fun b o e c => by rw [upd_ne c]; exact s1 _ _ e, upd_same, by rw [upd_ne nDp]; exact eD, trivial⟩ (fun i σ' H' _ ⟨_, _, _, _, _, e, _⟩ => e) ?_ ?_⟩⟩
  · rintro i x σ' H' H2 hi ⟨x3, x4, kvs, rfl, sm, e1, e2, sh⟩ ⟨rfl, k, v, qa, hk, rfl, hq⟩
    obtain ⟨u, hu, rfl, rfl⟩ := wk_at hk
    have hum : u ∈ L := List.mem_of_getElem? hu
    have hget : DGet H2 p (.ref qa) (some (V.int ((u.2 : Nat) : Int))) := .inr ⟨_, _, qa, .inr ⟨_, e1⟩, rfl, hq, (wk_val ok.nd hum).symm⟩
    have gp : 0 < Nat.gcd u.2 (tot L) := Nat.gcd_pos_of_pos_right _ tp
    have gl : Nat.gcd u.2 (tot L) < 2 ^ 200 := Nat.lt_of_le_of_lt (Nat.le_of_dvd tp (Nat.gcd_dvd_right ..)) fw.2
    refine ⟨_, rfl, _, rfl, p, _, rfl, hget, _, rfl, _, _, rfl, ?_⟩
    refine ⟨_, rfl, _, rfl, p, _, rfl, hget, _, rfl, _, _, rfl, rfl, div_w gp gl, ?_⟩
    refine ⟨_, rfl, _, rfl, _, _, rfl, rfl, div_w gp gl, (by show 2 ≤ sizeLine; decide), fun t nt => ?_⟩
    have s2 : Same H2 (upd H2 t (.tup [.int ((u.2 / Nat.gcd u.2 (tot L) : Nat) : Int), .int ((tot L / Nat.gcd u.2 (tot L) : Nat) : Int)])) := same_new nt
    have f2 : upd H2 t (.tup [.int ((u.2 / Nat.gcd u.2 (tot L) : Nat) : Int), .int ((tot L / Nat.gcd u.2 (tot L) : Nat) : Int)]) t = some (.tup [.int ((u.2 / Nat.gcd u.2 (tot L) : Nat) : Int), .int ((tot L / Nat.gcd u.2 (tot L) : Nat) : Int)]) := upd_same
    show tVar 2 _ (upd H2 t (.tup [.int ((u.2 / Nat.gcd u.2 (tot L) : Nat) : Int), .int ((tot L / Nat.gcd u.2 (tot L) : Nat) : Int)])) _
    generalize upd H2 t (.tup [.int ((u.2 / Nat.gcd u.2 (tot L) : Nat) : Int), .int ((tot L / Nat.gcd u.2 (tot L) : Nat) : Int)]) = G at s2 f2 ⊢
    have e1' := s2 _ _ e1
    have e2' := s2 _ _ e2
    have hq' := s2 _ _ hq
    have tD : t ≠ D := ne_of f2 e2' fun j => nomatch j
    have nin : u.1 ∉ ((L.take i).map fun p => (p.1, fr p.2 (tot L))).map (·.1) := by
      rw [List.map_map]
      have := take_nd (l := L.map (·.1)) ok.nd (i := i) (y := u.1) (by rw [List.getElem?_map, hu]; rfl)
      rw [← List.map_take] at this
      exact this
    have lk := sh.len
    rw [List.length_map, List.length_take] at lk
    refine ⟨_, rfl, _, rfl, D, _, rfl, .inr ⟨kvs, stK u.1, qa, e2', rfl, hq', by have := fw.1; rw [sizeLine_eq]; omega, rfl⟩, _, _, kvs ++ [(stK u.1, .ref t)], rfl, fun b o e cc => by rw [upd_ne (ne_of_none e nD)]; exact s2 _ _ (sm _ _ e cc), by rw [upd_ne (Ne.symm nDp)]; exact e1', by rw [upd_same, putK_new _ (sh.none nin)], ?_⟩
    rw [take_more hu, List.map_append]
    refine ShAt.snoc ?_ ((sh.same s2).imp fun a xs e => by rw [upd_ne (ne_of e e2' fun j => nomatch j)]; exact e)
    rw [upd_ne tD]
    exact f2
  · rintro σ' H' ⟨x3, x4, kvs, rfl, sm, e1, e2, sh⟩
    rw [l1, List.take_length] at sh
    exact ⟨e1, _, rfl, q D kvs _ (bk sm) nD (by rw [upd_ne nDp]; exact e2) (sh.imp fun a xs e => by rw [upd_ne (ne_of e e1 fun j => nomatch j)]; exact e)⟩
end

end M

set_option Elab.async false
set_option linter.all false
set_option maxRecDepth 100000
set_option maxHeartbeats 2000000
namespace M
open PySem PySem.Spec PyProof.Rows L2

/-! ### dicts whose keys are nested tuples -/
mutual
/-- the value v is the key k; its tuples are tracked -/
inductive NKV (H : Hp) : V → NestedKey → Prop where
  | non : NKV H .non .none
  | int (i : Int) : NKV H (.int i) (.num i)
  | str (x : Str) : NKV H (.str x) (.text x)
  | tup {b : Addr} {vs : List V} {ks : List NestedKey} (e : H b = some (.tup vs)) (r : NKVs H vs ks) : NKV H (.ref b) (.tup ks)
inductive NKVs (H : Hp) : List V → List NestedKey → Prop where
  | nil : NKVs H [] []
  | cons {v : V} {k : NestedKey} {vs : List V} {ks : List NestedKey} (a : NKV H v k) (r : NKVs H vs ks) : NKVs H (v :: vs) (k :: ks)
end
mutual
theorem nkv_heap {P : Program} {w : World} {H : Hp} {h : Heap} (ok : HOk P w H h) : ∀ {v : V} {k : NestedKey} {u : Value}, NKV H v k → RelV v u → NestedIs h k u
  | _, _, _, .non, r => by cases r; exact .none
  | _, _, _, .int i, r => by obtain ⟨t, rfl⟩ := r; exact .int _ _
  | _, _, _, .str x, r => by obtain ⟨t, rfl⟩ := r; exact .text _ _
  | _, _, _, .tup e r0, r => by
    cases r
    obtain ⟨_, its, rel, o, g1, g2, n, g3⟩ := ok _ _ e
    exact .tup g1 g2 g3 (by simpa using nkvs_heap ok r0 rel)
theorem nkvs_heap {P : Program} {w : World} {H : Hp} {h : Heap} (ok : HOk P w H h) : ∀ {vs : List V} {ks : List NestedKey} {us : List Value}, NKVs H vs ks → Vals vs us → NestedAll h ks us
  | _, _, _, .nil, r => by cases r; exact .nil
  | _, _, _, .cons a r0, r => by
    cases r with
    | cons r1 r2 => exact .cons (nkv_heap ok a r1) (nkvs_heap ok r0 r2)
end
mutual
theorem NKV.keeps {H H' : Hp} (ht : ∀ b ys, H b = some (.tup ys) → H' b = some (.tup ys)) : ∀ {v : V} {k : NestedKey}, NKV H v k → NKV H' v k
  | _, _, .non => .non
  | _, _, .int i => .int i
  | _, _, .str x => .str x
  | _, _, .tup e r => .tup (ht _ _ e) (NKVs.keeps ht r)
theorem NKVs.keeps {H H' : Hp} (ht : ∀ b ys, H b = some (.tup ys) → H' b = some (.tup ys)) : ∀ {vs : List V} {ks : List NestedKey}, NKVs H vs ks → NKVs H' vs ks
  | _, _, .nil => .nil
  | _, _, .cons a r => .cons (NKV.keeps ht a) (NKVs.keeps ht r)
end
/-- a key of the dict: a tuple -/
def NKey (H : Hp) (v : V) (k : NestedKey) : Prop := (∃ b, v = .ref b) ∧ NKV H v k ∧ k.depth ≤ 8
theorem NKey.keeps {H H' : Hp} (ht : ∀ b ys, H b = some (.tup ys) → H' b = some (.tup ys)) {v : V} {k : NestedKey} (h : NKey H v k) : NKey H' v k := ⟨h.1, h.2.1.keeps ht, h.2.2⟩
theorem NKey.same {H H' : Hp} (s : Same H H') {v : V} {k : NestedKey} (h : NKey H v k) : NKey H' v k := h.keeps fun b ys e => s _ _ e
/-- the entries of the object at a -/
def NEnt (P : Program) (w : World) (a : Addr) (zs : List (NestedKey × Addr × Value)) (h : Heap) : Prop := ∃ o es ep, h.get? a = some o ∧ o.ExactDict ∧ o.data = .dict es ep ∧ es.toList = zs.map (entryOfKey (nestedKind P w)) ∧ (zs.map (·.1)).Nodup
abbrev NRel (H : Hp) : List (NestedKey × V) → List (NestedKey × Addr × Value) → Prop := Paired fun p q => p.1 = q.1 ∧ NKey H (.ref q.2.1) p.1 ∧ RelV p.2 q.2.2
/-- at a stands a dict with these keys and values, in the order in which they came -/
def NDat (P : Program) (w : World) (H : Hp) (a : Addr) (kvs : List (NestedKey × V)) : Prop := (a == sysModules) = false ∧ kvs.length ≤ sizeLine ∧ ∃ zs, NRel H kvs zs ∧ H a = some (.ext (NEnt P w a zs))
theorem NRel.keeps {H H' : Hp} {kvs : List (NestedKey × V)} {zs : List (NestedKey × Addr × Value)} (ht : ∀ b ys, H b = some (.tup ys) → H' b = some (.tup ys)) (r : NRel H kvs zs) : NRel H' kvs zs :=
  L2.Paired.mapP r fun _ _ j => ⟨j.1, j.2.1.keeps ht, j.2.2⟩
theorem NDat.same {P : Program} {w : World} {H H' : Hp} (s : Same H H') {a : Addr} {kvs : List (NestedKey × V)} (g : NDat P w H a kvs) : NDat P w H' a kvs := by
  obtain ⟨g1, g2, zs, r, e⟩ := g
  exact ⟨g1, g2, zs, r.keeps fun b ys j => s _ _ j, s _ _ e⟩
theorem NDat.but {P : Program} {w : World} {H H' : Hp} {D : Addr} (hD : Ch H D) (s : But D H H') {a : Addr} (ne : a ≠ D) {kvs : List (NestedKey × V)} (g : NDat P w H a kvs) : NDat P w H' a kvs := by
  obtain ⟨g1, g2, zs, r, e⟩ := g
  exact ⟨g1, g2, zs, r.keeps fun b ys j => s _ _ (fun q => hD.1 _ (q ▸ j)) j, s _ _ ne e⟩
theorem Ch.nd {P : Program} {w : World} {H : Hp} {a : Addr} {kvs : List (NestedKey × V)} (g : NDat P w H a kvs) : Ch H a := by
  obtain ⟨_, _, zs, _, e⟩ := g
  exact ⟨fun _ j => (by rw [e] at j; cases j), fun _ _ j => (by rw [e] at j; cases j)⟩
theorem NDat.some {P : Program} {w : World} {H : Hp} {a : Addr} {kvs : List (NestedKey × V)} (g : NDat P w H a kvs) : ∃ o, H a = .some o := by
  obtain ⟨_, _, zs, _, e⟩ := g
  exact ⟨_, e⟩
section
variable {P : Program} {w : World} {H : Hp} {h : Heap} {a : Addr} {kvs : List (NestedKey × V)} {zs : List (NestedKey × Addr × Value)}
theorem nd_of (ok : HOk P w H h) (r : NRel H kvs zs) (e : H a = some (.ext (NEnt P w a zs))) : h.DictOfH (nestedKind P w) a zs := by
  obtain ⟨⟨o, es, ep, g1, g2, g3, g4, g5⟩, _⟩ := (ok a _ e)
  have all : ∀ {l : List (NestedKey × V)} {m : List (NestedKey × Addr × Value)}, NRel H l m → ∀ x ∈ m, (nestedKind P w).is h x.1 x.2.1 := by
    intro l m q
    induction q with
    | nil => exact fun x hx => nomatch hx
    | cons hq t ih =>
      intro x hx
      rcases List.mem_cons.mp hx with j | j
      · subst j
        rw [← hq.1]
        exact ⟨nkv_heap ok hq.2.1.2.1 rfl, hq.2.1.2.2⟩
      · exact ih x j
  exact ⟨o, es, ep, g1, g2, g3, g4, all r, g5⟩
theorem NRel.val (r : NRel H kvs zs) (k : NestedKey) : RelO (valV kvs k) (valueAt (pairsH zs) k) := by
  induction r with
  | nil => exact True.intro
  | @cons p q ps qs j t ih =>
    obtain ⟨j1, _, j2⟩ := j
    by_cases c : p.1 = k
    · rw [valV_pos c, show valueAt (pairsH (q :: qs)) k = some q.2.2 from by simp [valueAt, pairsH, List.find?_cons, ← j1, c]]
      exact j2
    · rw [valV_neg c, show valueAt (pairsH (q :: qs)) k = valueAt (pairsH qs) k from by simp [valueAt, pairsH, List.find?_cons, ← j1, c]]
      exact ih
theorem NRel.len (r : NRel H kvs zs) : kvs.length = zs.length := Paired.length r
theorem NRel.any (r : NRel H kvs zs) (k : NestedKey) : (atKey zs k).isSome = (valV kvs k).isSome := by
  have z := (r.val k).isSome_eq
  rw [valueAt_pairsH, Option.isSome_map] at z
  exact z.symm
theorem NRel.put (r : NRel H kvs zs) {k : NestedKey} {b : Addr} {y : V} {u : Value} (hb : NKey H (.ref b) k) (ry : RelV y u) : NRel H (putK kvs k y) (storedH zs k b u) := by
  unfold putK storedH
  rw [valV_any, ← r.any k]
  by_cases c : (atKey zs k).isSome = true
  · rw [if_pos c, if_pos c]
    clear c
    induction r with
    | nil => exact .nil
    | @cons p q ps qs j t ih =>
      rw [List.map_cons, List.map_cons]
      refine .cons ?_ ih
      obtain ⟨j1, j2, j3⟩ := j
      unfold putAt
      by_cases d : p.1 = k
      · rw [if_pos d, if_pos (j1.symm.trans d)]; exact ⟨j1, j2, ry⟩
      · rw [if_neg d, if_neg (fun i => d (j1.trans i))]; exact ⟨j1, j2, j3⟩
  · rw [if_neg c, if_neg c]
    exact r.snoc ⟨rfl, hb, ry⟩
end
section
variable {X : Cx} {pins : List (Addr × Obj)} {σ : L2.St} {H : Hp} {s : Shared} {a : Addr} {kvs : List (NestedKey × V)} {k : NestedKey} {y v : V} {u r : Value} {A : Around} {E : Value → Shared → Prop}
theorem nroom {A : Around} (hu : A.units + 64 < cLine) : (nestedKind X.prog X.w).room A.in1 := by
  show A.units + 1 + 8 < cLine
  omega
theorem nkey_at (I : Inv X pins σ H s) (g : NKey H y k) (ry : RelV y u) : ∃ b, u = .ref b ∧ y = .ref b ∧ (nestedKind X.prog X.w).is s.heap k b := by
  obtain ⟨⟨b, rfl⟩, g1, g2⟩ := g
  cases ry
  exact ⟨b, rfl, rfl, nkv_heap I.hok g1 rfl, g2⟩
theorem nd_get {Q : Value → Shared → Prop} (hu : A.units + 64 < cLine) (I : Inv X pins σ H s) (g : NDat X.prog X.w H a kvs) (gk : NKey H y k) (ry : RelV y u) (l : valV kvs k = some v) (go : ∀ w' s', Inv X pins σ H s' → RelV v w' → Q w' s') :
    wpAny (model X.prog X.w) A (getItem (.ref a) u) Q E s := by
  obtain ⟨g1, g2, zs, rel, e⟩ := g
  obtain ⟨b, rfl, _, ik⟩ := nkey_at I gk ry
  obtain ⟨w', hw, rw'⟩ := RelO.some_of (v := v) (o := valueAt (pairsH zs) k) (by rw [← l]; exact rel.val k)
  exact getItem_keyed (nroom (X := X) hu) ik ⟨zs, nd_of I.hok rel e, rfl⟩ hw (go w' _ (I.tok _) rw')
theorem nd_in {Q : Value → Shared → Prop} (hu : A.units + 64 < cLine) (I : Inv X pins σ H s) (g : NDat X.prog X.w H a kvs) (gk : NKey H y k) (ry : RelV y u) (go : ∀ s', Inv X pins σ H s' → Q (.bool (valV kvs k).isSome) s') :
    wpAny (model X.prog X.w) A (compareOp .In u (.ref a)) Q E s := by
  obtain ⟨g1, g2, zs, rel, e⟩ := g
  obtain ⟨b, rfl, _, ik⟩ := nkey_at I gk ry
  refine in_keyed (nroom (X := X) hu) ik g1 ⟨zs, nd_of I.hok rel e, rfl⟩ ?_
  rw [← (rel.val k).isSome_eq]
  exact go _ (I.tok _)
theorem nd_notIn {Q : Value → Shared → Prop} (hu : A.units + 64 < cLine) (I : Inv X pins σ H s) (g : NDat X.prog X.w H a kvs) (gk : NKey H y k) (ry : RelV y u) (go : ∀ s', Inv X pins σ H s' → Q (.bool (!(valV kvs k).isSome)) s') :
    wpAny (model X.prog X.w) A (compareOp .NotIn u (.ref a)) Q E s := by
  obtain ⟨g1, g2, zs, rel, e⟩ := g
  obtain ⟨b, rfl, _, ik⟩ := nkey_at I gk ry
  refine notIn_keyed (nroom (X := X) hu) ik g1 ⟨zs, nd_of I.hok rel e, rfl⟩ ?_
  rw [← (rel.val k).isSome_eq]
  exact go _ (I.tok _)
theorem nent_stay (P : Program) (w : World) (a : Addr) (zs : List (NestedKey × Addr × Value)) : ∀ h1 h2 : Heap, NEnt P w a zs h1 → (∀ o, h1.get? a = some o → h2.get? a = some o) → NEnt P w a zs h2 := fun h1 h2 ⟨o, es, ep, g1, g⟩ st => ⟨o, es, ep, st _ g1, g⟩
theorem nd_put {Q : Unit → Shared → Prop} (hu : A.units + 64 < cLine) (I : Inv X pins σ H s) (g : NDat X.prog X.w H a kvs) (gk : NKey H y k) (ry : RelV y u) (rv : RelV v r) (lt : kvs.length < sizeLine)
    (go : ∀ H' s', (∀ b, b ≠ a → H' b = H b) → NDat X.prog X.w H' a (putK kvs k v) → Inv X pins σ H' s' → Q () s') : wpAny (model X.prog X.w) A (setItem (.ref a) u r) Q E s := by
  obtain ⟨g1, g2, zs, rel, e⟩ := g
  obtain ⟨b, rfl, rfl, ik⟩ := nkey_at I gk ry
  refine wpAny_setItem_heap (hsz := by rw [← rel.len]; omega) (nroom (X := X) hu) ik (nd_of I.hok rel e) fun h' dd hs => ?_
  obtain ⟨o, es, ep, i1, i2, i3, i4, _, i5⟩ := dd
  have hl : (putK kvs k v).length ≤ sizeLine := by have := length_putK kvs k v; omega
  have r2 := (rel.put gk rv).keeps (H' := upd H a (.ext (NEnt X.prog X.w a (storedH zs k b r)))) fun c ys ec => (by
    rw [upd_ne (ne_of ec e fun j => nomatch j)]
    exact ec)
  refine go (upd H a (.ext (NEnt X.prog X.w a (storedH zs k b r)))) _ (fun c hc => upd_ne hc) ⟨g1, hl, _, r2, upd_same⟩ ?_
  exact d_write I (by rw [e]; exact True.intro) hs ⟨o, i1⟩ ⟨⟨o, es, ep, i1, i2, i3, i4, i5⟩, ⟨o, i1⟩, nent_stay _ _ _ _⟩
theorem nd_getOr {Q : Value → Shared → Prop} {d : V} {q : Value} (hu : A.units + 64 < cLine) (I : Inv X pins σ H s) (g : NDat X.prog X.w H a kvs) (gk : NKey H y k) (ry : RelV y u) (rd : RelV d q) (go : ∀ w' s', Inv X pins σ H s' → RelV ((valV kvs k).getD d) w' → Q w' s') :
    wpAny (model X.prog X.w) A (call (.builtin "dict.get") [.ref a, u, q]) Q E s := by
  obtain ⟨g1, g2, zs, rel, e⟩ := g
  obtain ⟨b, rfl, _, ik⟩ := nkey_at I gk ry
  exact getOr_keyed (nroom (X := X) hu) ik g1 ⟨zs, nd_of I.hok rel e, rfl⟩ (go _ _ (I.tok _) ((rel.val k).getD rd))
theorem nd_type (I : Inv X pins σ H s) (g : NDat X.prog X.w H a kvs) : s.TypeIs (.ref a) "dict" ∧ (∀ b, Value.ref a = .ref b → ∃ ob, s.heap.get? b = some ob ∧ ob.dict = none) := by
  obtain ⟨g1, g2, zs, rel, e⟩ := g
  have dd := nd_of I.hok rel e
  refine ⟨dd.typeIs, fun b q => ?_⟩
  cases q
  obtain ⟨ob, _, _, i1, i2, _⟩ := dd
  exact ⟨ob, i1, i2.2.1⟩
end
/-- {} -/
def tNNew (P : Program) (w : World) : TE := fun _ H Q => ∀ (p : Addr) (H' : Hp), H p = none → Same H H' → (∀ b, b ≠ p → H' b = H b) → NDat P w H' p [] → Q (.ref p) H'
def tNGet (P : Program) (w : World) (td ty : TE) : TE := fun σ H Q => td σ H fun x H1 => ty σ H1 fun y H2 => ∃ a kvs k v, x = .ref a ∧ NDat P w H2 a kvs ∧ NKey H2 y k ∧ valV kvs k = some v ∧ Q v H2
def tNIn (P : Program) (w : World) (ty td : TE) : TE := fun σ H Q => ty σ H fun y H1 => td σ H1 fun x H2 => ∃ a kvs k, x = .ref a ∧ NDat P w H2 a kvs ∧ NKey H2 y k ∧ Q (.bl (valV kvs k).isSome) H2
def tNNotIn (P : Program) (w : World) (ty td : TE) : TE := fun σ H Q => ty σ H fun y H1 => td σ H1 fun x H2 => ∃ a kvs k, x = .ref a ∧ NDat P w H2 a kvs ∧ NKey H2 y k ∧ Q (.bl (!(valV kvs k).isSome)) H2
def sNPut (P : Program) (w : World) (td ty tv : TE) : TS := fun D σ H => tv σ H fun v H1 => td σ H1 fun x H2 => ty σ H2 fun y H3 => ∃ a kvs k, x = .ref a ∧ NDat P w H3 a kvs ∧ NKey H3 y k ∧ kvs.length < sizeLine ∧ ∀ H4, (∀ b, b ≠ a → H4 b = H3 b) → NDat P w H4 a (putK kvs k v) → D.nx σ H4
section
variable {X : Cx} {o i e value f : Expr} {pos pos' apos cpos : Pos} {td ty tv tx : TE}
theorem pe_nnew : PE X (.Dict [] [] pos) (tNNew X.prog X.w) := by
  constructor
  intro ps s σ H Q I go
  have fr := I.hok.fresh (Nat.le_refl s.heap.objs.size)
  have nz : (s.heap.objs.size == sysModules) = false := beq_eq_false_iff_ne.mpr (Ne.symm (Nat.ne_of_lt I.big))
  have ent : NEnt X.prog X.w s.heap.objs.size [] (s.heap.push { cls := .type "dict", data := .dict #[] }) := ⟨_, #[], 0, Heap.get?_push_size _ rfl, ⟨rfl, rfl, rfl⟩, rfl, rfl, List.nodup_nil⟩
  refine wpAny_Dict_empty ⟨.ref s.heap.objs.size, upd H s.heap.objs.size (.ext (NEnt X.prog X.w s.heap.objs.size [])), ?_, rfl, ?_⟩
  · exact I.laid (t' := s.toks) (fun _ _ q => Heap.get?_push_of_some _ q) (Nat.le_refl _) ⟨ent, ⟨_, Heap.get?_push_size _ rfl⟩, nent_stay _ _ _ _⟩
  · exact go _ _ fr (same_new fr) (fun b hb => upd_ne hb) ⟨nz, Nat.zero_le _, [], .nil, upd_same⟩
theorem pe_nget (hu : X.A.units + 64 < cLine) (ho : PE X o td) (hi : PE X i ty) (hs : NoSl i := by exact fun _ _ => rfl) : PE X (.Subscript o i pos) (tNGet X.prog X.w td ty) := by
  constructor
  intro ps s σ H Q I go
  refine subD_of PySem.F.slot_dict_getitem.lookup hs (thn (ho.run ps s σ H _ I go) fun u s1 ⟨x, H1, I1, rx, q1⟩ => thn (hi.run ps s1 σ H1 _ I1 q1) fun iv s2 ⟨y, H2, I2, ry, a, kvs, k, v, ex, g, gk, l, q2⟩ => ?_)
  cases ex
  obtain rfl : u = .ref a := rx
  exact ⟨(nd_type I2 g).1, nd_get hu I2 g gk ry l fun w' s3 I3 rw' => ⟨v, H2, I3, rw', q2⟩⟩
theorem pc_nin (hu : X.A.units + 64 < cLine) (hi : PE X i ty) (ho : PE X o td) : PC X .In i o (tNIn X.prog X.w ty td) := by
  constructor
  intro ps s σ H Q I go
  refine thn (hi.run ps s σ H _ I go) fun iv s1 ⟨y, H1, I1, ry, q1⟩ => thn (ho.run ps s1 σ H1 _ I1 q1) fun u s2 ⟨x, H2, I2, rx, a, kvs, k, ex, g, gk, q2⟩ => ?_
  cases ex
  obtain rfl : u = .ref a := rx
  exact nd_in hu I2 g gk ry fun s3 I3 => ⟨.bl (valV kvs k).isSome, H2, I3, rfl, q2⟩
theorem pc_nnotin (hu : X.A.units + 64 < cLine) (hi : PE X i ty) (ho : PE X o td) : PC X .NotIn i o (tNNotIn X.prog X.w ty td) := by
  constructor
  intro ps s σ H Q I go
  refine thn (hi.run ps s σ H _ I go) fun iv s1 ⟨y, H1, I1, ry, q1⟩ => thn (ho.run ps s1 σ H1 _ I1 q1) fun u s2 ⟨x, H2, I2, rx, a, kvs, k, ex, g, gk, q2⟩ => ?_
  cases ex
  obtain rfl : u = .ref a := rx
  exact nd_notIn hu I2 g gk ry fun s3 I3 => ⟨.bl (!(valV kvs k).isSome), H2, I3, rfl, q2⟩
theorem ps_nput (hu : X.A.units + 64 < cLine) (ho : PE X o td) (hi : PE X i ty) (hv : PE X value tv) (hs : swapsWith value (some (.Subscript o i pos')) pos.line X.env = pure false := by rfl) :
    PS X (.Assign [.Subscript o i pos'] value pos) (sNPut X.prog X.w td ty tv) := by
  constructor
  intro ps s σ H D I go
  refine wpAny_Assign_Subscript (thn (hv.run ps s σ H _ I go) fun r s1 ⟨v, H1, I1, rv, q1⟩ => thn (ho.run ps s1 σ H1 _ I1 q1) fun u s2 ⟨x, H2, I2, rx, q2⟩ => thn (hi.run ps s2 σ H2 _ I2 q2) fun iv s3 ⟨y, H3, I3, ry, a, kvs, k, ex, g, gk, lt, q3⟩ => ?_) hs
  cases ex
  obtain rfl : u = .ref a := rx
  exact nd_put hu I3 g gk ry rv lt fun H4 s4 e4 g4 I4 => ⟨σ, H4, I4, q3 H4 e4 g4⟩
def tNGetOr (P : Program) (w : World) (td ty tx : TE) : TE := fun σ H Q => td σ H fun x H1 => ∃ a, x = .ref a ∧ (∃ kvs, NDat P w H1 a kvs) ∧ ty σ H1 fun y H2 => tx σ H2 fun z H3 => ∃ kvs k, NDat P w H3 a kvs ∧ NKey H3 y k ∧ Q ((valV kvs k).getD z) H3
theorem pe_ngetOr (hu : X.A.units + 64 < cLine) (ho : PE X o td) (he : PE X e ty) (hf : PE X f tx) (m : M2 X o "get" apos e f cpos) : PE X (.Call (.Attribute o "get" apos) [e, f] [] cpos) (tNGetOr X.prog X.w td ty tx) := by
  constructor
  intro ps s σ H Q I go
  refine wpAny_Call_method m.base m.few m.line PySem.F.plainAttrs_dict PySem.F.slot_dict_get PySem.F.type_dict_get (thn (ho.run ps s σ H _ I go) fun u s1 ⟨x, H1, I1, rx, a, ex, ⟨kv0, g0⟩, q1⟩ => ?_)
  cases ex
  obtain rfl : u = .ref a := rx
  refine ⟨(nd_type I1 g0).1, (nd_type I1 g0).2, ?_⟩
  rw [m.trees]
  refine Calls.callWith_builtin rfl (Calls.evalArgs_plain (Calls.spliced_cons (thn (he.run ps s1 σ H1 _ I1 q1) fun iv s2 ⟨y, H2, I2, ry, q2⟩ => Calls.spliced_cons (thn (hf.run ps s2 σ H2 _ I2 q2) fun fv s3 ⟨z, H3, I3, rz, kvs, k, g, gk, q3⟩ => Calls.spliced_nil ?_))))
  exact nd_getOr hu I3 g gk ry rz fun w' s4 I4 rw' => ⟨_, H3, I4, rw', q3⟩
end

end M

set_option Elab.async false
set_option linter.all false
set_option maxRecDepth 100000
set_option maxHeartbeats 2000000
namespace M
open PySem PySem.Spec PyProof.Rows L2

/-! ### the outcomes of a call by its number -/
/-- the ways of the call c -/
noncomputable def wyC (v : Vlt) (c : Str × Int) : WyF := fun hs =>
  match v.deeds.find? (fun d => decide (d.1 = c.1)) with
  | some d => wys d.2.2 (v.cells.map (·.1)) c.2 hs
  | none => []
theorem wyC_of {v : Vlt} (nd : (v.deeds.map (·.1)).Nodup) {d : Str × Int × List Row} (hd : d ∈ v.deeds) {c : Str × Int} (e : d.1 = c.1) (hs : List Int) : wyC v c hs = wys d.2.2 (v.cells.map (·.1)) c.2 hs := by
  unfold wyC
  cases h : v.deeds.find? (fun d => decide (d.1 = c.1)) with
  | none =>
    have := List.find?_eq_none.mp h d hd
    simp [e] at this
  | some d2 =>
    have h1 := List.mem_of_find?_eq_some h
    have h2 := List.find?_some h
    have h2 : d2.1 = c.1 := by simpa using h2
    rw [deed_eq nd h1 hd (h2.trans e.symm)]
theorem able_of {v : Vlt} (g : VGood v) {d : Str × Int × List Row} (hd : d ∈ v.deeds) {a : Int} (ar : 0 ≤ a ∧ a < d.2.1) {hs : List Int} (so : StateOk (v.cells.map (·.1)) hs) : Able d.2.2 (v.cells.map (·.1)) hs a := by
  have dok := g.ds d hd
  have lh : v.cells.length = hs.length := by have := so.1; rw [List.length_map] at this; exact this
  exact ⟨fun fs hf => mst0_ok g hd so ⟨ar.1, by have := ar.2; have := dok.2.1.2; omega⟩ hf, by rw [← lh]; exact dok.2.2.1, dok.2.2.2.1⟩
theorem wyC_ok {v : Vlt} (g : VGood v) {c : Str × Int} (hc : c ∈ v.calls) : WyOk (StateOk (v.cells.map (·.1))) (wyC v c) := by
  obtain ⟨d, hd, e, h0, h1⟩ := calls_mem hc
  refine ⟨fun s so => ?_, fun s so w hw => ?_, fun s so w hw => ?_⟩
  · rw [wyC_of g.nd hd e.symm]
    obtain ⟨_, _, _, h, _⟩ := (able_of g hd ⟨h0, h1⟩ so).wys
    exact h
  · rw [wyC_of g.nd hd e.symm] at hw
    exact ((able_of g hd ⟨h0, h1⟩ so).so so hw).1
  · rw [wyC_of g.nd hd e.symm] at hw
    exact ((able_of g hd ⟨h0, h1⟩ so).so so hw).2
/-- what keeps the tuples and all but some places -/
structure Kp (K : PySem.W.Frag) (H H' : Hp) : Prop where
  t : ∀ a xs, H a = some (.tup xs) → H' a = some (.tup xs)
  s : ∀ a xs, SqT K H a xs → SqT K H' a xs
theorem Kp.mk' {K : PySem.W.Frag} {H H' : Hp} (h : ∀ b o, H b = some o → (∀ kvs, o ≠ .dT kvs) → (∀ S, o ≠ .ext S) → H' b = some o) : Kp K H H' := by
  have t : ∀ a xs, H a = some (.tup xs) → H' a = some (.tup xs) := fun a xs e => h _ _ e (fun _ z => nomatch z) (fun _ z => nomatch z)
  refine ⟨t, fun a xs e => ?_⟩
  rcases e with (e | ⟨o, e⟩) | e
  · exact .inl (.inl (t _ _ e))
  · exact .inl (.inr ⟨o, h _ _ e (fun _ z => nomatch z) (fun _ z => nomatch z)⟩)
  · exact .inr e
def mvf (sa za : Addr) : List (Str × V) := [("_starts", .ref sa), ("_sides", .ref za)]
theorem mvf_starts (sa za : Addr) : (mvf sa za).lookup ("_starts" : Str) = some (.ref sa) := by kernel_rfl
theorem mvf_sides (sa za : Addr) : (mvf sa za).lookup ("_sides" : Str) = some (.ref za) := by kernel_rfl
theorem mvf_ways (sa za : Addr) : (mvf sa za).lookup ("ways" : Str) = none := by kernel_rfl
/-- the moves of a vault -/
def MovAt (K : PySem.W.Frag) (H : Hp) (m : Addr) (v : Vlt) : Prop := ∃ (dx sa za : Addr) (ys : List V), H m = some (.ins (He.ga K "Moves") dx (mvf sa za)) ∧ H sa = some (.lst ys) ∧ ys.length = v.calls.length ∧ (∀ (i : Nat) (y : V), ys[i]? = some y → ∃ c, v.calls[i]? = some c ∧ StartAt K H v c y) ∧ H za = some (.tup ((v.cells.map (·.1)).map .int))
theorem StartAt.same {K : PySem.W.Frag} {H H' : Hp} {v : Vlt} {c : Str × Int} {y : V} (s : Same H H') (h : StartAt K H v c y) : StartAt K H' v c y := by
  obtain ⟨d, hd, e, h⟩ := h
  exact ⟨d, hd, e, dp_same s h⟩
theorem MovAt.same {K : PySem.W.Frag} {H H' : Hp} {m : Addr} {v : Vlt} (s : Same H H') (h : MovAt K H m v) : MovAt K H' m v := by
  obtain ⟨dx, sa, za, ys, h1, h2, h3, h4, h5⟩ := h
  exact ⟨dx, sa, za, ys, s _ _ h1, s _ _ h2, h3, fun i y e => by
    obtain ⟨c, e1, e2⟩ := h4 i y e
    exact ⟨c, e1, e2.same s⟩, s _ _ h5⟩
section
variable {P : Program} {w : World} {K : PySem.W.Frag} {mg : Str → Option Value} {base : Heap}
def spMoves (K : PySem.W.Frag) : Sp := fun vs H Q _ => ∃ (m dx p : Addr) (v : Vlt), vs = [.ref m, .ref p] ∧ H m = some (.ins (He.ga K "Moves") dx []) ∧ VaultAt K H p v ∧ VGood v ∧ ∀ H', But m H H' → MovAt K H' m v → Q .non H'
theorem ma_Moves (T : Txt w K mg) : Ma P w K mg base 3 "Moves" (He.ga K "Moves") (spMoves K) := by
  refine ma_of (N := ["self", "vault"]) (ps := ["self", "vault"]) T.f_Moves_init T.g_Moves T.k_Moves ⟨rfl, rfl, rfl, by decide +kernel, rfl, by decide +kernel, by decide +kernel⟩ (fun _ _ _ _ _ _ us hl => match us, hl with | [_, _], _ => rfl)
    (fun vs H Q E h => by obtain ⟨m, dx, p, v, rfl, hm, hv, gd, q⟩ := h; rfl) (fun cdv A outer s H vs Q E hr h => ?_)
  have nd : (["self", "vault"] : List Str).Nodup := by decide +kernel
  obtain ⟨m, dx, p, v, rfl, hm, hv, gd, q⟩ := h
  refine ⟨_, (pss_cons (ps_fld (pv 0) (pe_me0 (me_Vault_starts T) hr (pv 1)) rfl)
      (pss_one (ps_fld (pv 0) (pe_me0 (me_Vault_sizes T) hr (pv 1)) rfl))), ?_⟩
  obtain ⟨dy, gs, e1, e2⟩ := hv.me "starts"
  refine ⟨_, rfl, p, dy, gs, rfl, e1, e2, p, v, rfl, hv, gd.ok, fun sa ys H1 s1 hsa lys hys => ?_⟩
  have hm1 := s1 _ _ hm
  refine ⟨_, rfl, m, _, dx, _, rfl, hm1, T.c_Moves, T.n_Moves_starts, (by show 0 < 1000; decide), ?_⟩
  have cm : Ch H1 m := .ins hm1
  have bm : But m H1 (upd H1 m (.ins (He.ga K "Moves") dx (putF "_starts" (.ref sa) []))) := But.upd
  have hm2 : upd H1 m (.ins (He.ga K "Moves") dx (putF "_starts" (.ref sa) [])) m = some (.ins (He.ga K "Moves") dx (putF "_starts" (.ref sa) [])) := upd_same
  have hp1 : m ≠ p := fun e => by
    obtain ⟨dx', a, d, c, b, kvs, h1, _⟩ := hv.ob
    rw [← e, hm] at h1
    have z := Option.some.inj h1
    injection z with _ _ z
    exact nomatch z
  have hv2 : VaultAt K (upd H1 m (.ins (He.ga K "Moves") dx (putF "_starts" (.ref sa) []))) p v := by
    obtain ⟨dx', a, d, c, b, kvs, h1, h2, h3, h4, h5⟩ := (hv.same s1).ob
    refine ⟨dx', a, d, c, b, kvs, bm _ _ (Ne.symm hp1) h1, dp_but cm bm h2 (.tup fun x hx => ?_), dp_but cm bm h3 (.tup fun x hx => ?_), bm _ _ (fun z => by rw [z, hm1] at h4; cases h4) h4, codes_but cm bm h5⟩
    · obtain ⟨c, _, rfl⟩ := List.mem_map.mp hx
      exact cell_noL c
    · obtain ⟨d, _, rfl⟩ := List.mem_map.mp hx
      exact deed_noL d
  generalize upd H1 m (.ins (He.ga K "Moves") dx (putF "_starts" (.ref sa) [])) = H2 at bm hm2 hv2 ⊢
  obtain ⟨dy2, gs2, e3, e4⟩ := hv2.me "sizes"
  refine ⟨_, rfl, p, dy2, gs2, rfl, e3, e4, p, v, rfl, hv2, gd.c1, fun za H3 s3 hza => ?_⟩
  have hm3 := s3 _ _ hm2
  have b3 : But m H1 H3 := fun b o n e => s3 _ _ (bm b o n e)
  refine ⟨_, rfl, m, _, dx, _, rfl, hm3, T.c_Moves, T.n_Moves_sides, (by show 1 < 1000; decide), ?_⟩
  have bb : But m H3 (upd H3 m (.ins (He.ga K "Moves") dx (putF "_sides" (.ref za) (putF "_starts" (.ref sa) [])))) := But.upd
  have bt : But m H1 (upd H3 m (.ins (He.ga K "Moves") dx (putF "_sides" (.ref za) (putF "_starts" (.ref sa) [])))) := fun b o n e => bb b o n (b3 b o n e)
  refine q _ (fun b o n e => bt b o n (s1 b o e)) ⟨dx, sa, za, ys, upd_same, bt _ _ (fun z => by rw [z, hm1] at hsa; cases hsa) hsa, lys, fun i y e => ?_, bb _ _ (fun z => by rw [z, hm3] at hza; cases hza) hza⟩
  obtain ⟨c, e5, e6⟩ := hys i y e
  exact ⟨c, e5, e6.but cm bt⟩
def spMvWays (K : PySem.W.Frag) : Sp := fun vs H Q _ => ∃ (m b : Addr) (v : Vlt) (hs : List Int) (j : Nat) (c : Str × Int), vs = [.ref m, .ref b, .int (j : Nat)] ∧ MovAt K H m v ∧ VGood v ∧ SqT K H b (hs.map .int) ∧ StateOk (v.cells.map (·.1)) hs ∧ v.calls[j]? = some c ∧
  ∀ (z : Addr) (ys : List V) (H' : Hp), Same H H' → H z = none → H' z = some (.lst ys) → WysAt K H' ys (wyC v c hs) → Q (.ref z) H'
theorem me_Moves_ways (T : Txt w K mg) : Me P w K mg base 13 (He.ga K "Moves") "ways" (spMvWays K) := by
  refine me_of (N := ["self", "state", "number"]) (ps := ["self", "state", "number"]) T.f_Moves_ways T.c_Moves T.m_Moves_ways ⟨rfl, rfl, rfl, by decide +kernel, rfl, by decide +kernel, by decide +kernel⟩ (fun _ _ _ _ _ _ us hl => match us, hl with | [_, _, _], _ => rfl)
    (fun vs H Q E h => by obtain ⟨m, b, v, hs, j, c, rfl, hm, gd, hb, so, hc, q⟩ := h; rfl) (fun cdv A outer s H vs Q E hr h => ?_)
  have nd : (["self", "state", "number"] : List Str).Nodup := by decide +kernel
  obtain ⟨m, b, v, hs, j, c, rfl, hm, gd, hb, so, hc, q⟩ := h
  refine ⟨_, (pss_one (ps_ret (pe_ca (ca_ways_from T) hr (pa_cons (pe_ix ix_list (pe_fld (pv 0) rfl) (pv 2) (fun _ _ => rfl)) (pa_cons (pe_fld (pv 0) rfl) (pa_cons (pv 1) pa_nil)))))), ?_⟩
  obtain ⟨dx, sa, za, ys, h1, h2, h3, h4, h5⟩ := hm
  have lj := (List.getElem?_eq_some_iff.mp hc).1
  obtain ⟨y, hy⟩ : ∃ y, ys[j]? = some y := ⟨_, List.getElem?_eq_getElem (by omega)⟩
  obtain ⟨c', hc', d, hd, ed, hyd⟩ := h4 j y hy
  cases (Option.some.inj (hc.symm.trans hc'))
  obtain ⟨ya, yxs, rfl, hya, hyd2⟩ := dp_tup hyd
  obtain ⟨d2, hd2, e2, a0, a1⟩ := calls_mem (List.mem_of_getElem? hc)
  cases deed_eq gd.nd hd2 hd (e2.symm.trans ed.symm)
  have ab := able_of gd hd ⟨a0, a1⟩ so
  obtain ⟨n, hn, tr⟩ := ab.wysM
  refine ⟨_, rfl, m, _, dx, _, _, rfl, h1, T.c_Moves, T.n_Moves_starts, mvf_starts .., _, rfl, _, _, _, _, rfl, rfl, .of h2, atI_nat hy, _, rfl, m, _, dx, _, _, rfl, h1, T.c_Moves, T.n_Moves_sides, mvf_sides .., _, rfl, ?_⟩
  refine ⟨ya, za, b, codeOf d.2.2, v.cells.map (·.1), hs, c.2, n, _, rfl, hyd, .of h5, hb, ab.mo, by omega, tr, fun z zs H' s nz hz hw => q z zs H' s nz hz ?_⟩
  rw [wyC_of gd.nd hd ed]
  exact hw
end

end M

set_option Elab.async false
set_option linter.all false
set_option maxRecDepth 100000
set_option maxHeartbeats 2000000
namespace M
open PySem PySem.Spec PyProof.Rows L2

/-! ### weights behind a row -/
/-- all stays but dicts with tuple keys and their like -/
def Hold (H H' : Hp) : Prop := ∀ b o, H b = some o → (∀ l, o ≠ .dT l) → (∀ od l, o ≠ .frz od (.dT l)) → (∀ st, o ≠ .ext st) → H' b = some o
theorem Hold.ne {H H' : Hp} {a : Addr} {u : HO} (e : ∀ b, b ≠ a → H' b = H b) (ha : H a = some u) (hu : (∃ l, u = .dT l) ∨ (∃ od l, u = .frz od (.dT l)) ∨ ∃ st, u = .ext st) : Hold H H' := fun b o hb h1 h2 h3 => by
  rw [e b fun z => by
    rw [z, ha] at hb
    cases (Option.some.inj hb)
    rcases hu with ⟨l, q⟩ | ⟨od, l, q⟩ | ⟨st, q⟩
    · exact h1 _ q
    · exact h2 _ _ q
    · exact h3 _ q]
  exact hb
theorem Same.hold {H H' : Hp} (s : Same H H') : Hold H H' := fun b o e _ _ _ => s b o e
theorem Hold.trans {H H1 H2 : Hp} (h : Hold H H1) (k : Hold H1 H2) : Hold H H2 := fun b o e a1 a2 a3 => k b o (h b o e a1 a2 a3) a1 a2 a3
section
variable {K : PySem.W.Frag} {H H' : Hp}
theorem Hold.tup (h : Hold H H') {a : Addr} {xs : List V} (e : H a = some (.tup xs)) : H' a = some (.tup xs) := h _ _ e (fun _ z => nomatch z) (fun _ _ z => nomatch z) (fun _ z => nomatch z)
theorem Hold.sqT (h : Hold H H') {a : Addr} {xs : List V} (e : SqT K H a xs) : SqT K H' a xs := by
  rcases e with (e | ⟨o, e⟩) | e
  · exact .inl (.inl (h.tup e))
  · exact .inl (.inr ⟨o, h _ _ e (fun _ z => nomatch z) (fun _ _ z => by injection z with _ z; exact nomatch z) (fun _ z => nomatch z)⟩)
  · exact .inr e
theorem Hold.sqL (h : Hold H H') {a : Addr} {xs : List V} (e : SqL K H a xs) : SqL K H' a xs := by
  rcases e with (e | ⟨o, e⟩) | e
  · exact .inl (.inl (h _ _ e (fun _ z => nomatch z) (fun _ _ z => nomatch z) (fun _ z => nomatch z)))
  · exact .inl (.inr ⟨o, h _ _ e (fun _ z => nomatch z) (fun _ _ z => by injection z with _ z; exact nomatch z) (fun _ z => nomatch z)⟩)
  · exact .inr e
theorem Hold.wys (h : Hold H H') {vs : List V} {ws : List (List Int × Int × List Int)} (k : WysAt K H vs ws) : WysAt K H' vs ws := wys_imp (fun _ _ => h.sqT) (fun _ _ => h.tup) k
end
theorem NDat.imp {P : Program} {w : World} {H H' : Hp} (h : Hold H H') {a : Addr} (e : H' a = H a) {kvs : List (NestedKey × V)} (g : NDat P w H a kvs) : NDat P w H' a kvs := by
  obtain ⟨g1, g2, zs, r, q⟩ := g
  exact ⟨g1, g2, zs, r.keeps fun b ys j => h.tup j, by rw [e]; exact q⟩
theorem NDat.ex {P : Program} {w : World} {H : Hp} {a : Addr} {kvs : List (NestedKey × V)} (g : NDat P w H a kvs) : ∃ st, H a = Option.some (HO.ext st) := by
  obtain ⟨_, _, zs, _, q⟩ := g
  exact ⟨_, q⟩
def nkey (hs : List Int) (n : Nat) : NestedKey := .tup [.tup (hs.map .num), .num ((n : Nat) : Int)]
theorem nums_inj : ∀ {a b : List Int}, a.map NestedKey.num = b.map NestedKey.num → a = b
  | [], [], _ => rfl
  | [], _ :: _, h => by cases h
  | _ :: _, [], h => by cases h
  | x :: a, y :: b, h => by
    injection h with h1 h2
    injection h1 with h1
    rw [h1, nums_inj h2]
theorem nkey_inj {a b : List Int} {n m : Nat} (h : nkey a n = nkey b m) : a = b ∧ n = m := by
  unfold nkey at h
  injection h with h
  injection h with h1 h2
  injection h1 with h1
  injection h2 with h2 _
  injection h2 with h2
  exact ⟨nums_inj h1, by omega⟩
theorem nkvs_ints (H : Hp) : ∀ hs : List Int, NKVs H (hs.map V.int) (hs.map .num)
  | [] => .nil
  | x :: r => .cons (.int x) (nkvs_ints H r)
theorem depth_nums : ∀ hs : List Int, NestedKey.depthAll (hs.map .num) ≤ 1
  | [] => by rw [List.map_nil]; unfold NestedKey.depthAll; omega
  | x :: r => by
    rw [List.map_cons]
    unfold NestedKey.depthAll
    have := depth_nums r
    have e : (NestedKey.num x).depth ≤ 1 := by unfold NestedKey.depth; omega
    omega
theorem nkey_is {H : Hp} {t qa : Addr} {hs : List Int} {n : Nat} (ht : H t = some (.tup [.ref qa, .int ((n : Nat) : Int)])) (hq : H qa = some (.tup (hs.map .int))) : NKey H (.ref t) (nkey hs n) := by
  refine ⟨⟨t, rfl⟩, .tup ht (.cons (.tup hq (nkvs_ints H hs)) (.cons (.int _) .nil)), ?_⟩
  unfold nkey
  simp only [NestedKey.depth, NestedKey.depthAll]
  have := depth_nums hs
  omega
/-- what is known: the ways of states and calls -/
def KnAt (K : PySem.W.Frag) (H : Hp) (v : Vlt) (kvs : List (NestedKey × V)) : Prop := ∀ (hs : List Int) (n : Nat) (x : V) (c : Str × Int), valV kvs (nkey hs n) = some x → v.calls[n]? = some c → ∃ (z : Addr) (ys : List V), x = .ref z ∧ SqL K H z ys ∧ WysAt K H ys (wyC v c hs)
theorem KnAt.hold {K : PySem.W.Frag} {H H' : Hp} (h : Hold H H') {v : Vlt} {kvs : List (NestedKey × V)} (k : KnAt K H v kvs) : KnAt K H' v kvs := fun hs n x c e hc => by
  obtain ⟨z, ys, e1, e2, e3⟩ := k hs n x c e hc
  exact ⟨z, ys, e1, h.sqL e2, h.wys e3⟩
theorem tot_red (L : Wt) (n : 0 < gcdW L) : tot (red L) ≤ tot L := by
  have e := tot_scl (gcdW L) (red L)
  rw [scl_red] at e
  rw [e]
  exact Nat.le_mul_of_pos_left _ n
/-- the weights that a row comes to, as whole numbers -/
noncomputable def rowC (v : Vlt) (f : List Int) (cs : List (Str × Int)) : Wt := rowW (cs.map (wyC v)) [(f, 1)]
theorem first_ok {v : Vlt} {f : List Int} (so : StateOk (v.cells.map (·.1)) f) : WOk (StateOk (v.cells.map (·.1))) [(f, 1)] :=
  ⟨List.nodup_cons.mpr ⟨(fun h => nomatch h), List.nodup_nil⟩, fun p h => by rw [List.mem_singleton.mp h]; exact Nat.one_pos, fun p h => by rw [List.mem_singleton.mp h]; exact so⟩
theorem ws_ok {v : Vlt} (g : VGood v) {cs : List (Str × Int)} (h : ∀ c ∈ cs, c ∈ v.calls) : ∀ W ∈ cs.map (wyC v), WyOk (StateOk (v.cells.map (·.1))) W := fun W hW => by
  obtain ⟨c, hc, rfl⟩ := List.mem_map.mp hW
  exact wyC_ok g (h c hc)
theorem rowC_ok {v : Vlt} (g : VGood v) {f : List Int} (so : StateOk (v.cells.map (·.1)) f) {cs : List (Str × Int)} (h : ∀ c ∈ cs, c ∈ v.calls) : WOk (StateOk (v.cells.map (·.1))) (rowC v f cs) := (first_ok so).row (ws_ok g h)
theorem rowC_ne {v : Vlt} (g : VGood v) {f : List Int} (so : StateOk (v.cells.map (·.1)) f) {cs : List (Str × Int)} (h : ∀ c ∈ cs, c ∈ v.calls) : rowC v f cs ≠ [] := row_ne (first_ok so) (ws_ok g h) (fun z => nomatch z)
theorem rowC_tot {v : Vlt} (g : VGood v) {f : List Int} (so : StateOk (v.cells.map (·.1)) f) {cs : List (Str × Int)} (h : ∀ c ∈ cs, c ∈ v.calls) : tot (rowC v f cs) = 16 ^ cs.length := by
  have z := tot_row' (first_ok so) (ws_ok g h)
  rw [List.length_map] at z
  have e : tot [(f, 1)] = 1 := rfl
  rw [e, Nat.mul_one] at z
  exact z
theorem rowC_len {v : Vlt} (g : VGood v) {M : Wt} (h : WOk (StateOk (v.cells.map (·.1))) M) : M.length ≤ 531441 := by
  refine h.len (by rw [List.length_map]; exact g.c1) fun s hs => ?_
  obtain ⟨c, hc, rfl⟩ := List.mem_map.mp hs
  exact (g.cs c hc).2.1
theorem first_so {v : Vlt} (g : VGood v) : StateOk (v.cells.map (·.1)) (v.cells.map (·.2)) := by
  refine ⟨by rw [List.length_map, List.length_map], fun i s h e1 e2 => ?_⟩
  rw [List.getElem?_map] at e1 e2
  obtain ⟨c, hc, rfl⟩ := Option.map_eq_some_iff.mp e1
  rw [hc] at e2
  cases (Option.some.inj e2)
  exact (g.cs c (List.mem_of_getElem? hc)).2.2
section
variable {P : Program} {w : World} {K : PySem.W.Frag} {mg : Str → Option Value} {base : Heap}
theorem pe_ngetP {X : Cx} {o i : Expr} {pos : Pos} {td ty : TE} (hP : X.prog = P) (hw : X.w = w) (hu : X.A.units + 64 < cLine) (ho : PE X o td) (hi : PE X i ty) (hs : NoSl i := by exact fun _ _ => rfl) : PE X (.Subscript o i pos) (tNGet P w td ty) := by
  subst hP hw
  exact pe_nget hu ho hi hs
/-- a row of numbers of calls -/
def NumsAt (v : Vlt) (ns : List Nat) (cs : List (Str × Int)) : Prop := ns.length = cs.length ∧ ∀ (i n : Nat), ns[i]? = some n → ∃ c, cs[i]? = some c ∧ v.calls[n]? = some c
def spBehind (K : PySem.W.Frag) : Sp := fun vs H Q _ => ∃ (p r : Addr) (v : Vlt) (ns : List Nat) (cs : List (Str × Int)), vs = [.ref p, .ref r] ∧ VaultAt K H p v ∧ VGood v ∧ H r = some (.lst (ns.map fun n => .int ((n : Nat) : Int))) ∧ NumsAt v ns cs ∧ cs.length ≤ 30 ∧
  ∀ (d : Addr) (H' : Hp), Same H H' → H d = none → H' d = some (.dT (WK (red (rowC v (v.cells.map (·.2)) cs)))) → Q (.ref d) H'
theorem ca_weights_behind (T : Txt w K mg) : Ca P w K mg base 14 "weights_behind" (spBehind K) := by
  refine ca_of (N := ["vault", "row", "moves", "weights", "known", "number", "state"]) (ps := ["vault", "row"]) T.f_weights_behind T.g_weights_behind ⟨rfl, rfl, rfl, by decide +kernel, rfl, by decide +kernel, by decide +kernel⟩ (fun _ _ _ _ _ _ us hl => match us, hl with | [_, _], _ => rfl)
    (fun vs H Q E h => by obtain ⟨p, r, v, ns, cs, rfl, hv, gd, hr', hn, hl, q⟩ := h; rfl) (fun cdv A outer s H vs Q E hr h => ?_)
  have nd : (["vault", "row", "moves", "weights", "known", "number", "state"] : List Str).Nodup := by decide +kernel
  obtain ⟨p, r, v, ns, cs, rfl, hv, gd, hr', hn, hl, q⟩ := h
  refine ⟨_, (pss_cons (ps_set (i := 2) nd rfl (.inl rfl) (pe_ma (ma_Moves T) hr (pa_cons (pv 0) pa_nil)))
      (pss_cons (ps_set (i := 3) nd rfl (.inl rfl) (pe_dispT (hu_of hr) (pe_me0 (me_Vault_first T) hr (pv 0)) pe_int))
      (pss_cons (ps_set (i := 4) nd rfl (.inr rfl) (pe_nnew))
      (pss_cons (ps_for PassesOwn.never rfl (pi_list (pv 1)) (pg_name (i := 5) nd rfl (.inr rfl)) (pss_cons (ps_lock (ps_for PassesOwn.never rfl (pi_keys (pv 3)) (pg_name (i := 6) nd rfl (.inl rfl)) (pss_one (ps_if (pt_cmp (pc_nnotin hr.units (pe_tup (pa_cons (pv 6) (pa_cons (pv 5) pa_nil))) (pv 4))) (pss_one (ps_nput hr.units (pv 4) (pe_tup (pa_cons (pv 6) (pa_cons (pv 5) pa_nil))) (pe_me (me_Moves_ways T) hr (pv 2) (pa_cons (pv 6) (pa_cons (pv 5) pa_nil))))) pss_nil))))
      (pss_one (ps_set (i := 3) nd rfl (.inl rfl) (pe_ca (ca_moved T) hr (pa_cons (pv 3) (pa_cons (pe_lock (pe_dcT (own := [("state", 6)]) (hu_of hr) rfl nd (pi_keys (pv 3)) (blkOk_by (N := ["vault", "row", "moves", "weights", "known", "number", "state"]) (sc := defScope s_weights_behind) (by decide +kernel)) (fun _ _ _ _ _ => pg_name (i := 6) nd rfl (.inl rfl)) (fun _ _ _ _ _ => pv 6) (fun _ _ _ _ _ => pe_ngetP (P := P) (w := w) rfl rfl hr.units (pv 4) (pe_tup (pa_cons (pv 6) (pa_cons (pv 5) pa_nil)))))) pa_nil)))))))
      (pss_one (ps_ret (pv 3))))))), ?_⟩
  have f0 := first_so gd
  obtain ⟨f, ef⟩ : ∃ f, f = v.cells.map (·.2) := ⟨_, rfl⟩
  rw [← ef] at f0 q
  refine ⟨_, rfl, fun m dxm hm hdx nem => ?_⟩
  have s2 : Same H (upd (upd H dxm (.own m)) m (.ins (He.ga K "Moves") dxm [])) := (same_new hdx).trans (same_new (by rw [upd_ne (Ne.symm nem)]; exact hm))
  refine ⟨m, dxm, p, v, rfl, upd_same, hv.same s2, gd, fun H1 b1 mv => ⟨rfl, ?_⟩⟩
  have s1 : Same H H1 := fun b o e => b1 _ _ (ne_of_none e hm) (s2 _ _ e)
  clear s2 b1
  intro wp0 nwp0
  have s3 : Same H1 (upd H1 wp0 (.dT [])) := same_new nwp0
  obtain ⟨dy, gs, e1, e2⟩ := (hv.same (s1.trans s3)).me "first"
  refine ⟨_, rfl, p, dy, gs, rfl, e1, e2, p, v, rfl, hv.same (s1.trans s3), gd.c1, fun fa H2 s4 hfa => ⟨s4 _ _ upd_same, fa, stK f, rfl, by rw [stK_v, ef]; exact hfa, ?_⟩⟩
  have s5 : Same H1 (upd H2 wp0 (.dT [(stK f, .int 1)])) := fun b o e => by rw [upd_ne (ne_of_none e nwp0)]; exact s4 _ _ (s3 _ _ e)
  have hw0 : upd H2 wp0 (.dT [(stK f, .int 1)]) wp0 = some (.dT (WK (red (rowC v f [])))) := by
    rw [upd_same]
    have : red (rowC v f []) = [(f, 1)] := by
      show [(f, 1 / Nat.gcd 0 1)] = _
      rw [Nat.gcd_zero_left]
    rw [this]
    rfl
  generalize upd H2 wp0 (.dT [(stK f, .int 1)]) = H3 at s5 hw0 ⊢
  clear s3 s4 hfa e1 e2
  intro kd H4 nkd s6 k6 nd6
  have s14 := s5.trans s6
  have nkd1 : H1 kd = none := none_of s5 nkd
  have hr1 := s1 _ _ hr'
  refine ⟨_, rfl, r, rfl, ⟨_, .of (s14 _ _ hr1)⟩, for_list (xs := ns.map fun n => V.int ((n : Nat) : Int)) (fun i σ' H' => ∃ x5 x6 wp kvs, σ' = [some (.ref p), some (.ref r), some (.ref m), some (.ref wp), some (.ref kd), x5, x6] ∧ Same H1 H' ∧ H1 wp = none ∧ H' wp = some (.dT (WK (red (rowC v f (cs.take i))))) ∧ NDat P w H' kd kvs ∧ KnAt K H' v kvs ∧ kvs.length ≤ 531441 * i) ⟨none, none, wp0, [], rfl, s14, nwp0, s6 _ _ hw0, nd6, (fun hs n x c e => by cases e), Nat.zero_le _⟩ (fun i σ' H' _ ⟨_, _, _, _, _, s, _⟩ => .of (s _ _ hr1)) ?_ ?_⟩
  · rintro i y σ' H5 hy ⟨x5, x6, wp, kvs, rfl, s15, nwp, hwp, hnd, hkn, hkl⟩
    rw [List.getElem?_map] at hy
    obtain ⟨n, hni, rfl⟩ := Option.map_eq_some_iff.mp hy
    obtain ⟨c, hci, hcn⟩ := hn.2 i n hni
    have li : i < cs.length := (List.getElem?_eq_some_iff.mp hci).1
    have hct : ∀ c ∈ cs.take i, c ∈ v.calls := fun c hc => by
      obtain ⟨j, hj, ej⟩ := List.mem_iff_getElem.mp (List.mem_of_mem_take hc)
      obtain ⟨k, hk⟩ : ∃ k, ns[j]? = some k := ⟨_, List.getElem?_eq_getElem (by rw [hn.1]; exact hj)⟩
      obtain ⟨c2, e1, e2⟩ := hn.2 j k hk
      rw [List.getElem?_eq_getElem hj, ej] at e1
      cases (Option.some.inj e1)
      exact List.mem_of_getElem? e2
    have okY := rowC_ok gd f0 hct
    have neY := rowC_ne gd f0 hct
    have totY := rowC_tot gd f0 hct
    obtain ⟨M, eM⟩ : ∃ M, M = red (rowC v f (cs.take i)) := ⟨_, rfl⟩
    have okM : WOk (StateOk (v.cells.map (·.1))) M := by rw [eM]; exact okY.red neY
    have lM := rowC_len gd okM
    have neM : M ≠ [] := by rw [eM]; exact fun z => neY (List.map_eq_nil_iff.mp z)
    have totM : tot M < 2 ^ 190 := by
      have z := tot_red _ (gcd_pos okY neY)
      rw [← eM, totY] at z
      refine Nat.lt_of_le_of_lt z ?_
      refine Nat.lt_of_le_of_lt (Nat.pow_le_pow_right (by decide) (show (cs.take i).length ≤ 30 from by rw [List.length_take]; omega)) (by decide)
    have hstep : red (stepW (wyC v c) M) = red (rowC v f (cs.take (i + 1))) := by
      rw [eM, red_step _ okY neY, take_more hci]
      show red (stepW _ (rowW _ _)) = red (rowW ((cs.take i ++ [c]).map (wyC v)) _)
      rw [List.map_append]
      exact congrArg red (row_snoc _ _ _).symm
    rw [← eM] at hwp
    have l1 := wk_len M
    have nk : kd ≠ wp := fun z => by
      obtain ⟨st, e⟩ := hnd.ex
      rw [z, hwp] at e
      cases e
    refine ⟨wp, _, hwp, True.intro, fun od => ?_⟩
    have hl0 : Hold H5 (upd H5 wp (.frz od (.dT (WK M)))) := Hold.ne (fun b hb => upd_ne hb) hwp (.inl ⟨_, rfl⟩)
    have sl0 : Same H1 (upd H5 wp (.frz od (.dT (WK M)))) := fun b o e => by rw [upd_ne (ne_of_none e nwp)]; exact s15 _ _ e
    refine ⟨_, rfl, wp, od, rfl, .inr ⟨WK M, upd_same, for_it (n := (WK M).length) walk_keysT (fun j σ' H' => ∃ x6 kvs, σ' = [some (.ref p), some (.ref r), some (.ref m), some (.ref wp), some (.ref kd), some (.int ((n : Nat) : Int)), x6] ∧ Same H1 H' ∧ H' wp = some (.frz od (.dT (WK M))) ∧ NDat P w H' kd kvs ∧ KnAt K H' v kvs ∧ kvs.length ≤ 531441 * i + j ∧ ∀ u ∈ M.take j, (valV kvs (nkey u.1 n)).isSome = true) ⟨x6, kvs, rfl, sl0, upd_same, hnd.imp hl0 (upd_ne nk), hkn.hold hl0, hkl, (fun u h => nomatch h)⟩ (fun j σ' H' _ ⟨_, _, _, _, e, _⟩ => e) ?_ ?_⟩⟩
    · rintro j x σ' H6 H7 hj ⟨x6, kvs, rfl, s16, e1, hnd, hkn, hkl, hall⟩ ⟨rfl, k, z, qa, hk, rfl, hq⟩
      obtain ⟨u, hu, rfl, rfl⟩ := wk_at hk
      have hum : u ∈ M := List.mem_of_getElem? hu
      rw [stK_v] at hq
      refine ⟨_, rfl, _, rfl, (by show 2 ≤ sizeLine; decide), fun t nt => ⟨_, rfl, ?_⟩⟩
      have sT := same_new (o := .tup [.ref qa, .int ((n : Nat) : Int)]) nt
      have fT : upd H7 t (.tup [.ref qa, .int ((n : Nat) : Int)]) t = some (.tup [.ref qa, .int ((n : Nat) : Int)]) := upd_same
      generalize upd H7 t (.tup [.ref qa, .int ((n : Nat) : Int)]) = H8 at sT fT ⊢
      have hnd8 := hnd.same sT
      have hkn8 := hkn.hold (Same.hold sT)
      refine ⟨kd, kvs, nkey u.1 n, rfl, hnd8, nkey_is fT (sT _ _ hq), ?_⟩
      have s18 := s16.trans sT
      have e8 := sT _ _ e1
      refine ⟨_, rfl, ?_⟩
      have okd : ∀ (kvs2 : List (NestedKey × V)), (∀ k, (valV kvs k).isSome = true → (valV kvs2 k).isSome = true) → (valV kvs2 (nkey u.1 n)).isSome = true → ∀ u' ∈ M.take (j + 1), (valV kvs2 (nkey u'.1 n)).isSome = true := fun kvs2 mo h u' hu' => by
        rw [take_more hu] at hu'
        rcases List.mem_append.mp hu' with h' | h'
        · exact mo _ (hall u' h')
        · rw [List.mem_singleton.mp h']
          exact h
      by_cases hin : (valV kvs (nkey u.1 n)).isSome = true
      · rw [hin]
        exact iteF ⟨_, kvs, rfl, s18, e8, hnd8, hkn8, by omega, okd kvs (fun _ h => h) hin⟩
      · have hno : valV kvs (nkey u.1 n) = none := by
          cases e : valV kvs (nkey u.1 n) with
          | none => rfl
          | some z => rw [e] at hin; exact absurd rfl hin
        rw [hno]
        obtain ⟨dxm2, sa, za, ys0, g1, g2, g3, g4, g5⟩ := mv.same s18
        refine iteT ⟨_, rfl, m, _, _, rfl, g1, mvf_ways .., _, rfl, _, rfl, m, qa, v, u.1, n, c, rfl, mv.same s18, gd, .of (sT _ _ hq), okM.st u hum, hcn, fun z ys H9 s9 nz hz hzw => ⟨_, rfl, _, rfl, _, rfl, (by show 2 ≤ sizeLine; decide), fun t2 nt2 => ?_⟩⟩
        have sT2 := same_new (o := .tup [.ref qa, .int ((n : Nat) : Int)]) nt2
        have fT2 : upd H9 t2 (.tup [.ref qa, .int ((n : Nat) : Int)]) t2 = some (.tup [.ref qa, .int ((n : Nat) : Int)]) := upd_same
        generalize upd H9 t2 (.tup [.ref qa, .int ((n : Nat) : Int)]) = H10 at sT2 fT2 ⊢
        have s810 := s9.trans sT2
        refine ⟨kd, kvs, nkey u.1 n, rfl, hnd8.same s810, nkey_is fT2 (s810 _ _ (sT _ _ hq)), by rw [sizeLine_eq]; omega, fun H11 k11 nd11 => ?_⟩
        obtain ⟨st, hst⟩ := (hnd8.same s810).ex
        have hh : Hold H10 H11 := Hold.ne k11 hst (.inr (.inr ⟨_, rfl⟩))
        have hko : ∀ b o, H1 b = some o → H11 b = some o := fun b o e => by
          rw [k11 b (ne_of_none e nkd1)]
          exact s810 _ _ (s18 _ _ e)
        refine ⟨_, _, rfl, hko, by rw [k11 wp (Ne.symm nk)]; exact s810 _ _ e8, nd11, fun hs n' x c' e hc' => ?_, by have := length_putK kvs (nkey u.1 n) (V.ref z); omega, okd _ (fun k h => by rw [valV_put]; split; rfl; exact h) (by rw [valV_put, if_pos rfl]; rfl)⟩
        rw [valV_put] at e
        by_cases ek : nkey hs n' = nkey u.1 n
        · rw [if_pos ek] at e
          cases (Option.some.inj e)
          obtain ⟨rfl, rfl⟩ := nkey_inj ek
          rw [hcn] at hc'
          cases (Option.some.inj hc')
          exact ⟨z, ys, rfl, hh.sqL (.of (sT2 _ _ hz)), hh.wys (wys_same sT2 hzw)⟩
        · rw [if_neg ek] at e
          exact ((hkn8.hold (Same.hold s810)).hold hh) hs n' x c' e hc'
    · rintro σ' H6 ⟨x6, kvs, rfl, s16, e1, hnd, hkn, hkl, hall⟩
      rw [l1] at hkl
      rw [l1, List.take_length] at hall
      refine ⟨e1, ?_⟩
      have hl1 : Hold H6 (upd H6 wp (.dT (WK M))) := Hold.ne (fun b hb => upd_ne hb) e1 (.inr (.inl ⟨_, _, rfl⟩))
      have sl1 : Same H1 (upd H6 wp (.dT (WK M))) := fun b o e => by rw [upd_ne (ne_of_none e nwp)]; exact s16 _ _ e
      have hw7 : upd H6 wp (.dT (WK M)) wp = some (.dT (WK M)) := upd_same
      have hnd7 := hnd.imp hl1 (upd_ne nk)
      have hkn7 := hkn.hold hl1
      show tSeq _ _ _ _ (upd H6 wp (.dT (WK M)))
      generalize upd H6 wp (.dT (WK M)) = H7 at sl1 hw7 hnd7 hkn7 ⊢
      refine ⟨_, rfl, wp, _, hw7, True.intro, fun od2 => ?_⟩
      refine ⟨_, rfl, wp, od2, rfl, .inr ⟨WK M, upd_same, fun D hD => ?_⟩⟩
      have hDp : D ≠ wp := fun e => by rw [e, upd_same] at hD; cases hD
      have nD : H7 D = none := by rw [upd_ne hDp] at hD; exact hD
      obtain ⟨st, hst⟩ := hnd7.ex
      have hold : ∀ {G : Hp}, (∀ b o, H7 b = some o → b ≠ wp → G b = some o) → Hold H7 G := fun h b o e a1 _ _ => h b o e fun z => by
        rw [z, hw7] at e
        cases (Option.some.inj e)
        exact a1 _ rfl
      refine it_any (n := (WK M).length) walk_keysT (fun j H' => ∃ kws, (∀ b o, H7 b = some o → b ≠ wp → H' b = some o) ∧ H' wp = some (.frz od2 (.dT (WK M))) ∧ H' D = some (.dT kws) ∧ kws.length ≤ j ∧ WyD K H' kws (wyC v c) (M.take j)) ⟨[], fun b o e c => by rw [upd_ne (ne_of_none e nD), upd_ne c]; exact e, by rw [upd_ne (Ne.symm hDp), upd_same], upd_same, Nat.le_refl 0, (fun u h => nomatch h)⟩ (fun j H' _ ⟨_, _, e, _⟩ => e) ?_ ?_
      · rintro j x H8 H9 hj ⟨kws, sm, e1, e2, lk, wd⟩ ⟨rfl, k, z, qa, hk, rfl, hq⟩
        obtain ⟨u, hu, rfl, rfl⟩ := wk_at hk
        have hum : u ∈ M := List.mem_of_getElem? hu
        have hq0 := hq
        rw [stK_v] at hq
        have h9 := hold sm
        have nd9 := hnd7.imp h9 ((sm _ _ hst nk).trans hst.symm)
        refine ⟨rfl, _, rfl, _, rfl, _, rfl, _, rfl, (by show 2 ≤ sizeLine; decide), fun t nt => ?_⟩
        have sT := same_new (o := .tup [.ref qa, .int ((n : Nat) : Int)]) nt
        have fT : upd H9 t (.tup [.ref qa, .int ((n : Nat) : Int)]) t = some (.tup [.ref qa, .int ((n : Nat) : Int)]) := upd_same
        have ntD : t ≠ D := Ne.symm (ne_of_none e2 nt)
        generalize upd H9 t (.tup [.ref qa, .int ((n : Nat) : Int)]) = G1 at sT fT ⊢
        obtain ⟨x, hx⟩ := Option.isSome_iff_exists.mp (hall u hum)
        obtain ⟨zl, ys, rfl, hzl, hzw⟩ := hkn7 u.1 n x c hx hcn
        have e2' := sT _ _ e2
        refine ⟨kd, kvs, nkey u.1 n, .ref zl, rfl, nd9.same sT, nkey_is fT (sT _ _ hq), hx, kws, stK u.1, qa, rfl, sT _ _ hq0, e2', by rw [sizeLine_eq]; rw [l1] at hj; omega, putK kws (stK u.1) (.ref zl), fun b o e cc => by rw [upd_ne (ne_of_none e nD)]; exact sT _ _ (sm _ _ e cc), by rw [upd_ne (Ne.symm hDp)]; exact sT _ _ e1, upd_same, by have := length_putK kws (stK u.1) (V.ref zl); omega, fun u' hu' => ?_⟩
        have hG : Hold G1 (upd G1 D (.dT (putK kws (stK u.1) (.ref zl)))) := Hold.ne (fun b hb => upd_ne hb) e2' (.inl ⟨_, rfl⟩)
        have hGT : Hold H9 (upd G1 D (.dT (putK kws (stK u.1) (.ref zl)))) := Hold.trans (Same.hold sT) hG
        rw [take_more hu] at hu'
        by_cases ek : stK u'.1 = stK u.1
        · refine ⟨zl, ys, by rw [valV_put, if_pos ek], hGT.sqL (h9.sqL hzl), ?_⟩
          rw [stK_inj ek]
          exact hGT.wys (h9.wys hzw)
        · rcases List.mem_append.mp hu' with h' | h'
          · obtain ⟨z2, ys2, g1, g2, g3⟩ := wd u' h'
            exact ⟨z2, ys2, by rw [valV_put, if_neg ek]; exact g1, hGT.sqL g2, hGT.wys g3⟩
          · exact absurd (by rw [List.mem_singleton.mp h']) ek
      · rintro H8 ⟨kws, sm, e1, e2, lk, wd⟩
        rw [l1, List.take_length] at wd
        have h8 := hold sm
        have h9 : Hold H8 (upd H8 wp (.dT (WK M))) := Hold.ne (fun b hb => upd_ne hb) e1 (.inr (.inl ⟨_, _, rfl⟩))
        have s79 : Same H7 (upd H8 wp (.dT (WK M))) := fun b o e => by
          by_cases cc : b = wp
          · rw [cc] at e ⊢
            rw [upd_same, ← hw7, e]
          · rw [upd_ne cc]
            exact sm _ _ e cc
        refine ⟨e1, wp, D, M, kws, wyC v c, StateOk (v.cells.map (·.1)), rfl, upd_same, by rw [upd_ne hDp]; exact e2, Ne.symm hDp, fun u hu => ?_, okM, wyC_ok gd (List.mem_of_getElem? hcn), neM, totM, fun L2 h => rowC_len gd h, fun d H10 s10 nd10 hd => ?_⟩
        · obtain ⟨z2, ys2, g1, g2, g3⟩ := wd u hu
          exact ⟨z2, ys2, g1, h9.sqL g2, h9.wys g3⟩
        · have s710 := s79.trans s10
          exact ⟨_, _, d, kvs, rfl, sl1.trans s710, none_of (sl1.trans s79) nd10, by rw [← hstep]; exact hd, hnd7.same s710, hkn7.hold (Same.hold s710), by omega⟩
  · rintro σ' H5 ⟨x5, x6, wp, kvs, rfl, s15, nwp, hwp, hnd, hkn, hkl⟩
    rw [List.length_map, hn.1, List.take_length] at hwp
    exact ⟨_, rfl, q wp H5 (s1.trans s15) (none_of s1 nwp) hwp⟩
theorem nums_of : ∀ (ys : List V) (R : Nat → Nat → Prop), (∀ (i : Nat) (y : V), ys[i]? = some y → ∃ n : Nat, y = .int ((n : Nat) : Int) ∧ R i n) → ∃ ns : List Nat, ys = ns.map (fun n => V.int ((n : Nat) : Int)) ∧ ∀ (i n : Nat), ns[i]? = some n → R i n
  | [], _, _ => ⟨[], rfl, fun i n e => by simp at e⟩
  | y :: ys, R, h => by
    obtain ⟨n, e, r⟩ := h 0 y rfl
    obtain ⟨ns, e2, h2⟩ := nums_of ys (fun i n => R (i + 1) n) fun i y e => h (i + 1) y e
    refine ⟨n :: ns, by rw [e, e2]; rfl, fun i m em => ?_⟩
    cases i with
    | zero =>
      cases (Option.some.inj em)
      exact r
    | succ i => exact h2 i m em
def spShare (K : PySem.W.Frag) : Sp := fun vs H Q _ => ∃ (p r : Addr) (v : Vlt) (xs : List V) (cs : List (Str × Int)), vs = [.ref p, .ref r] ∧ VaultAt K H p v ∧ VGood v ∧ SqL K H r xs ∧ RowIs H xs cs ∧ (∀ c ∈ cs, c ∈ v.calls) ∧ cs.length ≤ 30 ∧
  ∀ (d : Addr) (kvs : List (List Key × V)) (H' : Hp), Same H H' → H d = none → H' d = some (.dT kvs) → ShAt H' kvs (shr (rowC v (v.cells.map (·.2)) cs)) → Q (.ref d) H'
theorem ca_share (T : Txt w K mg) : Ca P w K mg base 15 "share" (spShare K) := by
  refine ca_of (N := ["vault", "row", "numbers", "call"]) (ps := ["vault", "row"]) T.f_share T.g_share ⟨rfl, rfl, rfl, by decide +kernel, rfl, by decide +kernel, by decide +kernel⟩ (fun _ _ _ _ _ _ us hl => match us, hl with | [_, _], _ => rfl)
    (fun vs H Q E h => by obtain ⟨p, r, v, xs, cs, rfl, hv, gd, hr', hrw, hc, hl, q⟩ := h; rfl) (fun cdv A outer s H vs Q E hr h => ?_)
  have nd : (["vault", "row", "numbers", "call"] : List Str).Nodup := by decide +kernel
  obtain ⟨p, r, v, xs, cs, rfl, hv, gd, hr', hrw, hc, hl, q⟩ := h
  refine ⟨_, (pss_cons (ps_set (i := 2) nd rfl (.inr rfl) (pe_ca (ca_call_numbers T) hr (pa_cons (pv 0) pa_nil)))
      (pss_cons (ps_expr (pe_ca (ca_check_row T) hr (pa_cons (pv 2) (pa_cons (pv 1) pa_nil))))
      (pss_one (ps_ret (pe_ca (ca_chances T) hr (pa_cons (pe_ca (ca_weights_behind T) hr (pa_cons (pv 0) (pa_cons (pe_lc (own := [("call", 3)]) (tt := tYes) rfl nd (pi_list (pv 1)) (blkOk_by (N := ["vault", "row", "numbers", "call"]) (sc := defScope s_share) (by decide +kernel)) (fun _ _ _ _ _ => pg_name (i := 3) nd rfl (.inl rfl)) (fun _ _ _ _ _ => pts_nil) (fun _ _ _ _ _ => pe_dget (hu_of hr) (pv 2) (pv 3) (fun _ _ => rfl))) pa_nil))) pa_nil)))))), ?_⟩
  refine ⟨_, rfl, p, v, rfl, hv, gd.ok, fun d H1 s1 hd => ?_⟩
  refine ⟨_, rfl, _, rfl, d, r, v, xs, cs, rfl, hd, gd.ok, s1.seq hr', hrw.same s1, hc, fun H2 s2 => ?_⟩
  have s12 := s1.trans s2
  have hd2 := s2 _ _ hd
  refine ⟨_, rfl, _, rfl, r, rfl, ⟨_, s12.seq hr'⟩, fun D hD => ?_⟩
  refine lc_out (n := xs.length) walk_list hD (by rw [hrw.1]; omega) (fun i y H => ∃ n : Nat, y = .int ((n : Nat) : Int) ∧ ∃ c, cs[i]? = some c ∧ v.calls[n]? = some c) (fun _ _ _ _ _ _ h => h) (fun H' s => s.seq (s12.seq hr')) (fun i x H' H2 N F hi s y k => ?_) (fun H' ys s hD' hl' hrr => ?_)
  · obtain ⟨rfl, ex⟩ := y
    obtain ⟨t, c, rfl, ec, ht⟩ := hrw.2 i x ex
    obtain ⟨j, hj, ej⟩ := List.mem_iff_getElem.mp (hc c (List.mem_of_getElem? ec))
    have hj' : v.calls[j]? = some c := by rw [List.getElem?_eq_getElem hj, ej]
    refine ⟨rfl, iteT ⟨_, rfl, _, rfl, d, .int ((j : Nat) : Int), rfl, ?_, k _ _ (Same.refl _) ⟨j, rfl, c, ec, hj'⟩⟩⟩
    rw [← numK_val (calls_nd gd.ok.nd) hj']
    exact DGet.t (s _ _ hd2) (k := ckey c) (s _ _ (s12 _ _ ht))
  · obtain ⟨ns, rfl, hns⟩ := nums_of ys _ fun i y e => hrr i y e
    have s3 := s12.trans s
    have ln : ns.length = cs.length := by rw [List.length_map] at hl'; rw [hl', hrw.1]
    refine ⟨p, D, v, ns, cs, rfl, hv.same s3, gd, hD', ⟨ln, hns⟩, hl, fun d2 H3 s4 nd2 hd3 => ?_⟩
    have f0 := first_so gd
    have okY := rowC_ok gd f0 hc
    have neY := rowC_ne gd f0 hc
    have totY := rowC_tot gd f0 hc
    have gp := gcd_pos okY neY
    refine ⟨d2, _, _, rfl, hd3, okY.red neY, fun z => neY (List.map_eq_nil_iff.mp z), ⟨rowC_len gd (okY.red neY), ?_⟩, fun d3 kvs H4 s5 nd3 hd4 hsh => q d3 kvs H4 (s3.trans (s4.trans s5)) (none_of (s3.trans s4) nd3) hd4 ?_⟩
    · have z := tot_red _ gp
      rw [totY] at z
      exact Nat.lt_of_le_of_lt z (Nat.lt_of_le_of_lt (Nat.pow_le_pow_right (by decide) hl) (by decide))
    · rw [← shr_red okY neY]
      exact hsh
end

end M

set_option Elab.async false
set_option linter.all false
set_option maxRecDepth 100000
set_option maxHeartbeats 2000000
namespace M
open PySem PySem.Spec PyProof.Rows L2

section
variable {P : Program} {w : World} {K : PySem.W.Frag} {mg : Str → Option Value} {base : Heap}
/-- the law's cells and deeds, of a good vault -/
structure LawV (K : PySem.W.Frag) (H : Hp) (ca da : Addr) (v : Vlt) : Prop where
  c : ∃ cxs, H ca = some (.lst cxs) ∧ DpAll K H cxs (v.cells.map cellD)
  d : ∃ dxs, H da = some (.lst dxs) ∧ DpAll K H dxs (v.deeds.map deedD)
  g : VGood v
  m : ∀ d ∈ v.deeds, mxs d.2.2 ≤ 200000
theorem LawV.same {H H' : Hp} {ca da : Addr} {v : Vlt} (s : Same H H') (l : LawV K H ca da v) : LawV K H' ca da v := by
  obtain ⟨⟨cxs, e1, e2⟩, ⟨dxs, e3, e4⟩, g, m⟩ := l
  exact ⟨⟨cxs, s _ _ e1, dps_same s e2⟩, ⟨dxs, s _ _ e3, dps_same s e4⟩, g, m⟩
def spWts (K : PySem.W.Frag) : Sp := fun vs H Q _ => ∃ (ca da ra : Addr) (xs : List V) (v : Vlt) (rcs : List (Str × Int)), vs = [.ref ca, .ref da, .ref ra] ∧ LawV K H ca da v ∧ SqL K H ra xs ∧ RowIs H xs rcs ∧ (∀ c ∈ rcs, c ∈ v.calls) ∧ rcs.length ≤ 30 ∧
  ∀ (z d : Addr) (H' : Hp), Same H H' → H' z = some (.tup [.ref d, .int ((16 ^ rcs.length : Nat) : Int)]) → H d = none → H' d = some (.dT (WK (rowC v (v.cells.map (·.2)) rcs))) → Q (.ref z) H'
theorem ca_l_weights (T : Txt w K mg) : Ca P w K mg base 26 "_law_weights" (spWts K) := by
  refine ca_of (N := ["_law_cells_here", "_law_deeds_here", "_law_row_here", "_law_cell", "_law_first", "_law_now", "_law_total", "_law_call_here", "_law_behind", "_law_state", "_law_falls", "_law_answer", "_law_after"]) (ps := ["_law_cells_here", "_law_deeds_here", "_law_row_here"]) T.f_l_weights T.g_law_weights ⟨rfl, rfl, rfl, by decide +kernel, rfl, by decide +kernel, by decide +kernel⟩ (fun _ _ _ _ _ _ us hl => match us, hl with | [_, _, _], _ => rfl)
    (fun vs H Q E h => by obtain ⟨ca, da, ra, xs, v, rcs, rfl, lv, hra, hrw, hc, hl, q⟩ := h; rfl) (fun cdv A outer s H vs Q E hr h => ?_)
  have nd : (["_law_cells_here", "_law_deeds_here", "_law_row_here", "_law_cell", "_law_first", "_law_now", "_law_total", "_law_call_here", "_law_behind", "_law_state", "_law_falls", "_law_answer", "_law_after"] : List Str).Nodup := by decide +kernel
  obtain ⟨ca, da, ra, xs, v, rcs, rfl, lv, hra, hrw, hc, hl, q⟩ := h
  refine ⟨_, (pss_cons (ps_set (i := 4) nd rfl (.inl rfl) (pe_tupleOf (by rfl) T.b_tuple (pe_lc (own := [("_law_cell", 3)]) (tt := tYes) rfl nd (pi_list (pv 0)) (blkOk_by (N := ["_law_cells_here", "_law_deeds_here", "_law_row_here", "_law_cell", "_law_first", "_law_now", "_law_total", "_law_call_here", "_law_behind", "_law_state", "_law_falls", "_law_answer", "_law_after"]) (sc := defScope s_l_weights) (by decide +kernel)) (fun _ _ _ _ _ => pg_name (i := 3) nd rfl (.inl rfl)) (fun _ _ _ _ _ => pts_nil) (fun _ _ _ _ _ => pe_ix (ix_tupK K rfl) (pv 3) pe_int (fun _ _ => rfl)))))
      (pss_cons (ps_set (i := 5) nd rfl (.inl rfl) (pe_dispT (hu_of hr) (pv 4) pe_int))
      (pss_cons (ps_set (i := 6) nd rfl (.inl rfl) pe_int)
      (pss_cons (ps_for PassesOwn.never rfl (pi_list (pv 2)) (pg_name (i := 7) nd rfl (.inl rfl)) (pss_cons (ps_set (i := 8) nd rfl (.inl rfl) (pe_dnewT))
      (pss_cons (ps_set (i := 6) nd rfl (.inl rfl) (pe_op op_mul (pv 6) pe_int))
      (pss_cons (ps_lock (ps_for PassesOwn.never rfl (pi_keys (pv 5)) (pg_name (i := 9) nd rfl (.inl rfl)) (pss_one (ps_for PassesOwn.never rfl (pi_list (pe_ca (ca_l_outs T) hr (pa_cons (pv 0) (pa_cons (pv 1) (pa_cons (pv 9) (pa_cons (pv 7) pa_nil)))))) (pg_three K 10 11 12 rfl rfl nd rfl rfl rfl (.inl rfl) (.inl rfl) (.inl rfl) (.inr rfl) (.inr rfl) (.inr rfl)) (pss_one (ps_dput (hu_of hr) (pv 8) (pv 12) (pe_op op_add (pe_dget2 (hu_of hr) (pv 8) (pv 12) pe_int ⟨rfl, rfl, rfl, rfl⟩) (pe_op op_mul (pe_dget (hu_of hr) (pv 5) (pv 9) (fun _ _ => rfl)) (pe_ix ix_list (pe_lst (pa_cons pe_int (pa_cons pe_int (pa_cons pe_int (pa_cons pe_int (pa_cons pe_int pa_nil)))))) (pe_callB call_len_seq (by rfl) T.b_len PySem.boot_len (pa_cons (pv 10) pa_nil)) (fun _ _ => rfl)))) rfl))))))
      (pss_one (ps_set (i := 5) nd rfl (.inl rfl) (pv 8)))))))
      (pss_one (ps_ret (pe_tup (pa_cons (pv 5) (pa_cons (pv 6) pa_nil))))))))), ?_⟩
  obtain ⟨⟨cxs, hcl, hcx⟩, ⟨dxs, hdl, hdx⟩, gd, hmx⟩ := id lv
  have lcx : cxs.length = v.cells.length := by rw [dps_len hcx, List.length_map]
  have l6 := gd.c1
  have f0 := first_so gd
  obtain ⟨f, ef⟩ : ∃ f, f = v.cells.map (·.2) := ⟨_, rfl⟩
  rw [← ef] at f0 q
  refine ⟨_, rfl, ca, rfl, ⟨_, .of hcl⟩, fun D0 nD0 => ?_⟩
  refine lc_out (n := cxs.length) walk_list nD0 (by omega) (fun i y H => ∃ c, v.cells[i]? = some c ∧ y = .int c.2) (fun _ _ _ _ _ _ h => h) (fun H' s => .of (s _ _ hcl)) (fun i x H' H2 N F hi s y k => ?_) (fun H1 zs s1 hD el hz => ?_)
  · obtain ⟨rfl, ex⟩ := y
    obtain ⟨dd, ed, hdd⟩ := dps_get hcx ex
    obtain ⟨cc, ec, rfl⟩ := get_mapA ed
    obtain ⟨t, x1, x2, rfl, ht, e1, e2⟩ := dp2 (dp_same s hdd)
    cases dp_int e2
    exact ⟨rfl, iteT ⟨_, rfl, _, _, _, _, rfl, rfl, ht, at1, k _ _ (Same.refl _) ⟨cc, ec, rfl⟩⟩⟩
  have em : zs = f.map V.int := by
    rw [ef, List.map_map]
    exact map_of (by omega) fun i y e => by
      obtain ⟨c, h1, h2⟩ := hz i y e
      exact ⟨c, h1, h2⟩
  subst em
  clear hz el
  refine .inl ⟨D0, _, rfl, .of hD, fun st nst => ?_⟩
  have s2 := same_new (o := .tup (f.map V.int)) nst
  have hst : upd H1 st (.tup (f.map V.int)) st = some (.tup (f.map V.int)) := upd_same
  generalize upd H1 st (.tup (f.map V.int)) = H2 at s2 hst ⊢
  have s02 := s1.trans s2
  intro w0 nw0
  have s3 : Same H2 (upd H2 w0 (.dT [])) := same_new nw0
  refine ⟨_, rfl, upd_same, st, stK f, rfl, by rw [stK_v]; exact s3 _ _ hst, ?_⟩
  have s4 : Same H2 (upd (upd H2 w0 (.dT [])) w0 (.dT [(stK f, .int 1)])) := fun b o e => by rw [upd_ne (ne_of_none e nw0)]; exact s3 _ _ e
  have hw0 : upd (upd H2 w0 (.dT [])) w0 (.dT [(stK f, .int 1)]) w0 = some (.dT (WK (rowC v f []))) := upd_same
  generalize upd (upd H2 w0 (.dT [])) w0 (.dT [(stK f, .int 1)]) = H3 at s4 hw0 ⊢
  have s03 := s02.trans s4
  have nw00 : H w0 = none := none_of s02 nw0
  clear s3 s4
  refine ⟨_, rfl, ra, rfl, ⟨_, s03.seq hra⟩, for_list (xs := xs) (fun i σ' H' => ∃ x3 x7 x8 x9 x10 x11 x12 wp, σ' = [some (.ref ca), some (.ref da), some (.ref ra), x3, some (.ref st), some (.ref wp), some (.int ((16 ^ i : Nat) : Int)), x7, x8, x9, x10, x11, x12] ∧ Same H H' ∧ H wp = none ∧ H' wp = some (.dT (WK (rowC v f (rcs.take i))))) ⟨none, none, none, none, none, none, none, w0, rfl, s03, nw00, hw0⟩ (fun i σ' H' _ ⟨_, _, _, _, _, _, _, _, _, s, _⟩ => s.seq hra) ?_ ?_⟩
  · rintro i y σ' H5 hy ⟨x3, x7, x8, x9, x10, x11, x12, wp, rfl, s05, nwp, hwp⟩
    obtain ⟨ta, c, rfl, hci, hta⟩ := hrw.2 i y hy
    have li : i < rcs.length := (List.getElem?_eq_some_iff.mp hci).1
    have hcm := hc c (List.mem_of_getElem? hci)
    have hct : ∀ c ∈ rcs.take i, c ∈ v.calls := fun c h => hc c (List.mem_of_mem_take h)
    have okM := rowC_ok gd f0 hct
    have wy := wyC_ok gd hcm
    obtain ⟨M, eM⟩ : ∃ M, M = rowC v f (rcs.take i) := ⟨_, rfl⟩
    rw [← eM] at hwp okM
    have hstep : stepW (wyC v c) M = rowC v f (rcs.take (i + 1)) := by
      rw [eM, take_more hci]
      show stepW _ (rowW _ _) = rowW ((rcs.take i ++ [c]).map (wyC v)) _
      rw [List.map_append]
      exact (row_snoc _ _ _).symm
    have l1 := wk_len M
    obtain ⟨d, hd, ed, a0, a1⟩ := calls_mem hcm
    have arg9 : ∀ hs, StateOk (v.cells.map (·.1)) hs → Able d.2.2 (v.cells.map (·.1)) hs c.2 := fun hs so => able_of gd hd ⟨a0, a1⟩ so
    intro D nD
    have s6 : Same H5 (upd H5 D (.dT [])) := same_new nD
    have eD : upd H5 D (.dT []) D = some (.dT (WK (wAll [] []))) := upd_same
    have nDp : D ≠ wp := Ne.symm (ne_of_none hwp nD)
    generalize upd H5 D (.dT []) = H6 at s6 eD ⊢
    refine ⟨_, rfl, _, _, rfl, rfl, .inr ⟨by decide, by decide⟩, ?_⟩
    refine ⟨wp, _, s6 _ _ hwp, True.intro, fun od => ?_⟩
    have bk : ∀ {G : Hp}, (∀ b o, H5 b = some o → b ≠ wp → G b = some o) → Same H5 (upd G wp (.dT (WK M))) := fun h b o e => by
      by_cases c : b = wp
      · subst c
        rw [upd_same, ← hwp, e]
      · rw [upd_ne c]
        exact h b o e c
    have bk0 : ∀ {G : Hp}, (∀ b o, H5 b = some o → b ≠ wp → G b = some o) → Same H G := fun h b o e => h _ _ (s05 _ _ e) (ne_of_none e nwp)
    refine ⟨_, rfl, wp, od, rfl, .inr ⟨WK M, upd_same, for_it (n := (WK M).length) walk_keysT (fun j σ' H' => ∃ x3 x9 x10 x11 x12, σ' = [some (.ref ca), some (.ref da), some (.ref ra), x3, some (.ref st), some (.ref wp), some (.int ((16 ^ (i + 1) : Nat) : Int)), some (.ref ta), some (.ref D), x9, x10, x11, x12] ∧ (∀ b o, H5 b = some o → b ≠ wp → H' b = some o) ∧ H' wp = some (.frz od (.dT (WK M))) ∧ H' D = some (.dT (WK (wAll [] (ctr (wyC v c) (M.take j)))))) ⟨x3, x9, x10, x11, x12, by rw [Nat.pow_succ, Int.natCast_mul]; rfl, fun b o e c => by rw [upd_ne c]; exact s6 _ _ e, upd_same, by rw [upd_ne nDp]; exact eD⟩ (fun j σ' H' _ ⟨_, _, _, _, _, _, _, e, _⟩ => e) ?_ ?_⟩⟩
    · rintro j x σ' H7 H8 hj ⟨x3, x9, x10, x11, x12, rfl, sm, e1, e2⟩ ⟨rfl, k, z, qa, hk, rfl, hq⟩
      obtain ⟨u, hu, rfl, rfl⟩ := wk_at hk
      have hum : u ∈ M := List.mem_of_getElem? hu
      have Su := okM.st u hum
      have pu := okM.po u hum
      have ab := arg9 u.1 Su
      have hq0 := hq
      rw [stK_v] at hq
      have s08 := bk0 sm
      have lu : u.1.length = v.cells.length := by have := Su.1; rw [List.length_map] at this; exact this.symm
      have hta8 : H8 ta = some (.tup [.str d.1, .int c.2]) := by rw [← ed]; exact s08 _ _ hta
      refine ⟨_, rfl, _, rfl, _, rfl, _, rfl, ca, da, qa, ta, cxs, dxs, v.cells, v.deeds, u.1, d, c.2, rfl, ⟨.of (s08 _ _ hcl), dps_same s08 hcx, .of (s08 _ _ hdl), dps_same s08 hdx, .of hq, hta8⟩, ⟨gd.nd, l6, gd.d1, hd, ab.mo, ab.ok, ab.cc, hmx d hd⟩, fun zl ys ws n H9 s9 nzl hzl hws tr _ _ _ => ?_⟩
      have ews : ws = wyC v c u.1 := by rw [wyC_of gd.nd hd ed.symm]; exact ab.one' tr
      subst ews
      have sm9 : ∀ b o, H5 b = some o → b ≠ wp → H9 b = some o := fun b o e cc => s9 _ _ (sm b o e cc)
      have okt : WOk (StateOk (v.cells.map (·.1))) (M.take j) := ⟨by rw [List.map_take]; exact okM.nd.sublist (List.take_sublist ..), fun t ht => okM.po t (List.mem_of_mem_take ht), fun t ht => okM.st t (List.mem_of_mem_take ht)⟩
      have oki : WOk (StateOk (v.cells.map (·.1))) (wAll [] (ctr (wyC v c) (M.take j))) := WOk.nil.all (ctr_ok okt wy)
      have hzH : H8 zl = none := nzl
      refine ⟨zl, rfl, ⟨_, .of hzl⟩, for_list (xs := ys) (fun j2 σ' H' => ∃ x3 x10 x11 x12, σ' = [some (.ref ca), some (.ref da), some (.ref ra), x3, some (.ref st), some (.ref wp), some (.int ((16 ^ (i + 1) : Nat) : Int)), some (.ref ta), some (.ref D), some (.ref qa), x10, x11, x12] ∧ (∀ b o, H9 b = some o → b ≠ D → H' b = some o) ∧ H' D = some (.dT (WK (wAll (wAll [] (ctr (wyC v c) (M.take j))) (((wyC v c u.1).take j2).map fun w => (w.2.2, u.2 * chn w.1)))))) ⟨x3, x10, x11, x12, rfl, fun b o e _ => e, s9 _ _ e2⟩ (fun j2 σ' H' _ ⟨_, _, _, _, _, s, _⟩ => .of (s _ _ hzl (Ne.symm (ne_of_none e2 nzl)))) ?_ ?_⟩
      · rintro j2 y2 σ' H10 hy2 ⟨x3, x10, x11, x12, rfl, sn, e3⟩
        obtain ⟨w1, hw1, tw, fc, sc, rfl, g1, g2, g3⟩ := wys_at hws hy2
        have hwm : w1 ∈ wyC v c u.1 := List.mem_of_getElem? hw1
        have hold : Hold H9 H10 := fun b o e a1 _ _ => sn b o e fun z => by
          rw [z, s9 _ _ e2] at e
          cases (Option.some.inj e)
          exact a1 _ rfl
        have g1' := hold.sqT g1
        have g2' := hold.sqT g2
        have g3' := hold.tup g3
        have l4 := wy.l4 _ Su _ hwm
        have e1' := sn _ _ (s9 _ _ e1) (Ne.symm nDp)
        have hq' := hold.tup (s9 _ _ hq0)
        have okj : WOk (StateOk (v.cells.map (·.1))) (wAll (wAll [] (ctr (wyC v c) (M.take j))) (((wyC v c u.1).take j2).map fun w => (w.2.2, u.2 * chn w.1))) := oki.all fun t ht => by
          obtain ⟨w0, hw0, rfl⟩ := List.mem_map.mp ht
          exact ⟨wy.st _ Su _ (List.mem_of_mem_take hw0), Nat.mul_pos pu (chn_pos _)⟩
        have lM := rowC_len gd okj
        refine ⟨tw, _, rfl, g1', rfl, _, _, rfl, _, _, rfl, _, _, rfl, ?_⟩
        refine ⟨rfl, _, rfl, D, rfl, .inr ⟨_, .inl e3⟩, _, rfl, _, .inr ⟨_, stK w1.2.2, sc, .inl e3, rfl, by rw [stK_v]; exact g3', rfl⟩, ?_⟩
        refine ⟨_, rfl, _, rfl, wp, _, rfl, .inr ⟨_, _, qa, .inr ⟨_, e1'⟩, rfl, hq', (wk_val okM.nd hum).symm⟩, (by show 5 ≤ sizeLine; decide), fun pl npl => ?_⟩
        have sP := same_new (o := .lst [.int 16, .int 8, .int 4, .int 2, .int 1]) npl
        have fP : upd H10 pl (.lst [.int 16, .int 8, .int 4, .int 2, .int 1]) pl = some (.lst [.int 16, .int 8, .int 4, .int 2, .int 1]) := upd_same
        generalize upd H10 pl (.lst [.int 16, .int 8, .int 4, .int 2, .int 1]) = H11 at sP fP ⊢
        have e3' := sP _ _ e3
        refine ⟨_, rfl, fc, _, rfl, .inr (same_t sP g2'), _, _, _, _, rfl, rfl, .of fP, by rw [List.length_map]; exact parts_at l4, _, _, rfl, rfl, .inr ⟨by have := chn_pos w1.1; omega, by have := chn_le w1.1; omega⟩, _, _, wk_get okj.nd _, rfl, _, rfl, _, rfl, D, _, rfl, .inr ⟨_, stK w1.2.2, sc, e3', rfl, by rw [stK_v]; exact sP _ _ g3', by rw [wk_len, sizeLine_eq]; omega, rfl⟩, _, _, _, _, rfl, fun b o e cc => by rw [upd_ne cc]; exact sP _ _ (sn _ _ e cc), ?_⟩
        rw [upd_same, take_more hw1, List.map_append]
        show _ = some (HO.dT (WK (wAll _ (_ ++ [(w1.2.2, u.2 * chn w1.1)]))))
        rw [wAll_snoc, ← wk_put okj.nd]
        rfl
      · rintro σ' H10 ⟨x3, x10, x11, x12, rfl, sn, e3⟩
        have nD5 : H5 D = none := nD
        refine ⟨_, _, _, _, _, rfl, fun b o e cc => sn _ _ (sm9 _ _ e cc) (ne_of_none e nD5), sn _ _ (s9 _ _ e1) (Ne.symm nDp), ?_⟩
        rw [e3, wys_len hws, List.take_length, take_more hu, ctr_app, wAll_app]
        show _ = some (HO.dT (WK (wAll _ (((wyC v c u.1).map fun w => (w.2.2, u.2 * chn w.1)) ++ []))))
        rw [List.append_nil]
    · rintro σ' H7 ⟨x3, x9, x10, x11, x12, rfl, sm, e1, e2⟩
      rw [l1, List.take_length] at e2
      have s57 := bk sm
      refine ⟨e1, _, rfl, _, _, _, _, _, _, _, D, rfl, s05.trans s57, none_of s05 nD, ?_⟩
      rw [upd_ne nDp, e2, ← hstep]
      rfl
  · rintro σ' H5 ⟨x3, x7, x8, x9, x10, x11, x12, wp, rfl, s05, nwp, hwp⟩
    rw [hrw.1, List.take_length] at hwp
    refine ⟨_, rfl, _, rfl, (by show 2 ≤ sizeLine; decide), fun z nz => ?_⟩
    have sz := same_new (o := .tup [.ref wp, .int ((16 ^ xs.length : Nat) : Int)]) nz
    refine q z wp _ (s05.trans sz) ?_ nwp (sz _ _ hwp)
    rw [upd_same, hrw.1]
end

end M

set_option Elab.async false
set_option linter.all false
set_option maxRecDepth 100000
set_option maxHeartbeats 2000000
namespace M
open PySem PySem.Spec PyProof.Rows L2

/-! ### the law's check of a share -/
theorem fr_facts {w k : Nat} (h0 : 0 < w) (h1 : w ≤ 16 ^ k) : (1 ≤ (fr w (16 ^ k)).1 ∧ (fr w (16 ^ k)).1 ≤ 16 ^ k) ∧ (1 ≤ (fr w (16 ^ k)).2 ∧ (fr w (16 ^ k)).2 ≤ 16 ^ k) ∧ (fr w (16 ^ k)).1 * 16 ^ k = w * (fr w (16 ^ k)).2 ∧ 16 ^ k % (fr w (16 ^ k)).2 = 0 ∧ ((fr w (16 ^ k)).2 = 1 ∨ (fr w (16 ^ k)).1 % 2 = 1) := by
  have np : 0 < 16 ^ k := Nat.pow_pos (by decide)
  unfold fr
  generalize eN : 16 ^ k = N at h1 np
  have gp : 0 < Nat.gcd w N := Nat.gcd_pos_of_pos_left _ h0
  have dw := Nat.gcd_dvd_left w N
  have dn := Nat.gcd_dvd_right w N
  have ew := Nat.mul_div_cancel' dw
  have en := Nat.mul_div_cancel' dn
  have cp : Nat.Coprime (w / Nat.gcd w N) (N / Nat.gcd w N) := Nat.coprime_div_gcd_div_gcd gp
  refine ⟨⟨Nat.div_pos (Nat.le_of_dvd h0 dw) gp, Nat.le_trans (Nat.div_le_self ..) h1⟩, ⟨Nat.div_pos (Nat.le_of_dvd np dn) gp, Nat.div_le_self ..⟩, ?_, ?_, ?_⟩
  · dsimp only
    generalize w / Nat.gcd w N = a at ew ⊢
    generalize N / Nat.gcd w N = n at en ⊢
    generalize Nat.gcd w N = g at ew en ⊢
    rw [← ew, ← en, Nat.mul_assoc, Nat.mul_left_comm]
  · exact Nat.mod_eq_zero_of_dvd ⟨Nat.gcd w N, by rw [Nat.mul_comm]; exact en.symm⟩
  · by_cases c : w / Nat.gcd w N % 2 = 1
    · exact .inr c
    · refine .inl ?_
      have d2 : 2 ∣ w / Nat.gcd w N := Nat.dvd_of_mod_eq_zero (by omega)
      have c2 : Nat.Coprime (N / Nat.gcd w N) 2 := (Nat.Coprime.coprime_dvd_left d2 cp).symm
      have e2 : N = 2 ^ (4 * k) := by rw [← eN, show (16 : Nat) = 2 ^ 4 from rfl, ← Nat.pow_mul]
      have dN : N / Nat.gcd w N ∣ 2 ^ (4 * k) := by
        rw [← e2]
        exact ⟨Nat.gcd w N, by rw [Nat.mul_comm]; exact en.symm⟩
      exact (c2.pow_right (4 * k)).eq_one_of_dvd dN
section
variable {P : Program} {w : World} {K : PySem.W.Frag} {mg : Str → Option Value} {base : Heap}
def spGoodI : Sp := fun vs H Q _ => ∃ i a b : Int, vs = [.int i, .int a, .int b] ∧ a ≤ i ∧ i ≤ b ∧ Q (.bl true) H
theorem ca_l_good_int (T : Txt w K mg) : Ca P w K mg base 1 "_law_good_int" (spGoodI) := by
  refine ca_of (N := ["_law_thing", "_law_least", "_law_greatest"]) (ps := ["_law_thing", "_law_least", "_law_greatest"]) T.f_l_good_int T.g_law_good_int ⟨rfl, rfl, rfl, by decide +kernel, rfl, by decide +kernel, by decide +kernel⟩ (fun _ _ _ _ _ _ us hl => match us, hl with | [_, _, _], _ => rfl)
    (fun vs H Q E h => by obtain ⟨i, a, b, rfl, h1, h2, q⟩ := h; rfl) (fun cdv A outer s H vs Q E hr h => ?_)
  have nd : (["_law_thing", "_law_least", "_law_greatest"] : List Str).Nodup := by decide +kernel
  obtain ⟨i, a, b, rfl, h1, h2, q⟩ := h
  refine ⟨_, (pss_one (ps_ret (pe_and (pe_is .int T.b_isinstance (pv 0) T.b_int boot_int) (pe_and (pe_not (pe_is .bool T.b_isinstance (pv 0) T.b_bool boot_bool)) (pe_one (pe_chain op_le op_le (pv 1) (pv 0) (pv 2))))))), ?_⟩
  refine ⟨_, rfl, _, _, rfl, .int i, _, rfl, iteT ⟨_, rfl, _, _, rfl, .int i, _, rfl, _, rfl, iteT ⟨_, rfl, _, rfl, _, _, rfl, rfl, _, rfl, ?_⟩⟩⟩
  rw [decide_eq_true h1]
  refine iteT ⟨_, rfl, _, _, rfl, rfl, ?_⟩
  dsimp only
  rw [decide_eq_true h2]
  exact q
def spGoodIs (K : PySem.W.Frag) : Sp := fun vs H Q _ => ∃ (b : Addr) (hs : List Int), vs = [.ref b] ∧ SqT K H b (hs.map .int) ∧ (∀ h ∈ hs, 0 ≤ h ∧ h ≤ 8) ∧ Q (.bl true) H
theorem ca_l_good_ints (T : Txt w K mg) : Ca P w K mg base 2 "_law_good_ints" (spGoodIs K) := by
  refine ca_of (N := ["_law_state", "_law_held"]) (ps := ["_law_state"]) T.f_l_good_ints T.g_law_good_ints ⟨rfl, rfl, rfl, by decide +kernel, rfl, by decide +kernel, by decide +kernel⟩ (fun _ _ _ _ _ _ us hl => match us, hl with | [_], _ => rfl)
    (fun vs H Q E h => by obtain ⟨b, hs, rfl, hb, h8, q⟩ := h; rfl) (fun cdv A outer s H vs Q E hr h => ?_)
  have nd : (["_law_state", "_law_held"] : List Str).Nodup := by decide +kernel
  obtain ⟨b, hs, rfl, hb, h8, q⟩ := h
  refine ⟨_, (pss_cons (ps_for PassesOwn.never rfl (pi_tup (pv 0)) (pg_name (i := 1) nd rfl (.inl rfl)) (pss_one (ps_if (pt_not (pt_val (pe_ca (ca_l_good_int T) hr (pa_cons (pv 1) (pa_cons pe_int (pa_cons pe_int pa_nil)))))) (pss_one (ps_ret pe_bl)) pss_nil)))
      (pss_one (ps_ret pe_bl))), ?_⟩
  refine ⟨_, rfl, b, rfl, ⟨_, hb⟩, for_tup (xs := hs.map V.int) (fun i σ' H' => ∃ x, σ' = [some (.ref b), x] ∧ H' = H) ⟨none, rfl, rfl⟩ (fun i σ' H' _ ⟨_, _, e⟩ => e ▸ hb) ?_ ?_⟩
  · rintro i x σ' H' hx ⟨_, rfl, rfl⟩
    obtain ⟨f, hf, rfl⟩ := get_map hx
    have := h8 f (List.mem_of_getElem? hf)
    exact ⟨_, rfl, f, 0, 8, rfl, this.1, this.2, _, rfl, iteF ⟨_, rfl, rfl⟩⟩
  · rintro σ' H' ⟨_, rfl, rfl⟩
    exact q
def spFraction (K : PySem.W.Frag) : Sp := fun vs H Q _ => ∃ (b : Addr) (wt k : Nat), vs = [.ref b, .int ((wt : Nat) : Int), .int ((16 ^ k : Nat) : Int)] ∧ SqT K H b [.int (((fr wt (16 ^ k)).1 : Nat) : Int), .int (((fr wt (16 ^ k)).2 : Nat) : Int)] ∧ 0 < wt ∧ wt ≤ 16 ^ k ∧ k ≤ 15 ∧ Q (.bl true) H
theorem ca_l_fraction (T : Txt w K mg) : Ca P w K mg base 2 "_law_fraction" (spFraction K) := by
  refine ca_of (N := ["_law_told", "_law_weight", "_law_total"]) (ps := ["_law_told", "_law_weight", "_law_total"]) T.f_l_fraction T.g_law_fraction ⟨rfl, rfl, rfl, by decide +kernel, rfl, by decide +kernel, by decide +kernel⟩ (fun _ _ _ _ _ _ us hl => match us, hl with | [_, _, _], _ => rfl)
    (fun vs H Q E h => by obtain ⟨b, wt, k, rfl, hb, h0, h1, hk, q⟩ := h; rfl) (fun cdv A outer s H vs Q E hr h => ?_)
  have nd : (["_law_told", "_law_weight", "_law_total"] : List Str).Nodup := by decide +kernel
  obtain ⟨b, wt, k, rfl, hb, h0, h1, hk, q⟩ := h
  refine ⟨_, (pss_cons (ps_if (PW.pt (pw_or (pt_not (pt_val (pe_is .tuple T.b_isinstance (pv 0) T.b_tuple boot_tuple))) (pw_or (pt_cmpR op_ne (pe_callB call_len_seq (by rfl) T.b_len PySem.boot_len (pa_cons (pv 0) pa_nil)) pe_int (nomark _)) (pw_or1 (pt_not (pt_val (pe_ca (ca_l_good_int T) hr (pa_cons (pe_ix ix_tup (pv 0) pe_int (fun _ _ => rfl)) (pa_cons pe_int (pa_cons (pv 2) pa_nil)))))))))) (pss_one (ps_ret pe_bl)) pss_nil)
      (pss_cons (ps_if (PW.pt (pw_or (pt_not (pt_val (pe_ca (ca_l_good_int T) hr (pa_cons (pe_ix ix_tup (pv 0) pe_int (fun _ _ => rfl)) (pa_cons pe_int (pa_cons (pv 2) pa_nil)))))) (pw_or1 (pt_cmpR op_ne (pe_op op_mul (pe_ix ix_tup (pv 0) pe_int (fun _ _ => rfl)) (pv 2)) (pe_op op_mul (pv 1) (pe_ix ix_tup (pv 0) pe_int (fun _ _ => rfl))) (nomark _))))) (pss_one (ps_ret pe_bl)) pss_nil)
      (pss_cons (ps_if (pt_cmpR op_ne (pe_op op_mod (pe_callTy call_int1 (by rfl) T.b_int boot_int (pa_cons (pv 2) pa_nil)) (pe_ix ix_tup (pv 0) pe_int (fun _ _ => rfl))) pe_int (nomark _)) (pss_one (ps_ret pe_bl)) pss_nil)
      (pss_one (ps_ret (pe_or (pe_cmpR op_eq (pe_ix ix_tup (pv 0) pe_int (fun _ _ => rfl)) pe_int (nomark _)) (pe_one (pe_cmpR op_eq (pe_op op_mod (pe_callTy call_int1 (by rfl) T.b_int boot_int (pa_cons (pe_ix ix_tup (pv 0) pe_int (fun _ _ => rfl)) pa_nil)) pe_int) pe_int (nomark _))))))))), ?_⟩
  obtain ⟨⟨a1, a2⟩, ⟨n1, n2⟩, e1, e2, e3⟩ := fr_facts h0 h1
  generalize (fr wt (16 ^ k)).1 = a at hb a1 a2 e1 e3
  generalize (fr wt (16 ^ k)).2 = n at hb n1 n2 e1 e2 e3
  have l64 : 16 ^ k < 2 ^ 64 := Nat.lt_of_le_of_lt (Nat.pow_le_pow_right (by decide) hk) (by decide)
  generalize eN : 16 ^ k = N at a2 n2 e1 e2 h1 l64 ⊢
  refine ⟨_, rfl, _, _, rfl, .tuple hb, _, rfl, iteF ⟨_, rfl, b, _, rfl, .inr hb, rfl, _, rfl, iteF ⟨_, rfl, _, _, _, _, rfl, rfl, hb, at0, _, rfl, (a : Nat), 1, (N : Nat), rfl, by omega, by omega, _, rfl, iteF ?_⟩⟩⟩
  refine ⟨_, rfl, _, _, _, _, rfl, rfl, hb, at1, _, rfl, (n : Nat), 1, (N : Nat), rfl, by omega, by omega, _, rfl, iteF ?_⟩
  refine ⟨_, rfl, _, _, _, _, rfl, rfl, hb, at0, _, rfl, _, _, rfl, rfl, .inr ⟨by omega, by omega⟩, _, rfl, _, rfl, _, _, _, _, rfl, rfl, hb, at1, _, _, rfl, rfl, .inr ⟨by omega, by omega⟩, rfl, _, rfl, ?_⟩
  rw [decide_eq_true (show V.int (((a : Nat) : Int) * ((N : Nat) : Int)) = V.int (((wt : Nat) : Int) * ((n : Nat) : Int)) from by rw [← Int.natCast_mul, ← Int.natCast_mul, e1])]
  refine iteF ⟨_, rfl, .inl ⟨_, rfl, _, rfl, _, _, _, _, rfl, rfl, hb, at1, _, _, rfl, rfl, (by omega : (0 : Int) < ((n : Nat) : Int)), rfl, _, rfl, ?_⟩⟩
  rw [decide_eq_true (show V.int (((N : Nat) : Int) % ((n : Nat) : Int)) = V.int 0 from by rw [← Int.natCast_emod, e2]; rfl)]
  refine iteF ⟨_, rfl, _, _, _, _, rfl, rfl, hb, at1, rfl, _, rfl, ?_⟩
  by_cases c : n = 1
  · rw [decide_eq_true (show V.int ((n : Nat) : Int) = V.int 1 from by rw [c]; rfl)]
    exact iteT q
  · rw [decide_eq_false (show ¬ V.int ((n : Nat) : Int) = V.int 1 from fun z => by injection z with z; omega)]
    refine iteF ⟨_, rfl, _, _, _, _, rfl, rfl, hb, at0, .inl ⟨_, rfl, _, _, rfl, rfl, (by decide : (0 : Int) < 2), rfl, ?_⟩⟩
    rw [decide_eq_true (show V.int (((a : Nat) : Int) % 2) = V.int 1 from by congr 1; omega)]
    exact q
end

end M

set_option Elab.async false
set_option linter.all false
set_option maxRecDepth 100000
set_option maxHeartbeats 2000000
namespace M
open PySem PySem.Spec PyProof.Rows L2

section
variable {P : Program} {w : World} {K : PySem.W.Frag} {mg : Str → Option Value} {base : Heap}
def spRight (K : PySem.W.Frag) : Sp := fun vs H Q _ => ∃ (t nw : Addr) (kvs : List (List Key × V)) (L : Wt) (k : Nat) (sides : List Int), vs = [.ref t, .ref nw, .int ((16 ^ k : Nat) : Int)] ∧ H t = some (.dT kvs) ∧ ShAt H kvs (shr L) ∧ H nw = some (.dT (WK L)) ∧ t ≠ nw ∧ WOk (StateOk sides) L ∧ (∀ s ∈ sides, s ≤ 9) ∧ tot L = 16 ^ k ∧ k ≤ 15 ∧ Q (.bl true) H
theorem ca_l_right (T : Txt w K mg) : Ca P w K mg base 3 "_law_right" (spRight K) := by
  refine ca_of (N := ["_law_told", "_law_now", "_law_total", "_law_state"]) (ps := ["_law_told", "_law_now", "_law_total"]) T.f_l_right T.g_law_right ⟨rfl, rfl, rfl, by decide +kernel, rfl, by decide +kernel, by decide +kernel⟩ (fun _ _ _ _ _ _ us hl => match us, hl with | [_, _, _], _ => rfl)
    (fun vs H Q E h => by obtain ⟨t, nw, kvs, L, k, sides, rfl, ht, hsh, hn, ne, ok, s9, htot, hk, q⟩ := h; rfl) (fun cdv A outer s H vs Q E hr h => ?_)
  have nd : (["_law_told", "_law_now", "_law_total", "_law_state"] : List Str).Nodup := by decide +kernel
  obtain ⟨t, nw, kvs, L, k, sides, rfl, ht, hsh, hn, ne, ok, s9, htot, hk, q⟩ := h
  refine ⟨_, (pss_cons (ps_if (PW.pt (pw_or (pt_not (pt_val (pe_is .dict T.b_isinstance (pv 0) T.b_dict boot_dict))) (pw_or1 (pt_cmpR op_ne (pe_callB call_len_dT (by rfl) T.b_len PySem.boot_len (pa_cons (pv 0) pa_nil)) (pe_callB call_len_dT (by rfl) T.b_len PySem.boot_len (pa_cons (pv 1) pa_nil)) (nomark _))))) (pss_one (ps_ret pe_bl)) pss_nil)
      (pss_cons (ps_lock (ps_for PassesOwn.never rfl (pi_keys (pv 0)) (pg_name (i := 3) nd rfl (.inl rfl)) (pss_cons (ps_if (PW.pt (pw_or (pt_not (pt_val (pe_is .tuple T.b_isinstance (pv 3) T.b_tuple boot_tuple))) (pw_or1 (pt_cmp (pc_dnotin (hu_of hr) (pv 3) (pv 1)))))) (pss_one (ps_ret pe_bl)) pss_nil)
      (pss_one (ps_if (PW.pt (pw_or (pt_not (pt_val (pe_ca (ca_l_good_ints T) hr (pa_cons (pv 3) pa_nil)))) (pw_or1 (pt_not (pt_val (pe_ca (ca_l_fraction T) hr (pa_cons (pe_dget (hu_of hr) (pv 0) (pv 3) (fun _ _ => rfl)) (pa_cons (pe_dget (hu_of hr) (pv 1) (pv 3) (fun _ _ => rfl)) (pa_cons (pv 2) pa_nil))))))))) (pss_one (ps_ret pe_bl)) pss_nil)))))
      (pss_one (ps_ret pe_bl)))), ?_⟩
  have lk : kvs.length = L.length := by rw [hsh.len]; exact List.length_map ..
  refine ⟨_, rfl, _, _, rfl, .dict (.base (.dT ht)), _, rfl, iteF ⟨_, rfl, t, _, rfl, ht, _, rfl, nw, _, rfl, hn, rfl, _, rfl, ?_⟩⟩
  rw [decide_eq_true (show V.int ((kvs.length : Nat) : Int) = V.int (((WK L).length : Nat) : Int) from by rw [wk_len, lk])]
  refine iteF ⟨t, _, ht, True.intro, fun od => ?_⟩
  have hn1 : upd H t (.frz od (.dT kvs)) nw = some (.dT (WK L)) := by rw [upd_ne (Ne.symm ne)]; exact hn
  have sh1 : ShAt (upd H t (.frz od (.dT kvs))) kvs (shr L) := hsh.imp fun a xs e => by rw [upd_ne (ne_of e ht fun j => nomatch j)]; exact e
  have back : upd (upd H t (.frz od (.dT kvs))) t (.dT kvs) = H := by rw [upd_upd, upd_id ht]
  have nds : ((shr L).map (·.1)).Nodup := by
    show ((L.map _).map _).Nodup
    rw [List.map_map]
    exact ok.nd
  refine ⟨_, rfl, t, od, rfl, .inr ⟨kvs, upd_same, for_it (n := kvs.length) walk_keysT (fun i σ' H' => ∃ x, σ' = [some (.ref t), some (.ref nw), some (.int ((16 ^ k : Nat) : Int)), x] ∧ H' = upd H t (.frz od (.dT kvs))) ⟨none, rfl, rfl⟩ (fun i σ' H' _ ⟨_, _, e⟩ => by rw [e, upd_same]) ?_ ?_⟩⟩
  · rintro i x σ' H' H2 hi ⟨_, rfl, rfl⟩ ⟨rfl, kk, v, qa, hkv, rfl, hq⟩
    obtain ⟨qq, hqq, rfl, _⟩ := sh1.at hkv
    have hqq' : (L.map fun p => (p.1, fr p.2 (tot L)))[i]? = some qq := hqq
    rw [List.getElem?_map] at hqq'
    obtain ⟨u, hu, rfl⟩ := Option.map_eq_some_iff.mp hqq'
    have hum : u ∈ L := List.mem_of_getElem? hu
    obtain ⟨b, hb1, hb2⟩ := sh1.val nds (List.mem_of_getElem? hqq)
    rw [htot] at hb2
    have hq0 := hq
    rw [stK_v] at hq
    have so := ok.st u hum
    have g1 : DGet (upd H t (.frz od (.dT kvs))) nw (.ref qa) (some (.int ((u.2 : Nat) : Int))) := .inr ⟨_, _, qa, .inl hn1, rfl, hq0, (wk_val ok.nd hum).symm⟩
    refine ⟨_, rfl, _, _, rfl, .tuple (.of hq), _, rfl, iteF ⟨_, rfl, _, rfl, nw, _, rfl, g1, _, rfl, iteF ?_⟩⟩
    refine ⟨_, rfl, qa, u.1, rfl, .of hq, fun h hh => ?_, _, rfl, iteF ?_⟩
    · obtain ⟨j, hj, ej⟩ := List.mem_iff_getElem.mp hh
      have hj2 : j < sides.length := by rw [so.1]; exact hj
      have := so.2 j _ h (List.getElem?_eq_getElem hj2) (by rw [List.getElem?_eq_getElem hj, ej])
      have := s9 _ (List.getElem_mem hj2)
      omega
    refine ⟨_, rfl, _, rfl, t, .ref b, rfl, .inr ⟨_, _, qa, .inr ⟨_, upd_same⟩, rfl, hq0, hb1.symm⟩, _, rfl, _, rfl, nw, _, rfl, g1, _, rfl, b, u.2, k, rfl, .of hb2, ok.po u hum, by rw [← htot]; exact le_tot hum, hk, _, rfl, iteF ⟨_, rfl, rfl⟩⟩
  · rintro σ' H' ⟨x, rfl, rfl⟩
    refine ⟨upd_same, ?_⟩
    dsimp only
    rw [back]
    exact q
theorem fr_up {w k m : Nat} (h0 : 0 < w) : (fr w (16 ^ k)).1 * (16 ^ (k + m) / (fr w (16 ^ k)).2) = w * 16 ^ m := by
  have np : 0 < 16 ^ k := Nat.pow_pos (by decide)
  unfold fr
  rw [Nat.pow_add]
  generalize 16 ^ k = N at np
  have gp : 0 < Nat.gcd w N := Nat.gcd_pos_of_pos_left _ h0
  have ew := Nat.mul_div_cancel' (Nat.gcd_dvd_left w N)
  have en := Nat.mul_div_cancel' (Nat.gcd_dvd_right w N)
  have n0 : 0 < N / Nat.gcd w N := Nat.div_pos (Nat.le_of_dvd np (Nat.gcd_dvd_right w N)) gp
  dsimp only
  generalize w / Nat.gcd w N = a at ew ⊢
  generalize N / Nat.gcd w N = n at en n0 ⊢
  generalize Nat.gcd w N = g at ew en ⊢
  rw [← ew, ← en, show g * n * 16 ^ m = n * (g * 16 ^ m) from by rw [Nat.mul_comm g n, Nat.mul_assoc], Nat.mul_div_cancel_left _ n0, Nat.mul_left_comm, Nat.mul_assoc]
theorem wyC_begun {v : Vlt} {hs : List Int} (so : StateOk (v.cells.map (·.1)) hs) (c : Str × Int) : wyC ⟨begunC v hs, v.deeds⟩ c = wyC v c := by
  funext s
  unfold wyC
  rw [show ((⟨begunC v hs, v.deeds⟩ : Vlt).cells.map (·.1)) = v.cells.map (·.1) from begunC_fst so]
theorem rowC_begun {v : Vlt} {hs : List Int} (so : StateOk (v.cells.map (·.1)) hs) (cs : List (Str × Int)) : rowC ⟨begunC v hs, v.deeds⟩ ((⟨begunC v hs, v.deeds⟩ : Vlt).cells.map (·.2)) cs = rowC v hs cs := by
  unfold rowC
  rw [show ((⟨begunC v hs, v.deeds⟩ : Vlt).cells.map (·.2)) = hs from begunC_snd so]
  congr 1
  exact List.map_congr_left fun c _ => wyC_begun so c
theorem mixC_snoc (c : Nat) (L : Wt) (u : List Int × Nat) (G : List Int → Wt) : mixC c (L ++ [u]) G = mixC c L G ++ (G u.1).map fun q => (q.1, u.2 * q.2 * c) := by
  unfold mixC
  rw [List.flatMap_append]
  congr 1
  exact List.append_nil _
def spMixed (K : PySem.W.Frag) : Sp := fun vs H Q _ => ∃ (p r1 r2 : Addr) (v : Vlt) (xs1 xs2 : List V) (c1 c2 : List (Str × Int)), vs = [.ref p, .ref r1, .ref r2, .int ((16 ^ (c1.length + c2.length) : Nat) : Int)] ∧ VaultAt K H p v ∧ VGood v ∧ SqL K H r1 xs1 ∧ RowIs H xs1 c1 ∧ SqL K H r2 xs2 ∧ RowIs H xs2 c2 ∧ (∀ c ∈ c1, c ∈ v.calls) ∧ (∀ c ∈ c2, c ∈ v.calls) ∧ c1.length + c2.length ≤ 15 ∧
  ∀ (d : Addr) (H' : Hp), Same H H' → H d = none → H' d = some (.dT (WK (wAll [] (mixC (16 ^ (c1.length + c2.length)) (rowC v (v.cells.map (·.2)) c1) fun s => rowC v s c2)))) → Q (.ref d) H'
theorem ca_l_mixed (T : Txt w K mg) : Ca P w K mg base 56 "_law_mixed" (spMixed K) := by
  refine ca_of (N := ["_law_vault", "_law_first", "_law_second", "_law_total", "_law_mixed_here", "_law_ahead", "_law_state", "_law_weight", "_law_behind", "_law_after"]) (ps := ["_law_vault", "_law_first", "_law_second", "_law_total"]) T.f_l_mixed T.g_law_mixed ⟨rfl, rfl, rfl, by decide +kernel, rfl, by decide +kernel, by decide +kernel⟩ (fun _ _ _ _ _ _ us hl => match us, hl with | [_, _, _, _], _ => rfl)
    (fun vs H Q E h => by obtain ⟨p, r1, r2, v, xs1, xs2, c1, c2, rfl, hv, gd, hr1, hw1, hr2, hw2, hc1, hc2, hl, q⟩ := h; rfl) (fun cdv A outer s H vs Q E hr h => ?_)
  have nd : (["_law_vault", "_law_first", "_law_second", "_law_total", "_law_mixed_here", "_law_ahead", "_law_state", "_law_weight", "_law_behind", "_law_after"] : List Str).Nodup := by decide +kernel
  obtain ⟨p, r1, r2, v, xs1, xs2, c1, c2, rfl, hv, gd, hr1, hw1, hr2, hw2, hc1, hc2, hl, q⟩ := h
  refine ⟨_, (pss_cons (ps_set (i := 4) nd rfl (.inl rfl) (pe_dnewT))
      (pss_cons (ps_set (i := 5) nd rfl (.inl rfl) (pe_ca (ca_share T) hr (pa_cons (pv 0) (pa_cons (pe_callTy call_list_of (by rfl) T.b_list boot_list (pa_cons (pv 1) pa_nil)) pa_nil))))
      (pss_cons (ps_lock (ps_for PassesOwn.never rfl (pi_keys (pv 5)) (pg_name (i := 6) nd rfl (.inl rfl)) (pss_cons (ps_set (i := 7) nd rfl (.inl rfl) (pe_op op_mul (pe_ix ix_tup (pe_dget (hu_of hr) (pv 5) (pv 6) (fun _ _ => rfl)) pe_int (fun _ _ => rfl)) (pe_op op_fdivW (pv 3) (pe_ix ix_tup (pe_dget (hu_of hr) (pv 5) (pv 6) (fun _ _ => rfl)) pe_int (fun _ _ => rfl)))))
      (pss_cons (ps_set (i := 8) nd rfl (.inl rfl) (pe_ca (ca_share T) hr (pa_cons (pe_ca (ca_begun T) hr (pa_cons (pv 0) (pa_cons (pv 6) pa_nil))) (pa_cons (pe_callTy call_list_of (by rfl) T.b_list boot_list (pa_cons (pv 2) pa_nil)) pa_nil))))
      (pss_one (ps_lock (ps_for PassesOwn.never rfl (pi_keys (pv 8)) (pg_name (i := 9) nd rfl (.inl rfl)) (pss_one (ps_dput (hu_of hr) (pv 4) (pv 9) (pe_op op_add (pe_dget2 (hu_of hr) (pv 4) (pv 9) pe_int ⟨rfl, rfl, rfl, rfl⟩) (pe_op op_mul (pe_op op_mul (pv 7) (pe_ix ix_tup (pe_dget (hu_of hr) (pv 8) (pv 9) (fun _ _ => rfl)) pe_int (fun _ _ => rfl))) (pe_op op_fdivW (pv 3) (pe_ix ix_tup (pe_dget (hu_of hr) (pv 8) (pv 9) (fun _ _ => rfl)) pe_int (fun _ _ => rfl))))) rfl)))))))))
      (pss_one (ps_ret (pv 4)))))), ?_⟩
  intro D nD
  have s1 : Same H (upd H D (.dT [])) := same_new nD
  have eD : upd H D (.dT []) D = some (.dT (WK (wAll [] []))) := upd_same
  generalize upd H D (.dT []) = H1 at s1 eD ⊢
  refine ⟨_, rfl, _, rfl, r1, xs1, rfl, .inl (s1.seq hr1), fun l1 nl1 => ?_⟩
  have s2 : Same H1 (upd H1 l1 (.lst xs1)) := same_new nl1
  have f2 : upd H1 l1 (.lst xs1) l1 = some (.lst xs1) := upd_same
  generalize upd H1 l1 (.lst xs1) = H2 at s2 f2 ⊢
  have s02 := s1.trans s2
  refine ⟨p, l1, v, xs1, c1, rfl, hv.same s02, gd, .of f2, hw1.same s02, hc1, by omega, fun A0 kvs1 H3 s3 nA hA hsh1 => ?_⟩
  have f0 := first_so gd
  generalize v.cells.map (·.2) = f at f0 hsh1 q ⊢
  have okL := rowC_ok gd f0 hc1
  have totL := rowC_tot gd f0 hc1
  obtain ⟨L1, eL⟩ : ∃ L1, L1 = rowC v f c1 := ⟨_, rfl⟩
  rw [← eL] at hsh1 okL totL q
  obtain ⟨N, eN⟩ : ∃ N, N = 16 ^ (c1.length + c2.length) := ⟨_, rfl⟩
  rw [← eN] at q ⊢
  have np : 0 < N := by rw [eN]; exact Nat.pow_pos (by decide)
  have n64 : N < 2 ^ 64 := by rw [eN]; exact Nat.lt_of_le_of_lt (Nat.pow_le_pow_right (by decide) hl) (by decide)
  have s03 := s02.trans s3
  have nA0 : H A0 = none := none_of s02 nA
  have eD3 := s3 _ _ (s2 _ _ eD)
  have nDA : D ≠ A0 := ne_of_none (s2 _ _ eD) nA
  have lk1 : kvs1.length = L1.length := by rw [hsh1.len]; exact List.length_map ..
  have hold3 : ∀ {G : Hp}, (∀ b o, H3 b = some o → b ≠ A0 → b ≠ D → G b = some o) → Hold H3 G := fun h b o e a1 _ _ => h b o e (fun z => by
    rw [z, hA] at e
    cases (Option.some.inj e)
    exact a1 _ rfl) (fun z => by
    rw [z, eD3] at e
    cases (Option.some.inj e)
    exact a1 _ rfl)
  have same0 : ∀ {G : Hp}, (∀ b o, H3 b = some o → b ≠ A0 → b ≠ D → G b = some o) → Same H G := fun h b o e => h b o (s03 _ _ e) (ne_of_none e nA0) (ne_of_none e nD)
  have nds1 : ((shr L1).map (·.1)).Nodup := by
    show ((L1.map _).map _).Nodup
    rw [List.map_map]
    exact okL.nd
  have posM : ∀ (G : Wt) (w0 : Nat), 0 < w0 → WOk (StateOk (v.cells.map (·.1))) G → ∀ t ∈ G.map (fun q => (q.1, w0 * q.2 * N)), StateOk (v.cells.map (·.1)) t.1 ∧ 0 < t.2 := fun G w0 h0 hG t ht => by
    obtain ⟨q0, hq0, rfl⟩ := List.mem_map.mp ht
    exact ⟨hG.st q0 hq0, Nat.mul_pos (Nat.mul_pos h0 (hG.po q0 hq0)) np⟩
  have okMix : ∀ X : Wt, WOk (StateOk (v.cells.map (·.1))) X → WOk (StateOk (v.cells.map (·.1))) (wAll [] (mixC N X fun s => rowC v s c2)) := fun X hX => WOk.nil.all fun t ht => by
    obtain ⟨u0, hu0, ht⟩ := List.mem_flatMap.mp ht
    exact posM _ u0.2 (hX.po _ hu0) (rowC_ok gd (hX.st _ hu0) hc2) t ht
  refine ⟨A0, _, hA, True.intro, fun od => ?_⟩
  refine ⟨_, rfl, A0, od, rfl, .inr ⟨kvs1, upd_same, for_it (n := kvs1.length) walk_keysT (fun i σ' H' => ∃ x6 x7 x8 x9, σ' = [some (.ref p), some (.ref r1), some (.ref r2), some (.int ((N : Nat) : Int)), some (.ref D), some (.ref A0), x6, x7, x8, x9] ∧ (∀ b o, H3 b = some o → b ≠ A0 → b ≠ D → H' b = some o) ∧ H' A0 = some (.frz od (.dT kvs1)) ∧ H' D = some (.dT (WK (wAll [] (mixC N (L1.take i) fun s => rowC v s c2))))) ⟨none, none, none, none, by rw [eN]; rfl, fun b o e h1 _ => by rw [upd_ne h1]; exact e, upd_same, by rw [upd_ne nDA]; exact eD3⟩ (fun i σ' H' _ ⟨_, _, _, _, _, _, e, _⟩ => e) ?_ ?_⟩⟩
  · rintro i x σ' H4 H4' hi ⟨x6, x7, x8, x9, rfl, sm, e1, e2⟩ ⟨rfl, kk, vv, qa, hkv, rfl, hq⟩
    obtain ⟨qq, hqq, rfl, _⟩ := hsh1.at hkv
    have hqq' : (L1.map fun p => (p.1, fr p.2 (tot L1)))[i]? = some qq := hqq
    rw [List.getElem?_map] at hqq'
    obtain ⟨u, hu, rfl⟩ := Option.map_eq_some_iff.mp hqq'
    have hum : u ∈ L1 := List.mem_of_getElem? hu
    obtain ⟨b, hb1, hb2⟩ := hsh1.val nds1 (List.mem_of_getElem? hqq)
    have hb3 := (hold3 sm).tup hb2
    rw [totL] at hb3
    have so := okL.st u hum
    have pu := okL.po u hum
    have hq0 := hq
    rw [stK_v] at hq
    have s04 := same0 sm
    have ffu := fr_facts (k := c1.length) pu (by rw [← totL]; exact le_tot hum)
    have upu := fr_up (k := c1.length) (m := c2.length) pu
    rw [← eN] at upu
    have l116 : 16 ^ c1.length ≤ N := by rw [eN]; exact Nat.pow_le_pow_right (by decide) (Nat.le_add_right ..)
    have g1 : DGet H4' A0 (.ref qa) (some (.ref b)) := .inr ⟨_, _, qa, .inr ⟨_, e1⟩, rfl, hq0, hb1.symm⟩
    have hb3' : H4' b = some (.tup [.int (((fr u.2 (16 ^ c1.length)).1 : Nat) : Int), .int (((fr u.2 (16 ^ c1.length)).2 : Nat) : Int)]) := hb3
    generalize (fr u.2 (16 ^ c1.length)).1 = a0 at hb3' ffu upu
    generalize (fr u.2 (16 ^ c1.length)).2 = a1 at hb3' ffu upu
    obtain ⟨⟨a01, a02⟩, ⟨a11, a12⟩, _⟩ := ffu
    refine ⟨_, rfl, _, rfl, A0, .ref b, rfl, g1, _, _, _, _, rfl, rfl, .of hb3', at0, _, rfl, _, rfl, _, rfl, A0, .ref b, rfl, g1, _, _, _, _, rfl, rfl, .of hb3', at1, _, _, rfl, rfl, div_w a11 (by omega), _, _, rfl, rfl, .inl ⟨by omega, by omega⟩, ?_⟩
    have ew : V.int (((a0 : Nat) : Int) * (((N : Nat) : Int) / ((a1 : Nat) : Int))) = V.int ((u.2 * 16 ^ c2.length : Nat) : Int) := by rw [← upu]; rfl
    dsimp only
    rw [ew]
    refine ⟨_, rfl, _, rfl, p, qa, v, u.1, rfl, hv.same s04, gd, .of hq, so, fun X H5 s5 nX hvX => ?_⟩
    have s05 := s04.trans s5
    refine ⟨_, rfl, r2, xs2, rfl, .inl (s05.seq hr2), fun l2 nl2 => ?_⟩
    have s6 : Same H5 (upd H5 l2 (.lst xs2)) := same_new nl2
    have f6 : upd H5 l2 (.lst xs2) l2 = some (.lst xs2) := upd_same
    generalize upd H5 l2 (.lst xs2) = H6 at s6 f6 ⊢
    have s06 := s05.trans s6
    refine ⟨X, l2, ⟨begunC v u.1, v.deeds⟩, xs2, c2, rfl, hvX.same s6, begun_good gd so, .of f6, hw2.same s06, hc2, by omega, fun B kvs2 H7 s7 nB hB hsh2 => ?_⟩
    rw [rowC_begun so] at hsh2
    have okL2 := rowC_ok gd so hc2
    have totL2 := rowC_tot gd so hc2
    obtain ⟨L2, eL2⟩ : ∃ L2, L2 = rowC v u.1 c2 := ⟨_, rfl⟩
    rw [← eL2] at hsh2 okL2 totL2
    have s46 := s5.trans s6
    have s47 := s46.trans s7
    have e1' := s47 _ _ e1
    have e2' := s47 _ _ e2
    have nBD : D ≠ B := ne_of_none (s46 _ _ e2) nB
    have nBA : A0 ≠ B := ne_of_none (s46 _ _ e1) nB
    have nB4 : H4' B = none := none_of s46 nB
    have lk2 : kvs2.length = L2.length := by rw [hsh2.len]; exact List.length_map ..
    have nds2 : ((shr L2).map (·.1)).Nodup := by
      show ((L2.map _).map _).Nodup
      rw [List.map_map]
      exact okL2.nd
    have hold7 : ∀ {G : Hp}, (∀ b o, H7 b = some o → b ≠ B → b ≠ D → G b = some o) → Hold H7 G := fun h b o e a1 _ _ => h b o e (fun z => by
      rw [z, hB] at e
      cases (Option.some.inj e)
      exact a1 _ rfl) (fun z => by
      rw [z, e2'] at e
      cases (Option.some.inj e)
      exact a1 _ rfl)
    have okt : WOk (StateOk (v.cells.map (·.1))) (L1.take i) := ⟨by rw [List.map_take]; exact okL.nd.sublist (List.take_sublist ..), fun t ht => okL.po t (List.mem_of_mem_take ht), fun t ht => okL.st t (List.mem_of_mem_take ht)⟩
    have oki := okMix _ okt
    refine ⟨B, _, hB, True.intro, fun od2 => ?_⟩
    refine ⟨_, rfl, B, od2, rfl, .inr ⟨kvs2, upd_same, for_it (n := kvs2.length) walk_keysT (fun j σ' H' => ∃ x9, σ' = [some (.ref p), some (.ref r1), some (.ref r2), some (.int ((N : Nat) : Int)), some (.ref D), some (.ref A0), some (.ref qa), some (.int ((u.2 * 16 ^ c2.length : Nat) : Int)), some (.ref B), x9] ∧ (∀ b o, H7 b = some o → b ≠ B → b ≠ D → H' b = some o) ∧ H' B = some (.frz od2 (.dT kvs2)) ∧ H' D = some (.dT (WK (wAll (wAll [] (mixC N (L1.take i) fun s => rowC v s c2)) ((L2.take j).map fun q => (q.1, u.2 * q.2 * N)))))) ⟨x9, rfl, fun b o e h1 _ => by rw [upd_ne h1]; exact e, upd_same, by rw [upd_ne nBD]; exact e2'⟩ (fun j σ' H' _ ⟨_, _, _, e, _⟩ => e) ?_ ?_⟩⟩
    · rintro j x σ' H8 H8' hj ⟨x9, rfl, sn, e3, e4⟩ ⟨rfl, kk, vv, qb, hkv2, rfl, hqb⟩
      obtain ⟨qq, hqq2, rfl, _⟩ := hsh2.at hkv2
      have hqq2' : (L2.map fun p => (p.1, fr p.2 (tot L2)))[j]? = some qq := hqq2
      rw [List.getElem?_map] at hqq2'
      obtain ⟨u2, hu2, rfl⟩ := Option.map_eq_some_iff.mp hqq2'
      have hum2 : u2 ∈ L2 := List.mem_of_getElem? hu2
      obtain ⟨b2, hb4, hb5⟩ := hsh2.val nds2 (List.mem_of_getElem? hqq2)
      have hb6 := (hold7 sn).tup hb5
      rw [totL2] at hb6
      have pu2 := okL2.po u2 hum2
      have ffu2 := fr_facts (k := c2.length) pu2 (by rw [← totL2]; exact le_tot hum2)
      have upu2 := fr_up (k := c2.length) (m := c1.length) pu2
      rw [Nat.add_comm c2.length c1.length, ← eN] at upu2
      have l216 : 16 ^ c2.length ≤ N := by rw [eN]; exact Nat.pow_le_pow_right (by decide) (Nat.le_add_left ..)
      have g2 : DGet H8' B (.ref qb) (some (.ref b2)) := .inr ⟨_, _, qb, .inr ⟨_, e3⟩, rfl, hqb, hb4.symm⟩
      have hb6' : H8' b2 = some (.tup [.int (((fr u2.2 (16 ^ c2.length)).1 : Nat) : Int), .int (((fr u2.2 (16 ^ c2.length)).2 : Nat) : Int)]) := hb6
      generalize (fr u2.2 (16 ^ c2.length)).1 = b0 at hb6' ffu2 upu2
      generalize (fr u2.2 (16 ^ c2.length)).2 = b1 at hb6' ffu2 upu2
      obtain ⟨⟨b01, b02⟩, ⟨b11, b12⟩, _⟩ := ffu2
      have okj : WOk (StateOk (v.cells.map (·.1))) (wAll (wAll [] (mixC N (L1.take i) fun s => rowC v s c2)) ((L2.take j).map fun q => (q.1, u.2 * q.2 * N))) := oki.all fun t ht => posM L2 u.2 pu okL2 t (by
        obtain ⟨q0, hq0, rfl⟩ := List.mem_map.mp ht
        exact List.mem_map.mpr ⟨q0, List.mem_of_mem_take hq0, rfl⟩)
      have lM := rowC_len gd okj
      have ld : N / b1 ≤ N := Nat.div_le_self ..
      have cd : ((N : Nat) : Int) / ((b1 : Nat) : Int) = ((N / b1 : Nat) : Int) := rfl
      refine ⟨_, rfl, D, rfl, .inr ⟨_, .inl e4⟩, _, rfl, _, .inr ⟨_, stK u2.1, qb, .inl e4, rfl, hqb, rfl⟩, ?_⟩
      refine ⟨_, rfl, _, rfl, _, rfl, B, .ref b2, rfl, g2, _, _, _, _, rfl, rfl, .of hb6', at0, _, _, rfl, rfl, .inr ⟨by omega, by omega⟩, _, rfl, _, rfl, _, rfl, B, .ref b2, rfl, g2, _, _, _, _, rfl, rfl, .of hb6', at1, _, _, rfl, rfl, div_w b11 (by omega), _, _, rfl, rfl, .inr ⟨by rw [cd]; generalize N / b1 = y at ld ⊢; omega, by rw [cd]; generalize N / b1 = y at ld ⊢; omega⟩, _, _, wk_get okj.nd _, rfl, _, rfl, _, rfl, D, _, rfl, .inr ⟨_, stK u2.1, qb, e4, rfl, hqb, by rw [wk_len, sizeLine_eq]; omega, rfl⟩, _, rfl, fun b o e h1 h2 => by rw [upd_ne h2]; exact sn _ _ e h1 h2, by rw [upd_ne (Ne.symm nBD)]; exact e3, ?_⟩
      rw [upd_same, take_more hu2, List.map_append]
      show _ = some (HO.dT (WK (wAll _ (_ ++ [(u2.1, u.2 * u2.2 * N)]))))
      have ea : u.2 * 16 ^ c2.length * b0 * (N / b1) = u.2 * u2.2 * N := by
        rw [Nat.mul_assoc, upu2, eN, Nat.pow_add, Nat.mul_comm (16 ^ c1.length), Nat.mul_assoc, Nat.mul_assoc, Nat.mul_left_comm (16 ^ c2.length)]
      rw [wAll_snoc, ← wk_put okj.nd, ← ea]
      rfl
    · rintro σ' H8 ⟨x9, rfl, sn, e3, e4⟩
      rw [lk2, List.take_length] at e4
      refine ⟨e3, _, _, _, _, rfl, fun b o e h1 h2 => ?_, ?_, ?_⟩
      · have e' := sm _ _ e h1 h2
        have nb : b ≠ B := ne_of_none e' nB4
        rw [upd_ne nb]
        exact sn _ _ (s47 _ _ e') nb h2
      · rw [upd_ne nBA]
        exact sn _ _ e1' nBA (Ne.symm nDA)
      · rw [upd_ne nBD, e4, take_more hu, mixC_snoc, wAll_app, eL2]
  · rintro σ' H4 ⟨x6, x7, x8, x9, rfl, sm, e1, e2⟩
    rw [lk1, List.take_length] at e2
    refine ⟨e1, _, rfl, q D _ (fun b o e => ?_) nD ?_⟩
    · have nb := ne_of_none e nA0
      rw [upd_ne nb]
      exact same0 sm _ _ e
    · rw [upd_ne nDA]
      exact e2
end

end M

set_option Elab.async false
set_option linter.all false
set_option maxRecDepth 100000
set_option maxHeartbeats 2000000
namespace M
open PySem PySem.Spec PyProof.Rows L2

theorem cutV_take {xs : List V} {m : Nat} (h : m ≤ xs.length) : cutV xs none (some ((m : Nat) : Int)) = xs.take m := by
  unfold cutV
  rw [HT.sIx_nat, HT.sIx_none, Nat.min_eq_left h]
  rfl
theorem cutV_drop {xs : List V} {m : Nat} (h : m ≤ xs.length) : cutV xs (some ((m : Nat) : Int)) none = xs.drop m := by
  unfold cutV
  rw [HT.sIx_nat, HT.sIx_none, Nat.min_eq_left h]
  exact List.take_of_length_le (by rw [List.length_drop]; exact Nat.le_refl _)
theorem eqv_calls : ∀ cs : List (Str × Int), PyData.eqvAll (cs.map callD) (cs.map callD) = true
  | [] => by rw [List.map_nil, PyData.eqvAll]
  | c :: cs => by
    rw [List.map_cons, PyData.eqvAll, eqv_calls cs, Bool.and_true]
    unfold callD
    simp [PyData.eqv, PyData.eqvAll]
theorem lay_calls : ∀ cs : List (Str × Int), (∀ c ∈ cs, NameOk c.1) → PyData.canLayAll0 (cs.map callD) = true ∧ PyData.depthAll (cs.map callD) ≤ 1
  | [], _ => ⟨by rw [List.map_nil, PyData.canLayAll0], by rw [List.map_nil, PyData.depthAll]; exact Nat.zero_le _⟩
  | c :: cs, h => by
    obtain ⟨h1, h2⟩ := lay_calls cs fun d hd => h d (List.mem_cons_of_mem _ hd)
    have n := (h c List.mem_cons_self).2.2
    have so : PyData.strOk c.1 = true := by
      unfold PyData.strOk
      rw [Array.all_eq_true_iff_forall_mem]
      intro x hx
      have := n x (Array.mem_toList_iff.mpr hx)
      exact decide_eq_true (by omega)
    refine ⟨?_, ?_⟩
    · rw [List.map_cons, PyData.canLayAll0, h1, Bool.and_true]
      simp [callD, PyData.canLay0, PyData.canLayAll0, so]
    · rw [List.map_cons, PyData.depthAll]
      have : (callD c).depth ≤ 1 := by simp [callD, PyData.depth, PyData.depthAll]
      exact Nat.max_le.mpr ⟨this, h2⟩
theorem shaped_calls {cs : List (Str × Int)} (h : ∀ c ∈ cs, NameOk c.1) : SeqAt.shaped (.list (cs.map callD)) = true := by
  obtain ⟨h1, h2⟩ := lay_calls cs h
  unfold SeqAt.shaped
  rw [Bool.and_eq_true]
  refine ⟨by rw [PyData.canLay0]; exact h1, decide_eq_true ?_⟩
  rw [PyData.depth]
  omega
theorem rows_of {H : Hp} {ks : List (Str × Int)} : ∀ {ys : List V}, (∀ (i : Nat) (y : V), ys[i]? = some y → ∃ (t : Addr) (c : Str × Int), y = .ref t ∧ c ∈ ks ∧ H t = some (.tup [.str c.1, .int c.2])) → ∃ cs : List (Str × Int), RowIs H ys cs ∧ ∀ c ∈ cs, c ∈ ks
  | [], _ => ⟨[], rowIs_nil, (fun c h => nomatch h)⟩
  | y :: ys, h => by
    obtain ⟨t, c, e, hc, ht⟩ := h 0 y rfl
    obtain ⟨cs, h1, h2⟩ := rows_of (ys := ys) fun i y e => h (i + 1) y e
    subst e
    refine ⟨c :: cs, rowIs_app (xs := [.ref t]) (cs := [c]) (rowIs_one ht) h1, fun d hd => ?_⟩
    rcases List.mem_cons.mp hd with rfl | hd
    · exact hc
    · exact h2 d hd
theorem VaultAt.butP {K : PySem.W.Frag} {H H' : Hp} {p D : Addr} {v : Vlt} {l : List V} (hD : H D = some (.lst l)) (s : But D H H') (h : VaultAt K H p v) : VaultAt K H' p v := by
  obtain ⟨dx, a, d, c, b, kvs, h1, h2, h3, h4, h5⟩ := h.ob
  refine ⟨dx, a, d, c, b, kvs, s _ _ (fun z => by rw [z, hD] at h1; cases h1) h1, dp_but (.lst hD) s h2 (.tup fun x hx => ?_), dp_but (.lst hD) s h3 (.tup fun x hx => ?_), s _ _ (fun z => by rw [z, hD] at h4; cases h4) h4, codes_but (.lst hD) s h5⟩
  · obtain ⟨c, _, rfl⟩ := List.mem_map.mp hx
    exact cell_noL c
  · obtain ⟨d, _, rfl⟩ := List.mem_map.mp hx
    exact deed_noL d
theorem LawV.butP {K : PySem.W.Frag} {H H' : Hp} {ca da D : Addr} {v : Vlt} {l : List V} (hD : H D = some (.lst l)) (s : But D H H') (n1 : ca ≠ D) (n2 : da ≠ D) (h : LawV K H ca da v) : LawV K H' ca da v := by
  obtain ⟨⟨cxs, e1, e2⟩, ⟨dxs, e3, e4⟩, g, m⟩ := h
  exact ⟨⟨cxs, s _ _ n1 e1, dps_but (.lst hD) s e2 (cells_noL _)⟩, ⟨dxs, s _ _ n2 e3, dps_but (.lst hD) s e4 (deeds_noL _)⟩, g, m⟩
theorem ix_listK {X : Cx} (K : PySem.W.Frag) (hK : X.K = K) : IxR X (rIxL K) := hK ▸ ix_list
theorem call_len_seqK {X : Cx} (K : PySem.W.Frag) (hK : X.K = K) : CallR X (.builtin "len") (fun xs H Q => ∃ p ys, xs = [.ref p] ∧ (SqL K H p ys ∨ SqT K H p ys) ∧ Q (.int ys.length) H) := hK ▸ call_len_seq
/-- where the law stands when all is put together -/
def MidL (K : PySem.W.Frag) : L2.St → Hp → Prop := fun σ' H' => ∃ (a p cl dl x kl r z1 r2 d1 d5 : Addr) (m : Int) (x7 x11 x12 x14 x15 x16 : Option V) (v : Vlt) (rxs : List V) (rcs : List (Str × Int)) (M : Wt),
  σ' = [some (.ref a), some (.ref p), some (.int m), some (.ref cl), some (.ref dl), some (.ref x), some (.ref kl), x7, some (.ref r), some (.ref z1), some (.ref r2), x11, x12, some (.ref d5), x14, x15, x16] ∧
  LawV K H' cl dl v ∧ VaultAt K H' x v ∧ H' r2 = some (.lst rxs) ∧ RowIs H' rxs rcs ∧ (∀ c ∈ rcs, c ∈ v.calls) ∧ rcs.length ≤ 9 ∧ H' z1 = some (.tup [.ref d1, .int ((16 ^ rcs.length : Nat) : Int)]) ∧ H' d1 = some (.dT (WK (rowC v (v.cells.map (·.2)) rcs))) ∧ H' d5 = some (.dT (WK M)) ∧ d5 ≠ d1 ∧ (M.map (·.1)).Nodup ∧
  M.length = (rowC v (v.cells.map (·.2)) rcs).length ∧ ∀ q ∈ M, q.1 ∈ (rowC v (v.cells.map (·.2)) rcs).map (·.1) ∧ q.2 = 16 ^ rcs.length * wAt (rowC v (v.cells.map (·.2)) rcs) q.1
section
variable {P : Program} {w : World} {K : PySem.W.Frag} {mg : Str → Option Value} {base : Heap}
def spLaw (K : PySem.W.Frag) : Sp := fun vs H Q _ => ∃ (a : Addr) (ns : List Int), vs = [.ref a] ∧ SqL K H a (ns.map V.int) ∧ ns.length ≤ 63 ∧ ∀ H', Q (.bl true) H'
set_option maxHeartbeats 0 in
theorem ok_law {fd : FuncData} (T : Txt w K mg) (F : FunD K "law" "law" (defArgs s_law) (defBody s_law) (defScope s_law) [] [] (He.fAd K ("law", none)) fd) : FnOk P w K mg base CX0 57 (He.fAd K ("law", none)) fd ["_law_script"] (spLaw K) := by
  refine fn_d (N := ["_law_script", "_law_pool_here", "_law_place", "_law_cells_here", "_law_deeds_here", "_law_vault", "_law_calls_here", "_law_k", "_law_row_here", "_law_weighed", "_law_row_in", "_law_told", "_law_half", "_law_mixed_here", "_law_state", "_law_cell", "_law_first"]) (ps := ["_law_script"]) F ⟨rfl, rfl, rfl, by decide +kernel, rfl, by decide +kernel, by decide +kernel⟩
    (fun vs H Q E h => by obtain ⟨a, ns, rfl, ha, hl, q⟩ := h; rfl) (fun cdv A outer s H vs Q E hr h => ?_)
  have nd : (["_law_script", "_law_pool_here", "_law_place", "_law_cells_here", "_law_deeds_here", "_law_vault", "_law_calls_here", "_law_k", "_law_row_here", "_law_weighed", "_law_row_in", "_law_told", "_law_half", "_law_mixed_here", "_law_state", "_law_cell", "_law_first"] : List Str).Nodup := by decide +kernel
  obtain ⟨a, ns, rfl, ha, hl, q⟩ := h
  refine ⟨_, (pss_cons (ps_set (i := 1) nd rfl (.inl rfl) (pe_ca (ca_l_pool T) hr (pa_cons (pv 0) (pa_cons pe_int pa_nil))))
      (pss_cons (ps_set (i := 2) nd rfl (.inl rfl) (pe_ca (ca_l_draw T) hr (pa_cons (pv 1) (pa_cons pe_int pa_nil))))
      (pss_cons (ps_set (i := 3) nd rfl (.inl rfl) (pe_ca (ca_l_cells T) hr (pa_cons (pv 1) pa_nil)))
      (pss_cons (ps_set (i := 4) nd rfl (.inl rfl) (pe_ca (ca_l_coin_vault T) hr (pa_cons (pv 1) (pa_cons (pv 3) pa_nil))))
      (pss_cons (ps_set (i := 5) nd rfl (.inl rfl) (pe_ma (ma_Vault T) hr (pa_cons (pe_callTy call_list_of (by rfl) T.b_list boot_list (pa_cons (pv 3) pa_nil)) (pa_cons (pe_callTy call_list_of (by rfl) T.b_list boot_list (pa_cons (pv 4) pa_nil)) pa_nil))))
      (pss_cons (ps_set (i := 6) nd rfl (.inr rfl) (pe_ca (ca_l_calls T) hr (pa_cons (pv 4) pa_nil)))
      (pss_cons (ps_setLc (i := 8) (own := [("_law_k", 7)]) (tt := tYes) rfl nd rfl rfl (by rfl) (pi_range2 rfl T.b_range (pa_cons pe_int (pa_cons (pe_callB (call_min2 rfl) (by rfl) T.b_min boot_min (pa_cons (pe_callB call_len_seq (by rfl) T.b_len PySem.boot_len (pa_cons (pv 0) pa_nil)) (pa_cons pe_int pa_nil))) pa_nil))) (blkOk_by (N := ["_law_script", "_law_pool_here", "_law_place", "_law_cells_here", "_law_deeds_here", "_law_vault", "_law_calls_here", "_law_k", "_law_row_here", "_law_weighed", "_law_row_in", "_law_told", "_law_half", "_law_mixed_here", "_law_state", "_law_cell", "_law_first"]) (sc := defScope s_law) (by decide +kernel)) (fun _ _ _ _ _ => pg_name (i := 7) nd rfl (.inl rfl)) (fun _ _ _ _ _ => pts_nil) (fun _ _ _ _ _ => pe_ix (ix_listK K rfl) (pv 6) (pe_ca (ca_l_draw T) hr (pa_cons (pe_ca (ca_l_pool T) hr (pa_cons (pv 0) (pa_cons (pv 7) pa_nil))) (pa_cons (pe_callB (call_len_seqK K rfl) (by rfl) T.b_len PySem.boot_len (pa_cons (pv 6) pa_nil)) pa_nil))) (fun _ _ => rfl)))
      (pss_cons (ps_set (i := 8) nd rfl (.inl rfl) (pe_op op_cat (pv 8) (pe_ca (ca_l_row T) hr (pa_cons (pv 1) (pa_cons (pv 6) (pa_cons pe_int pa_nil))))))
      (pss_cons (ps_set (i := 2) nd rfl (.inl rfl) (pe_op op_mod (pe_callTy call_int1 (by rfl) T.b_int boot_int (pa_cons (pv 2) pa_nil)) (pe_op op_add (pe_callB call_len_seq (by rfl) T.b_len PySem.boot_len (pa_cons (pv 8) pa_nil)) pe_int)))
      (pss_cons (ps_set (i := 9) nd rfl (.inl rfl) (pe_ca (ca_l_weights T) hr (pa_cons (pv 3) (pa_cons (pv 4) (pa_cons (pv 8) pa_nil)))))
      (pss_cons (ps_set (i := 10) nd rfl (.inl rfl) (pe_callTy call_list_of (by rfl) T.b_list boot_list (pa_cons (pv 8) pa_nil)))
      (pss_cons (ps_set (i := 11) nd rfl (.inl rfl) (pe_ca (ca_share T) hr (pa_cons (pv 5) (pa_cons (pv 10) pa_nil))))
      (pss_cons (ps_if (PW.pt (pw_or (pt_cmpR (op_neD hr.units) (pv 8) (pv 10) (nomark _)) (pw_or1 (pt_not (pt_val (pe_ca (ca_l_right T) hr (pa_cons (pv 11) (pa_cons (pe_ix ix_tup (pv 9) pe_int (fun _ _ => rfl)) (pa_cons (pe_ix ix_tup (pv 9) pe_int (fun _ _ => rfl)) pa_nil))))))))) (pss_one (ps_ret pe_bl)) pss_nil)
      (pss_cons (ps_dput (hu_of hr) (pv 11) (pe_tup (pa_cons pe_int pa_nil)) (pe_tup (pa_cons pe_int (pa_cons pe_int pa_nil))) rfl)
      (pss_cons (ps_set (i := 12) nd rfl (.inl rfl) (pe_ca (ca_l_weights T) hr (pa_cons (pv 3) (pa_cons (pv 4) (pa_cons (pe_slice sl_list (pv 8) po_none (po_some (pv 2))) pa_nil)))))
      (pss_cons (ps_if (pt_not (pt_val (pe_ca (ca_l_right T) hr (pa_cons (pe_ca (ca_share T) hr (pa_cons (pv 5) (pa_cons (pe_slice sl_list (pv 8) po_none (po_some (pv 2))) pa_nil))) (pa_cons (pe_ix ix_tup (pv 12) pe_int (fun _ _ => rfl)) (pa_cons (pe_ix ix_tup (pv 12) pe_int (fun _ _ => rfl)) pa_nil)))))) (pss_one (ps_ret pe_bl)) pss_nil)
      (C8.pss_cut (ps_set (i := 13) nd rfl (.inl rfl) (pe_ca (ca_l_mixed T) hr (pa_cons (pv 5) (pa_cons (pe_slice sl_list (pv 8) po_none (po_some (pv 2))) (pa_cons (pe_slice sl_list (pv 8) (po_some (pv 2)) po_none) (pa_cons (pe_ix ix_tup (pv 9) pe_int (fun _ _ => rfl)) pa_nil))))))
      (pss_cons (ps_if (pt_cmpR op_ne (pe_callB call_len_dT (by rfl) T.b_len PySem.boot_len (pa_cons (pv 13) pa_nil)) (pe_callB call_len_dT (by rfl) T.b_len PySem.boot_len (pa_cons (pe_ix ix_tup (pv 9) pe_int (fun _ _ => rfl)) pa_nil)) (nomark _)) (pss_one (ps_ret pe_bl)) pss_nil)
      (pss_cons (ps_lock (ps_for PassesOwn.never rfl (pi_keys (pv 13)) (pg_name (i := 14) nd rfl (.inl rfl)) (pss_one (ps_if (PW.pt (pw_or (pt_cmp (pc_dnotin (hu_of hr) (pv 14) (pe_ix ix_tup (pv 9) pe_int (fun _ _ => rfl)))) (pw_or1 (pt_cmpR op_ne (pe_dget (hu_of hr) (pv 13) (pv 14) (fun _ _ => rfl)) (pe_op op_mul (pe_dget (hu_of hr) (pe_ix ix_tup (pv 9) pe_int (fun _ _ => rfl)) (pv 14) (fun _ _ => rfl)) (pe_ix ix_tup (pv 9) pe_int (fun _ _ => rfl))) (nomark _))))) (pss_one (ps_ret pe_bl)) pss_nil))))
      (pss_cons (ps_set (i := 16) nd rfl (.inl rfl) (pe_tupleOf (by rfl) T.b_tuple (pe_lc (own := [("_law_cell", 15)]) (tt := tYes) rfl nd (pi_list (pv 3)) (blkOk_by (N := ["_law_script", "_law_pool_here", "_law_place", "_law_cells_here", "_law_deeds_here", "_law_vault", "_law_calls_here", "_law_k", "_law_row_here", "_law_weighed", "_law_row_in", "_law_told", "_law_half", "_law_mixed_here", "_law_state", "_law_cell", "_law_first"]) (sc := defScope s_law) (by decide +kernel)) (fun _ _ _ _ _ => pg_name (i := 15) nd rfl (.inl rfl)) (fun _ _ _ _ _ => pts_nil) (fun _ _ _ _ _ => pe_ix (ix_tupK K rfl) (pv 15) pe_int (fun _ _ => rfl)))))
      (pss_cons (ps_if (pt_not (pt_val (pe_ca (ca_l_right T) hr (pa_cons (pe_ca (ca_share T) hr (pa_cons (pv 5) (pa_cons (pe_lst pa_nil) pa_nil))) (pa_cons (pe_dispT (hu_of hr) (pv 16) pe_int) (pa_cons pe_int pa_nil)))))) (pss_one (ps_ret pe_bl)) pss_nil)
      (pss_one (ps_ret (pe_ca (ca_l_right T) hr (pa_cons (pe_ca (ca_share T) hr (pa_cons (pv 5) (pa_cons (pv 10) pa_nil))) (pa_cons (pe_ix ix_tup (pv 9) pe_int (fun _ _ => rfl)) (pa_cons (pe_ix ix_tup (pv 9) pe_int (fun _ _ => rfl)) pa_nil))))))))))))))))))))))))))), ?_⟩
  refine ⟨_, rfl, a, ns, 0, rfl, ha, hl, by omega, fun p H1 s1 np pp => ?_⟩
  refine ⟨_, rfl, p, 16, rfl, pp, by omega, fun c2 H2 b2 p2 hc2 => ?_⟩
  refine ⟨_, rfl, p, rfl, p2, fun cl cxs cs H3 b3 p3 ncl nclp hcl hcx hcn hcs => ?_⟩
  have lcx : cxs.length = cs.length := by rw [dps_len hcx, List.length_map]
  refine ⟨_, rfl, _, rfl, p, cl, cxs, rfl, p3, hcl, nclp, by omega, fun dl dxs ds H4 b4 p4 ndl ndlp hdl hdx hdn hds nds => ?_⟩
  have hb : ∀ b o, H b = some o → b ≠ p := fun b o e => ne_of_none e np
  have s4 : Same H H4 := fun b o e => b4 _ _ (hb _ _ e) (b3 _ _ (hb _ _ e) (b2 _ _ (hb _ _ e) (s1 _ _ e)))
  have hcl4 := b4 _ _ nclp hcl
  have hcx4 := dps_but p3.ch b4 hcx (cells_noL cs)
  have hgood : VGood ⟨cs, ds⟩ := ⟨hcn.1, by show cs.length ≤ 6; omega, fun c hc => (hcs c hc).1, hdn.1, by show ds.length ≤ 8; omega, fun d hd => by
    have := (hds d hd).1
    rw [lcx] at this
    exact this, nds⟩
  refine ⟨_, rfl, cl, _, rfl, .inl (.of hcl4), fun l1 nl1 => ?_⟩
  have w1 : Same H4 (upd H4 l1 (.lst cxs)) := same_new nl1
  have x1 : upd H4 l1 (.lst cxs) l1 = some (.lst cxs) := upd_same
  generalize upd H4 l1 (.lst cxs) = G1 at w1 x1 ⊢
  refine ⟨_, rfl, dl, _, rfl, .inl (.of (w1 _ _ hdl)), fun l2 nl2 => ?_⟩
  have w2 : Same G1 (upd G1 l2 (.lst dxs)) := same_new nl2
  have x2 : upd G1 l2 (.lst dxs) l2 = some (.lst dxs) := upd_same
  generalize upd G1 l2 (.lst dxs) = G2 at w2 x2 ⊢
  intro x dx hx hdx' ne
  have w3 : Same G2 (upd (upd G2 dx (.own x)) x (.ins (He.ga K "Vault") dx [])) := (same_new hdx').trans (same_new (by rw [upd_ne (Ne.symm ne)]; exact hx))
  have w12 := w1.trans w2
  have w13 := w12.trans w3
  refine ⟨x, dx, l1, l2, cxs, dxs, ⟨cs, ds⟩, rfl, upd_same, .of ((w2.trans w3) _ _ x1), dps_same w13 hcx4, .of (w3 _ _ x2), dps_same w13 hdx, hgood, fun H5 b5 vt => ⟨rfl, ?_⟩⟩
  have s45 : Same H4 H5 := fun b o e => b5 _ _ (ne_of_none (w12 _ _ e) hx) (w13 _ _ e)
  have lv5 : LawV K H5 cl dl ⟨cs, ds⟩ := ⟨⟨cxs, s45 _ _ hcl4, dps_same s45 hcx4⟩, ⟨dxs, s45 _ _ hdl, dps_same s45 hdx⟩, hgood, fun d hd => by have := (hds d hd).2; omega⟩
  have p5 := p4.same s45
  have hdl5 := s45 _ _ hdl
  have hdx5 := dps_same s45 hdx
  refine ⟨_, rfl, dl, dxs, ds, rfl, .of hdl5, hdx5, ⟨hdn.1, by omega⟩, (fun d hd => (hds d hd).1.2.1), fun kl kys kcs H8 s58 hkl hks hkn hkc => ?_⟩
  have s08 := (s4.trans s45).trans s58
  have lks := tups_len hks
  have l63 : ((ns.map V.int).length : Int) ≤ 63 := by rw [List.length_map]; omega
  generalize hLen : ((ns.map V.int).length : Int) = Ln at l63
  have l0 : (0 : Int) ≤ Ln := by rw [← hLen]; exact Int.natCast_nonneg _
  have hm : ∀ M : Int, M = (if (6 : Int) < Ln then 6 else Ln) → 0 ≤ M ∧ M ≤ 6 := fun M e => by
    rw [e]
    split <;> omega
  have hm := hm _ rfl
  refine ⟨_, rfl, _, _, rfl, .inl (s08.seq ha), _, _, rfl, ?_⟩
  rw [hLen]
  generalize (if (6 : Int) < Ln then 6 else Ln) = M at hm ⊢
  refine ⟨_, _, rfl, by omega, fun D0 nD0 => ?_⟩
  refine lc_out (n := (M - 1).toNat) walk_range nD0 (by omega) (fun i y H => ∃ (t : Addr) (c : Str × Int), y = .ref t ∧ c ∈ kcs ∧ H t = some (.tup [.str c.1, .int c.2])) (fun _ _ _ _ ch bt ⟨t, c, e1, e2, e3⟩ => ⟨t, c, e1, e2, bt _ _ (fun z => ch.1 _ (z ▸ e3)) e3⟩) (fun _ _ => trivial) (fun i y J0 J N F hi s y' k => ?_) (fun H9 ys s9 hD9 lys hR9 => ?_)
  · obtain ⟨rfl, rfl⟩ := y'
    have s8J := s
    refine ⟨rfl, iteT ⟨_, rfl, _, rfl, _, rfl, a, ns, 1 + ((i : Nat) : Int), rfl, (s08.trans s8J).seq ha, hl, by omega, fun tp J1 r1 ntp ptp => ?_⟩⟩
    have tt1 := s8J.trans r1
    refine ⟨_, rfl, _, _, rfl, .inl (.of (tt1 _ _ hkl)), tp, (kys.length : Nat), rfl, ptp, by omega, fun ci J2 b2' ptp2 hci => ?_⟩
    have tt2 : Same J J2 := fun b o e => b2' _ _ (ne_of_none e ntp) (r1 _ _ e)
    have tt3 := s8J.trans tt2
    have hcin : ci.toNat < kys.length := by omega
    obtain ⟨kc, kt, hkc1, hkt, hkt2⟩ := tups_get hks (List.getElem?_eq_getElem hcin)
    have hat : atI kys ci = some (.ref kt) := by
      have := atI_nat (List.getElem?_eq_getElem hcin)
      rw [show ((ci.toNat : Nat) : Int) = ci from Int.toNat_of_nonneg hci.1, hkt] at this
      exact this
    exact ⟨_, _, _, _, rfl, rfl, .of (tt3 _ _ hkl), hat, k _ _ tt2 ⟨kt, kc, rfl, List.mem_of_getElem? hkc1, tt3 _ _ hkt2⟩⟩
  obtain ⟨rcs0, hrw0, hrc0⟩ := rows_of hR9
  have l5 : ys.length ≤ 5 := by rw [lys]; omega
  have s59 := s58.trans s9
  have p9 := p5.same s59
  have hkl9 := s9 _ _ hkl
  have nkp : kl ≠ p := fun z => by
    rw [z] at hkl9
    obtain ⟨g, sd, n, hp0, _⟩ := p9
    rw [hp0] at hkl9
    cases (Option.some.inj hkl9)
    obtain ⟨_, _, _, e, _⟩ := tups_at hks (i := 0) (y := .int g) rfl
    cases e
  have hkl9' : H9 kl = some (.lst kys) := hkl9
  refine ⟨_, rfl, _, rfl, _, rfl, p, kl, 4, kys, kcs, rfl, p9, hkl9, nkp, tups_same s9 hks, hkn, by omega, fun q1 xs1 rcs1 H10 b10 p10 nq1 nq1p hq1 hrw1 hrc1 hrl1 => ?_⟩
  obtain ⟨lp, hlp⟩ := p9.at
  have nD0p : D0 ≠ p := fun z => by
    rw [z] at nD0
    obtain ⟨lp2, hlp2⟩ := (p5.same s58).at
    rw [hlp2] at nD0
    cases nD0
  have hD10 := b10 _ _ nD0p hD9
  refine ⟨D0, q1, _, _, rfl, rfl, hD10, hq1, by rw [sizeLine_eq]; have := hrw1.1; omega, fun r nr => ?_⟩
  have s11 := same_new (o := .lst (ys ++ xs1)) nr
  have hr : upd H10 r (.lst (ys ++ xs1)) r = some (.lst (ys ++ xs1)) := upd_same
  have hrw : RowIs (upd H10 r (.lst (ys ++ xs1))) (ys ++ xs1) (rcs0 ++ rcs1) := rowIs_app ((rowIs_but (.lst hlp) b10 hrw0).same s11) (hrw1.same s11)
  have lv : LawV K (upd H10 r (.lst (ys ++ xs1))) cl dl ⟨cs, ds⟩ := ((lv5.same s59).butP hlp b10 nclp ndlp).same s11
  have vt11 : VaultAt K (upd H10 r (.lst (ys ++ xs1))) x ⟨cs, ds⟩ := ((vt.same s59).butP hlp b10).same s11
  have hrc : ∀ c ∈ rcs0 ++ rcs1, c ∈ kcs := fun c hc => (List.mem_append.mp hc).elim (hrc0 c) (hrc1 c)
  have hrv : ∀ c ∈ rcs0 ++ rcs1, c ∈ (Vlt.mk cs ds).calls := fun c hc => by
    obtain ⟨d, hd, e1, e2, e3⟩ := hkc c (hrc c hc)
    exact mem_calls hd e1 e2 e3
  have hrn : ∀ c ∈ rcs0 ++ rcs1, NameOk c.1 := fun c hc => by
    obtain ⟨d, hd, e1, _⟩ := hkc c (hrc c hc)
    rw [e1]
    exact (hds d hd).1.1
  have hlen : (rcs0 ++ rcs1).length ≤ 9 := by
    rw [List.length_append]
    have := hrw0.1
    omega
  have lrx := hrw.1
  generalize upd H10 r (.lst (ys ++ xs1)) = H11 at hr hrw lv vt11 ⊢
  generalize ys ++ xs1 = rxs at hr hrw lrx ⊢
  generalize rcs0 ++ rcs1 = rcs at hrw hrv hrn hlen lrx
  generalize ev : (⟨cs, ds⟩ : Vlt) = v at lv vt11 hrv hgood
  have c9 : ∀ s ∈ v.cells.map (·.1), s ≤ 9 := fun s hs => by
    obtain ⟨c, hc, rfl⟩ := List.mem_map.mp hs
    exact (hgood.cs c hc).2.1
  have so := first_so hgood
  have okW := rowC_ok hgood so hrv
  have totW := rowC_tot hgood so hrv
  -- the place
  refine ⟨_, rfl, .inl ⟨_, rfl, _, rfl, _, _, rfl, .inl (.of hr), _, _, rfl, rfl, _, _, rfl, rfl, (by show (0 : Int) < (rxs.length : Nat) + 1; omega), ?_⟩⟩
  have hP0 := Int.emod_nonneg c2 (show ((rxs.length : Nat) : Int) + 1 ≠ 0 by omega)
  have hP1 := Int.emod_lt_of_pos c2 (show (0 : Int) < ((rxs.length : Nat) : Int) + 1 by omega)
  obtain ⟨m, hm'⟩ : ∃ m : Nat, c2 % (((rxs.length : Nat) : Int) + 1) = (m : Int) := ⟨_, (Int.toNat_of_nonneg hP0).symm⟩
  rw [hm'] at hP1
  dsimp only
  rw [hm']
  have hml : m ≤ rxs.length := by omega
  have t1 : cutV rxs none (some (m : Int)) = rxs.take m := cutV_take hml
  have t2 : cutV rxs (some (m : Int)) none = rxs.drop m := cutV_drop hml
  have rT : ∀ c ∈ rcs.take m, c ∈ v.calls := fun c hc => hrv c (List.mem_of_mem_take hc)
  have rD : ∀ c ∈ rcs.drop m, c ∈ v.calls := fun c hc => hrv c (List.mem_of_mem_drop hc)
  have lT : (rcs.take m).length ≤ 9 := by rw [List.length_take]; omega
  have lsum : (rcs.take m).length + (rcs.drop m).length = rcs.length := by rw [List.length_take, List.length_drop]; omega
  -- the weights of the whole
  refine ⟨_, rfl, _, rfl, _, rfl, cl, dl, r, rxs, v, rcs, rfl, lv, .of hr, hrw, hrv, by omega, fun z1 d1 H12 s12 hz1 nd1 hd1 => ?_⟩
  refine ⟨_, rfl, r, _, rfl, .inl (.of (s12 _ _ hr)), fun r2 nr2 => ?_⟩
  have s13 := same_new (o := .lst rxs) nr2
  have hr2 : upd H12 r2 (.lst rxs) r2 = some (.lst rxs) := upd_same
  generalize upd H12 r2 (.lst rxs) = H13 at s13 hr2 ⊢
  have q13 := s12.trans s13
  refine ⟨_, rfl, _, rfl, x, r2, v, rxs, rcs, rfl, vt11.same q13, hgood, .of hr2, hrw.same q13, hrv, by omega, fun d2 kv2 H14 s14 nd2 hd2 hsh2 => ?_⟩
  have q14 := q13.trans s14
  have u14 := s13.trans s14
  refine ⟨_, rfl, _, rfl, .list (rcs.map callD), .list (rcs.map callD), .lst (.of (q14 _ _ hr)) (rowIs_dps (hrw.same q14)), .lst (.of (s14 _ _ hr2)) (rowIs_dps (hrw.same q14)), shaped_calls hrn, shaped_calls hrn, _, rfl, ?_⟩
  rw [show PyData.eqv (.list (rcs.map callD)) (.list (rcs.map callD)) = true from by rw [PyData.eqv]; exact eqv_calls rcs]
  refine iteF ?_
  have n21 : d2 ≠ d1 := Ne.symm (ne_of_none (s13 _ _ hd1) nd2)
  refine ⟨_, rfl, _, rfl, _, _, _, _, rfl, rfl, .of (u14 _ _ hz1), at0, _, rfl, _, _, _, _, rfl, rfl, .of (u14 _ _ hz1), at1, d2, d1, kv2, _, rcs.length, v.cells.map (·.1), rfl, hd2, hsh2, u14 _ _ hd1, n21, okW, c9, totW, by omega, _, rfl, iteF ?_⟩
  -- what was told is changed
  refine ⟨(by show 2 ≤ sizeLine; decide), fun tv ntv => ?_⟩
  have s15 := same_new (o := .tup [.int 1, .int 2]) ntv
  generalize upd H14 tv (.tup [.int 1, .int 2]) = H15 at s15 ⊢
  refine ⟨_, rfl, (by show 1 ≤ sizeLine; decide), fun tk ntk => ?_⟩
  have s16 := same_new (o := .tup [.int 9]) ntk
  have htk : upd H15 tk (.tup [.int 9]) tk = some (.tup [.int 9]) := upd_same
  generalize upd H15 tk (.tup [.int 9]) = H16 at s16 htk ⊢
  have s1416 := s15.trans s16
  have lk2 : kv2.length ≤ 531441 := by
    rw [hsh2.len]
    have := rowC_len hgood okW
    show ((rowC v (v.cells.map (·.2)) rcs).map _).length ≤ _
    rw [List.length_map]
    exact this
  refine ⟨d2, _, rfl, .inr ⟨kv2, [.inl 9], tk, s1416 _ _ hd2, rfl, htk, by rw [sizeLine_eq]; omega, rfl⟩, ?_⟩
  have s1317 : Same H13 (upd H16 d2 (.dT (putK kv2 [.inl 9] (.ref tv)))) := fun b o e => by
    rw [upd_ne (ne_of_none e nd2)]
    exact s1416 _ _ (s14 _ _ e)
  generalize upd H16 d2 (.dT (putK kv2 [.inl 9] (.ref tv))) = H17 at s1317 ⊢
  have q17 := q13.trans s1317
  have u17 := s13.trans s1317
  clear s15 s16 htk s1416 hsh2 hd2
  -- the first part
  refine ⟨_, rfl, _, rfl, _, rfl, _, rfl, _, rfl, r, _, rfl, .of (q17 _ _ hr), fun u nu => ?_⟩
  rw [t1]
  have s18 := same_new (o := .lst (rxs.take m)) nu
  have hu : upd H17 u (.lst (rxs.take m)) u = some (.lst (rxs.take m)) := upd_same
  generalize upd H17 u (.lst (rxs.take m)) = H18 at s18 hu ⊢
  have q18 := q17.trans s18
  have u18 := u17.trans s18
  refine ⟨cl, dl, u, rxs.take m, v, rcs.take m, rfl, lv.same q18, .of hu, (rowIs_take m hrw).same q18, rT, by omega, fun z3 d3 H19 s19 hz3 nd3 hd3 => ?_⟩
  have q19 := q18.trans s19
  have u19 := u18.trans s19
  refine ⟨_, rfl, _, rfl, _, rfl, _, rfl, r, _, rfl, .of (q19 _ _ hr), fun u2 nu2 => ?_⟩
  rw [t1]
  have s20 := same_new (o := .lst (rxs.take m)) nu2
  have hu2 : upd H19 u2 (.lst (rxs.take m)) u2 = some (.lst (rxs.take m)) := upd_same
  generalize upd H19 u2 (.lst (rxs.take m)) = H20 at s20 hu2 ⊢
  have q20 := q19.trans s20
  have u20 := u19.trans s20
  refine ⟨x, u2, v, rxs.take m, rcs.take m, rfl, vt11.same q20, hgood, .of hu2, (rowIs_take m hrw).same q20, rT, by omega, fun d4 kv4 H21 s21 nd4 hd4 hsh4 => ?_⟩
  have q21 := q20.trans s21
  have u21 := u20.trans s21
  have w21 := s20.trans s21
  have okT := rowC_ok hgood so rT
  have totT := rowC_tot hgood so rT
  refine ⟨_, rfl, _, _, _, _, rfl, rfl, .of (w21 _ _ hz3), at0, _, rfl, _, _, _, _, rfl, rfl, .of (w21 _ _ hz3), at1, d4, d3, kv4, _, (rcs.take m).length, v.cells.map (·.1), rfl, hd4, hsh4, w21 _ _ hd3, Ne.symm (ne_of_none (s20 _ _ hd3) nd4), okT, c9, totT, by omega, _, rfl, iteF ?_⟩
  clear hsh4 hd4 hz3 hd3 w21
  -- put together
  refine ⟨MidL K, ?_, ?_⟩
  · refine ⟨_, rfl, _, rfl, _, rfl, _, rfl, r, _, rfl, .of (q21 _ _ hr), fun u3 nu3 => ?_⟩
    rw [t1]
    have s22 := same_new (o := .lst (rxs.take m)) nu3
    have hu3 : upd H21 u3 (.lst (rxs.take m)) u3 = some (.lst (rxs.take m)) := upd_same
    generalize upd H21 u3 (.lst (rxs.take m)) = H22 at s22 hu3 ⊢
    have q22 := q21.trans s22
    have u22 := u21.trans s22
    refine ⟨_, rfl, _, rfl, _, rfl, r, _, rfl, .of (q22 _ _ hr), fun u4 nu4 => ?_⟩
    rw [t2]
    have s23 := same_new (o := .lst (rxs.drop m)) nu4
    have hu4 : upd H22 u4 (.lst (rxs.drop m)) u4 = some (.lst (rxs.drop m)) := upd_same
    generalize upd H22 u4 (.lst (rxs.drop m)) = H23 at s23 hu4 ⊢
    have q23 := q22.trans s23
    have u23 := u22.trans s23
    refine ⟨_, rfl, _, _, _, _, rfl, rfl, .of (u23 _ _ hz1), at1, x, u3, u4, v, rxs.take m, rxs.drop m, rcs.take m, rcs.drop m, by rw [lsum]; rfl, vt11.same q23, hgood, .of (s23 _ _ hu3), (rowIs_take m hrw).same q23, .of hu4, (rowIs_drop m hrw).same q23, rT, rD, by omega, fun d5 H25 s25 nd5 hd5 => ?_⟩
    have q25 := q23.trans s25
    have y25 : Same H13 H25 := ((((((s1317.trans s18).trans s19).trans s20).trans s21).trans s22).trans s23).trans s25
    rw [lsum] at hd5
    have np : 0 < 16 ^ rcs.length := Nat.pow_pos (by decide)
    obtain ⟨M, eM⟩ : ∃ M, M = wAll [] (mixC (16 ^ rcs.length) (rowC v (v.cells.map (·.2)) (rcs.take m)) fun s => rowC v s (rcs.drop m)) := ⟨_, rfl⟩
    rw [← eM] at hd5
    have okM : WOk (StateOk (v.cells.map (·.1))) M := by
      rw [eM]
      refine WOk.nil.all fun t ht => ?_
      obtain ⟨u0, hu0, ht⟩ := List.mem_flatMap.mp ht
      obtain ⟨q0, hq0, rfl⟩ := List.mem_map.mp ht
      have ok0 := rowC_ok hgood (okT.st _ hu0) rD
      exact ⟨ok0.st q0 hq0, Nat.mul_pos (Nat.mul_pos (okT.po u0 hu0) (ok0.po q0 hq0)) np⟩
    have hM : ∀ g, lin M g = 16 ^ rcs.length * lin (rowC v (v.cells.map (·.2)) rcs) g := fun g => by
      have z := mix_row (16 ^ rcs.length) ((rcs.take m).map (wyC v)) ((rcs.drop m).map (wyC v)) [(v.cells.map (·.2), 1)] g
      rw [← List.map_append, List.take_append_drop] at z
      rw [eM, lin_all]
      show 0 + _ = _
      rw [Nat.zero_add]
      exact z
    obtain ⟨m1, m2⟩ := mix_same okM okW np hM
    exact ⟨a, p, cl, dl, x, kl, r, z1, r2, d1, d5, (m : Int), none, some (.ref d2), some (.ref z3), none, none, none, v, rxs, rcs, M, rfl, lv.same q25, vt11.same q25, y25 _ _ hr2, hrw.same q25, hrv, hlen, (u23.trans s25) _ _ hz1, (u23.trans s25) _ _ hd1, hd5, Ne.symm (ne_of_none (u23 _ _ hd1) nd5), okM.nd, m1, m2⟩
  · rintro σ1 J0 ⟨a, p, cl, dl, x, kl, r, z1, r2, d1, d5, m, x7, x11, x12, x14, x15, x16, v, rxs, rcs, M, rfl, lv, vt, hr2, hrw, hrv, hlen, hz1, hd1, hd5, n51, ndM, lML, hML⟩
    have gd := lv.g
    obtain ⟨⟨cxs, hcl, hcx⟩, _, _, _⟩ := id lv
    have lcx : cxs.length = v.cells.length := by rw [dps_len hcx, List.length_map]
    have l6 := gd.c1
    have c9 : ∀ s ∈ v.cells.map (·.1), s ≤ 9 := fun s hs => by
      obtain ⟨c, hc, rfl⟩ := List.mem_map.mp hs
      exact (gd.cs c hc).2.1
    have so := first_so gd
    have okW := rowC_ok gd so hrv
    have totW := rowC_tot gd so hrv
    obtain ⟨f, ef⟩ : ∃ f, f = v.cells.map (·.2) := ⟨_, rfl⟩
    rw [← ef] at so okW totW hd1 lML hML
    obtain ⟨L, eL⟩ : ∃ L, L = rowC v f rcs := ⟨_, rfl⟩
    rw [← eL] at okW totW hd1 lML hML
    have n64 : 16 ^ rcs.length < 2 ^ 64 := Nat.lt_of_le_of_lt (Nat.pow_le_pow_right (by decide) (show rcs.length ≤ 9 from hlen)) (by decide)
    refine ⟨_, rfl, d5, _, rfl, hd5, _, rfl, _, _, _, _, rfl, rfl, .of hz1, at0, d1, _, rfl, hd1, rfl, _, rfl, ?_⟩
    rw [decide_eq_true (show V.int (((WK M).length : Nat) : Int) = V.int (((WK L).length : Nat) : Int) from by rw [wk_len, wk_len, lML])]
    refine iteF ⟨d5, _, hd5, True.intro, fun od => ?_⟩
    have back : upd (upd J0 d5 (.frz od (.dT (WK M)))) d5 (.dT (WK M)) = J0 := by rw [upd_upd, upd_id hd5]
    have nz5 : z1 ≠ d5 := ne_of hz1 hd5 fun j => nomatch j
    have hz1' : upd J0 d5 (.frz od (.dT (WK M))) z1 = some (.tup [.ref d1, .int ((16 ^ rcs.length : Nat) : Int)]) := by rw [upd_ne nz5]; exact hz1
    have hd1' : upd J0 d5 (.frz od (.dT (WK M))) d1 = some (.dT (WK L)) := by rw [upd_ne (Ne.symm n51)]; exact hd1
    have l1 := wk_len M
    refine ⟨_, rfl, d5, od, rfl, .inr ⟨WK M, upd_same, for_it (n := (WK M).length) walk_keysT (fun i σ' H' => ∃ x14, σ' = [some (.ref a), some (.ref p), some (.int m), some (.ref cl), some (.ref dl), some (.ref x), some (.ref kl), x7, some (.ref r), some (.ref z1), some (.ref r2), x11, x12, some (.ref d5), x14, x15, x16] ∧ H' = upd J0 d5 (.frz od (.dT (WK M)))) ⟨x14, rfl, rfl⟩ (fun i σ' H' _ ⟨_, _, e⟩ => by rw [e, upd_same]) ?_ ?_⟩⟩
    · rintro i y σ' H' H2 hi ⟨_, rfl, rfl⟩ ⟨rfl, kk, vv, qa, hkv, rfl, hq⟩
      rw [List.getElem?_map] at hkv
      obtain ⟨u, hu, eu⟩ := Option.map_eq_some_iff.mp hkv
      have ek : kk = stK u.1 := (congrArg Prod.fst eu).symm
      have evv : vv = .int ((u.2 : Nat) : Int) := (congrArg Prod.snd eu).symm
      subst ek
      subst evv
      have hum : u ∈ M := List.mem_of_getElem? hu
      obtain ⟨h1, h2⟩ := hML u hum
      obtain ⟨t, ht, et⟩ := List.mem_map.mp h1
      rw [← et, wAt_mem okW.nd ht] at h2
      have g1 : DGet (upd J0 d5 (.frz od (.dT (WK M)))) d1 (.ref qa) (some (.int ((t.2 : Nat) : Int))) := .inr ⟨_, _, qa, .inl hd1', rfl, hq, by rw [← et]; exact (wk_val okW.nd ht).symm⟩
      have g2 : DGet (upd J0 d5 (.frz od (.dT (WK M)))) d5 (.ref qa) (some (.int ((u.2 : Nat) : Int))) := .inr ⟨_, _, qa, .inr ⟨_, upd_same⟩, rfl, hq, (wk_val ndM hum).symm⟩
      refine ⟨_, rfl, _, rfl, _, _, _, _, rfl, rfl, .of hz1', at0, d1, _, rfl, g1, _, rfl, iteF ?_⟩
      refine ⟨_, rfl, _, rfl, d5, _, rfl, g2, _, rfl, _, _, _, _, rfl, rfl, .of hz1', at0, _, rfl, d1, _, rfl, g1, _, rfl, _, _, _, _, rfl, rfl, .of hz1', at1, _, _, rfl, rfl, .inr ⟨by omega, by omega⟩, rfl, _, rfl, ?_⟩
      rw [decide_eq_true (show V.int ((u.2 : Nat) : Int) = V.int (((t.2 : Nat) : Int) * ((16 ^ rcs.length : Nat) : Int)) from by rw [← Int.natCast_mul, h2, Nat.mul_comm])]
      exact iteF ⟨_, rfl, rfl⟩
    · rintro σ' H' ⟨_, rfl, rfl⟩
      refine ⟨upd_same, ?_⟩
      dsimp only
      rw [back]
      clear back hz1' hd1' nz5
      -- the first state
      refine ⟨_, rfl, cl, rfl, ⟨_, .of hcl⟩, fun D0 nD0 => ?_⟩
      refine lc_out (n := cxs.length) walk_list nD0 (by omega) (fun i y H => ∃ c, v.cells[i]? = some c ∧ y = .int c.2) (fun _ _ _ _ _ _ h => h) (fun H' s => .of (s _ _ hcl)) (fun i x H' H2 N F hi s y k => ?_) (fun J1 zs s1 hD el hz => ?_)
      · obtain ⟨rfl, ex⟩ := y
        obtain ⟨dd, ed, hdd⟩ := dps_get hcx ex
        obtain ⟨cc, ec, rfl⟩ := get_mapA ed
        obtain ⟨t, x1, x2, rfl, ht, e1, e2⟩ := dp2 (dp_same s hdd)
        cases dp_int e2
        exact ⟨rfl, iteT ⟨_, rfl, _, _, _, _, rfl, rfl, ht, at1, k _ _ (Same.refl _) ⟨cc, ec, rfl⟩⟩⟩
      have em : zs = f.map V.int := by
        rw [ef, List.map_map]
        exact map_of (by omega) fun i y e => by
          obtain ⟨c, h1, h2⟩ := hz i y e
          exact ⟨c, h1, h2⟩
      subst em
      clear hz el
      refine .inl ⟨D0, _, rfl, .of hD, fun st nst => ?_⟩
      have s2 := same_new (o := .tup (f.map V.int)) nst
      have hst : upd J1 st (.tup (f.map V.int)) st = some (.tup (f.map V.int)) := upd_same
      generalize upd J1 st (.tup (f.map V.int)) = J2 at s2 hst ⊢
      have s02 := s1.trans s2
      -- no call
      refine ⟨_, rfl, (by show 0 ≤ sizeLine; exact Nat.zero_le _), fun e0 ne0 => ?_⟩
      have s3 := same_new (o := .lst []) ne0
      have he0 : upd J2 e0 (.lst []) e0 = some (.lst []) := upd_same
      generalize upd J2 e0 (.lst []) = J3 at s3 he0 ⊢
      have s03 := s02.trans s3
      refine ⟨x, e0, v, [], [], rfl, vt.same s03, gd, .of he0, rowIs_nil, (fun c h => nomatch h), by decide, fun d6 kv6 J4 s4 nd6 hd6 hsh6 => ?_⟩
      have s04 := s03.trans s4
      rw [← ef] at hsh6
      intro w0 nw0
      have s5 : Same J4 (upd J4 w0 (.dT [])) := same_new nw0
      have hst5 := s5 _ _ (s4 _ _ (s3 _ _ hst))
      refine ⟨_, rfl, upd_same, st, stK f, rfl, by rw [stK_v]; exact hst5, ?_⟩
      have s6 : Same J4 (upd (upd J4 w0 (.dT [])) w0 (.dT [(stK f, .int 1)])) := fun b o e => by rw [upd_ne (ne_of_none e nw0)]; exact s5 _ _ e
      have hw6 : upd (upd J4 w0 (.dT [])) w0 (.dT [(stK f, .int 1)]) w0 = some (.dT (WK (rowC v f []))) := upd_same
      generalize upd (upd J4 w0 (.dT [])) w0 (.dT [(stK f, .int 1)]) = J6 at s6 hw6 ⊢
      have s06 := s04.trans s6
      have n6w : d6 ≠ w0 := ne_of_none hd6 nw0
      refine ⟨d6, w0, kv6, rowC v f [], 0, v.cells.map (·.1), rfl, s6 _ _ hd6, hsh6.same s6, hw6, n6w, rowC_ok gd so (cs := []) (fun c h => nomatch h), c9, rfl, by decide, _, rfl, iteF ?_⟩
      -- the whole again
      refine ⟨_, rfl, _, rfl, x, r2, v, rxs, rcs, rfl, vt.same s06, gd, .of (s06 _ _ hr2), hrw.same s06, hrv, by omega, fun d7 kv7 J7 s7 nd7 hd7 hsh7 => ?_⟩
      rw [← ef, ← eL] at hsh7
      have s07 := s06.trans s7
      exact ⟨_, rfl, _, _, _, _, rfl, rfl, .of (s07 _ _ hz1), at0, _, rfl, _, _, _, _, rfl, rfl, .of (s07 _ _ hz1), at1, d7, d1, kv7, L, rcs.length, v.cells.map (·.1), rfl, hd7, hsh7, s07 _ _ hd1, Ne.symm (ne_of_none (s06 _ _ hd1) nd7), okW, c9, totW, by omega, q _⟩
end

end M

open PySem PySem.W PySem.Calls PyProof.Rows
set_option maxRecDepth 100000 in
set_option maxHeartbeats 0 in
theorem PySem.Challenge.cw_pastless_k13_whole_shares_by_own_fractio_holds : PySem.Challenge.rw_pastless_k13_whole_shares_by_own_fractio.Holds := by
  w_on; o_law
  refine HandSHeadRun.head_imp (r := OpenLaw.row PySem.Challenge.rw_pastless_k13_whole_shares_by_own_fractio) (q := view (OpenLaw.row PySem.Challenge.rw_pastless_k13_whole_shares_by_own_fractio).prog [0, 103]) (H := M.hk) (ob := M.ob) (M := 20000) (loose := M.names) (d := HandSHeadRun.topDef (OpenLaw.row PySem.Challenge.rw_pastless_k13_whole_shares_by_own_fractio).prog 103) (kwd := []) M.ob_eq M.run (by kernel_rfl) (by kernel_rfl) (by kernel_rfl) (by rfl) (by first | assumption | decide +kernel) (by decide +kernel) ⟨rfl, rfl, rfl, rfl, rfl, by decide +kernel⟩ ?hw ?hc
  case hw => w_witness2
  case hc =>
    refine L2.walk_ofE (l := PySem.Challenge.rw_pastless_k13_whole_shares_by_own_fractio) (n := 63) (k := 57) (x := "_law_script") (CX := L2.CX0) rfl (by decide) (by kernel_rfl) ⟨rfl, by decide, by decide⟩ ?F (fun _ _ _ _ z => z)
    intro w mg fa h Y G hmg0
    obtain ⟨K, KX, c⟩ := Y
    have hmg : mg ("law" : PySem.Str) = some (.ref fa) := by
      have e : (HandSHeadRun.topDef (OpenLaw.row PySem.Challenge.rw_pastless_k13_whole_shares_by_own_fractio).prog 103).name = ("law" : PySem.Str) := by kernel_rfl
      rw [← e]
      exact hmg0
    have T : M.Txt w K mg := ⟨⟨h, c⟩, ⟨h, KX, G⟩⟩
    have e := hmg.symm.trans T.g_law
    cases e
    obtain ⟨fd, hF⟩ := T.f_law
    have b := fun s => L2.FunD.bindsA (ps := ["_law_script"]) hF (fun _ _ _ _ _ _ us hl => match us, hl with | [_], _ => rfl) s
    exact ⟨K, fd, M.spLaw K, KX, fun s v => b s [v] rfl, fun H a ns hl hO hS => ⟨a, ns, rfl, hS, hl, fun _ => rfl⟩, fun base _ _ => M.ok_law T hF⟩
