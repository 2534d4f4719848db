import PyProof.Rows.All
import Wide.All
import OpenK.AllK
import Wide.FinOn
import KE.KStateDown
import HandS.ForMost
import HandS.ForExc
import HandS.More
import HandS.Conv
import HandS.IsInst
import HandS.DictComp
import HandS.Zip
import HandS.Walk
import HandS.SetKeys
import HandS.Codes
import HandS.CallLocal
import HandS.WrittenGet
import HandS.TryMany
import HandS.ExcField
import HandS.Flow
import HandS.Style
import HandS.Evl
import HandS.Wide
import HandS.WideBits
import HandS.Defaults
import HandS.Head0
import HandS.Head1
import HandS.Head2
import HandS.Head3
import HandS.HeadEnd
import HandS.HeadHook1
import HandS.HeadHook2
import HandS.HeadHook3
import HandS.HeadHook4
import HandS.ExcOwn
import HandS.TryOnly
import HandS.TryElse
import HandS.TupAny
import HandS.ExcInit
import KE.KDictKeyed
import KE.KDictDisplayH
import PyProof.SumAny
import KE.KDictWalk
import HandS.Gcd
import HandS.Sort
import HandS.TupLen
import HandS.StrMore
import HandS.MakeKwOnly
import KE.KDictZip
import HandS.OwnIter
import PySem.Challenge.RW_pastless_k20_states_in_order
set_option Elab.async false
set_option linter.all false
set_option maxRecDepth 100000
set_option maxHeartbeats 2000000
namespace M
open PySem PySem.Spec PyProof.Rows L2
def top (i : Nat) : Stmt := PySem.Challenge.pw_pastless_k20_states_in_order.main.body.getD i (.Pass ⟨0, 0, 0, 0⟩)
abbrev s__wall : Stmt := top 0
abbrev s_NoVault_init : Stmt := inClass (top 7) 0
abbrev s_TooMany_init : Stmt := inClass (top 8) 0
abbrev s_is_integer : Stmt := top 13
abbrev s_is_within : Stmt := top 14
abbrev s_is_tuple : Stmt := top 15
abbrev s_is_state : Stmt := top 16
abbrev s_check_state : Stmt := top 17
abbrev s_check_most : Stmt := top 18
abbrev s_Run_init : Stmt := inClass (top 20) 0
abbrev s_value_of : Stmt := top 21
abbrev s_do_read : Stmt := top 22
abbrev s_do_set : Stmt := top 23
abbrev s_do_swap : Stmt := top 24
abbrev s_do_keep : Stmt := top 25
abbrev s_do_coin : Stmt := top 26
abbrev s_do_answer : Stmt := top 27
abbrev s_do_unless : Stmt := top 28
abbrev s_do_on : Stmt := top 29
abbrev s_do_rounds : Stmt := top 30
abbrev s_do_round : Stmt := top 31
abbrev s_finish : Stmt := top 33
abbrev s_ways_from : Stmt := top 34
abbrev s_Reach_init : Stmt := inClass (top 36) 0
abbrev s_Reach_ways : Stmt := inClass (top 36) 1
abbrev s_Reach_met : Stmt := inClass (top 36) 2
abbrev s_reach_of : Stmt := top 37
abbrev s_put_ways : Stmt := top 38
abbrev s_states : Stmt := top 40
abbrev s_Tally_init : Stmt := inClass (top 51) 0
abbrev s_is_expression : Stmt := top 52
abbrev s_is_part : Stmt := top 53
abbrev s_is_body_row : Stmt := top 54
abbrev s_are_body_rows : Stmt := top 55
abbrev s_is_body : Stmt := top 56
abbrev s_code_of : Stmt := top 58
abbrev s_put_rows : Stmt := top 59
abbrev s_put_if : Stmt := top 60
abbrev s_put_times : Stmt := top 61
abbrev s_Vault_init : Stmt := inClass (top 66) 0
abbrev s_Vault_sizes : Stmt := inClass (top 66) 1
abbrev s_Vault_first : Stmt := inClass (top 66) 2
abbrev s_Vault_names : Stmt := inClass (top 66) 3
abbrev s_Vault_choices : Stmt := inClass (top 66) 4
abbrev s_Vault_rows : Stmt := inClass (top 66) 5
abbrev s_Vault_calls : Stmt := inClass (top 66) 6
abbrev s_Vault_has_coins : Stmt := inClass (top 66) 7
abbrev s_Vault_shape : Stmt := inClass (top 66) 8
abbrev s_Vault_starts : Stmt := inClass (top 66) 9
abbrev s_Vault_deed : Stmt := inClass (top 66) 10
abbrev s_Vault_eq : Stmt := inClass (top 66) 11
abbrev s_has_row : Stmt := top 67
abbrev s_is_cell : Stmt := top 68
abbrev s_are_cells : Stmt := top 69
abbrev s_is_name : Stmt := top 70
abbrev s_is_deed_head : Stmt := top 71
abbrev s_is_deed : Stmt := top 72
abbrev s_are_deeds : Stmt := top 73
abbrev s_begun : Stmt := top 74
abbrev s_l_box : Stmt := top 76
abbrev s_l_draw : Stmt := top 77
abbrev s_l_expr : Stmt := top 78
abbrev s_l_rows : Stmt := top 79
abbrev s_l_body : Stmt := top 80
abbrev s_l_hide : Stmt := top 81
abbrev s_l_name : Stmt := top 82
abbrev s_l_vault : Stmt := top 83
abbrev s_l_worth : Stmt := top 84
abbrev s_l_do : Stmt := top 85
abbrev s_l_outcomes : Stmt := top 86
abbrev s_l_calls : Stmt := top 87
abbrev s_l_found : Stmt := top 88
abbrev s_l_more : Stmt := top 89
abbrev s_l_begun : Stmt := top 90
abbrev s_law : Stmt := top 91
abbrev dd (x : Str) (st : Stmt) : He.DefD := ⟨(x, none), x, x, defArgs st, defBody st, defScope st, [], []⟩
abbrev dm (C m q : Str) (st : Stmt) : He.DefD := ⟨(C, some m), m, q, defArgs st, defBody st, defScope st, [], []⟩
def fn : List He.DefD := [dd "_wall" s__wall, dm "NoVault" "__init__" "NoVault.__init__" s_NoVault_init, dm "TooMany" "__init__" "TooMany.__init__" s_TooMany_init, dd "is_integer" s_is_integer, dd "is_within" s_is_within, dd "is_tuple" s_is_tuple, dd "is_state" s_is_state, dd "check_state" s_check_state, dd "check_most" s_check_most, dm "Run" "__init__" "Run.__init__" s_Run_init, dd "value_of" s_value_of, dd "do_read" s_do_read, dd "do_set" s_do_set, dd "do_swap" s_do_swap, dd "do_keep" s_do_keep, dd "do_coin" s_do_coin, dd "do_answer" s_do_answer, dd "do_unless" s_do_unless, dd "do_on" s_do_on, dd "do_rounds" s_do_rounds, dd "do_round" s_do_round, dd "finish" s_finish, dd "ways_from" s_ways_from, dm "Reach" "__init__" "Reach.__init__" s_Reach_init, dm "Reach" "ways" "Reach.ways" s_Reach_ways, dm "Reach" "met" "Reach.met" s_Reach_met, dd "reach_of" s_reach_of, dd "put_ways" s_put_ways, { dd "states" s_states with kwd := [("most", .int 2000)] }, dm "Tally" "__init__" "Tally.__init__" s_Tally_init, dd "is_expression" s_is_expression, dd "is_part" s_is_part, dd "is_body_row" s_is_body_row, dd "are_body_rows" s_are_body_rows, dd "is_body" s_is_body, dd "code_of" s_code_of, dd "put_rows" s_put_rows, dd "put_if" s_put_if, dd "put_times" s_put_times, dm "Vault" "__init__" "Vault.__init__" s_Vault_init, dm "Vault" "sizes" "Vault.sizes" s_Vault_sizes, dm "Vault" "first" "Vault.first" s_Vault_first, dm "Vault" "names" "Vault.names" s_Vault_names, dm "Vault" "choices" "Vault.choices" s_Vault_choices, dm "Vault" "rows" "Vault.rows" s_Vault_rows, dm "Vault" "calls" "Vault.calls" s_Vault_calls, dm "Vault" "has_coins" "Vault.has_coins" s_Vault_has_coins, dm "Vault" "shape" "Vault.shape" s_Vault_shape, dm "Vault" "starts" "Vault.starts" s_Vault_starts, dm "Vault" "_deed" "Vault._deed" s_Vault_deed, dm "Vault" "__eq__" "Vault.__eq__" s_Vault_eq, dd "has_row" s_has_row, dd "is_cell" s_is_cell, dd "are_cells" s_are_cells, dd "is_name" s_is_name, dd "is_deed_head" s_is_deed_head, dd "is_deed" s_is_deed, dd "are_deeds" s_are_deeds, dd "begun" s_begun, dd "_law_box" s_l_box, dd "_law_draw" s_l_draw, dd "_law_expr" s_l_expr, dd "_law_rows" s_l_rows, dd "_law_body" s_l_body, dd "_law_hide" s_l_hide, dd "_law_name" s_l_name, dd "_law_vault" s_l_vault, dd "_law_worth" s_l_worth, dd "_law_do" s_l_do, dd "_law_outcomes" s_l_outcomes, dd "_law_calls" s_l_calls, dd "_law_found" s_l_found, dd "_law_more" s_l_more, dd "_law_begun" s_l_begun, dd "law" s_law]
def fa0 : List He.Fa := [.glo "_wall", .glo "is_integer", .glo "is_within", .glo "is_tuple", .glo "is_state", .glo "check_state", .glo "check_most", .glo "value_of", .glo "do_read", .glo "do_set", .glo "do_swap", .glo "do_keep", .glo "do_coin", .glo "do_answer", .glo "do_unless", .glo "do_on", .glo "do_rounds", .glo "do_round", .glo "finish", .glo "ways_from", .glo "reach_of", .glo "put_ways", .glo "states", .glo "is_expression", .glo "is_part", .glo "is_body_row", .glo "are_body_rows", .glo "is_body", .glo "code_of", .glo "put_rows"]
def fa1 : List He.Fa := [.glo "put_if", .glo "put_times", .glo "has_row", .glo "is_cell", .glo "are_cells", .glo "is_name", .glo "is_deed_head", .glo "is_deed", .glo "are_deeds", .glo "begun", .glo "_law_box", .glo "_law_draw", .glo "_law_expr", .glo "_law_rows", .glo "_law_body", .glo "_law_hide", .glo "_law_name", .glo "_law_vault", .glo "_law_worth", .glo "_law_do", .glo "_law_outcomes", .glo "_law_calls", .glo "_law_found", .glo "_law_more", .glo "_law_begun", .glo "law", .glo "PastError", .glo "NoName", .glo "NoState", .glo "CoinsOut"]
def fa2 : List He.Fa := [.glo "NoMost", .glo "NoVault", .glo "TooMany", .glo "Run", .cls "Run", .mkr "Run", .noat "Run" "code", .noat "Run" "sides", .noat "Run" "cells", .noat "Run" "coins", .noat "Run" "fallen", .noat "Run" "held", .noat "Run" "rounds", .noat "Run" "place", .noat "Run" "result", .glo "Reach", .cls "Reach", .mkr "Reach", .meth "Reach" "ways", .meth "Reach" "met", .noat "Reach" "source", .noat "Reach" "list_of_calls", .noat "Reach" "found", .noat "Reach" "places", .noat "Reach" "origins", .noat "Reach" "replies", .noat "Reach" "leads", .noat "Reach" "spread", .glo "Tally", .cls "Tally"]
def fa3 : List He.Fa := [.mkr "Tally", .noat "Tally" "cells", .noat "Tally" "coins", .noat "Tally" "lines", .glo "Vault", .cls "Vault", .mkr "Vault", .meth "Vault" "sizes", .meth "Vault" "first", .meth "Vault" "names", .meth "Vault" "choices", .meth "Vault" "rows", .meth "Vault" "calls", .meth "Vault" "has_coins", .meth "Vault" "shape", .meth "Vault" "starts", .meth "Vault" "_deed", .noat "Vault" "_cells", .noat "Vault" "_deeds", .noat "Vault" "_codes", .noat "Vault" "_coins", .exc "NoName", .exc "NoState", .exc "CoinsOut", .exc "NoMost", .exm "NoState" "CoinsOut" false, .exm "NoMost" "CoinsOut" false, .exm "CoinsOut" "CoinsOut" true, .exm "NoName" "CoinsOut" false, .exm "NoVault" "CoinsOut" false]
def fa4 : List He.Fa := [.exm "TooMany" "CoinsOut" false, .free "len", .free "isinstance", .free "int", .free "abs", .free "tuple", .free "list", .free "str", .free "bool", .free "range", .free "zip", .free "enumerate", .free "set", .free "min", .free "max", .free "reversed", .free "sorted", .free "sum", .free "dict", .free "repr", .int "GREATEST_MOST" (100000), .int "MOST_CELLS" (6), .int "GREATEST_SIZE" (9), .glo "ACTIONS", .glo "CHANGED", .glo "HELD", .glo "SIGNS", .glo "FORMS", .int "DEEPEST_EXPRESSION" (6), .int "DEEPEST_ROW" (12)]
def fa5 : List He.Fa := [.int "DEEPEST_TIMES" (2), .int "MOST_COINS" (4), .int "MOST_ROWS" (2000), .int "MOST_DEEDS" (8), .int "LONGEST_NAME" (8), .int "MOST_CHOICES" (9)]
def fa : List He.Fa := fa0 ++ fa1 ++ fa2 ++ fa3 ++ fa4 ++ fa5
/-- the values of a written dict are tuples of texts -/
def formsB (K : PySem.W.Frag) (a : Addr) (kvs : List (Str × List Str)) : Bool := kvs.all fun q => match PySem.W.nsIn K a q.1 with
  | some (some (.ref t)) => (match K.lookup t with
    | some ⟨.type c, none, .seq its _, _⟩ => decide (c = "tuple") && (decide (its.size ≤ sizeLine) && He.relAll (q.2.map V.str) its.toList)
    | _ => false)
  | _ => false
/-- the class x is an error with its own __init__, which keeps the field f -/
def oexS (K : PySem.W.Frag) (C : Addr) : Bool := match K.lookup C with
  | some ⟨.type t, _, .cls cd, sl⟩ => (match cd.mro, sl.toList with
    | .ref D :: bm, [_, _, _, _, some (.builtin n), _] => decide (t = "type") && (decide (D = C) && (decide (n = "ValueError.__new__") && (cd.hasDict && (!cd.hasDel && PySem.HandSPX.refsVE bm))))
    | _, _ => false)
  | _ => false
def oexB (K : PySem.W.Frag) (x f : Str) : Bool := oexS K (He.ga K x) && (He.eqO (PySem.W.findIn K (.ref (He.ga K x)) "__setattr__") (some (some (.builtin "object.__setattr__"))) && (decide (PySem.W.subIn K (.ref (He.ga K x)) (.type "BaseException") = some true) &&
  (decide (PySem.W.typeIn K (.ref (He.ga K x)) = some (.type "type")) && (PySem.W.keepIn K (.ref (He.ga K x)) && (xfB K (He.ga K x) && (He.eqO (PySem.W.findIn K (.ref (He.ga K x)) f) (some none) &&
  (He.eqO (PySem.W.findIn K (.ref (He.ga K x)) "__init__") (some (some (.ref (He.ma K (He.ga K x) "__init__")))) && decide (PySem.W.typeIn K (.ref (He.ma K (He.ga K x) "__init__")) = some (.type "function")))))))))
/-- the class x reads its __init__ off ValueError -/
def pinB (K : PySem.W.Frag) (x : Str) : Bool := PySem.W.readsIn K (He.ga K x) (.type "type") && (decide (PySem.W.specialIn K (.ref (He.ga K x)) "__getattribute__" = some (some (.builtin "type.__getattribute__"))) &&
  (match PySem.W.findCls K (.ref (He.ga K x)) (.type "type") "__init__" with
    | some (.val (.builtin i)) => decide (i = "ValueError.__init__")
    | _ => false))
def as0 : List Addr := [3, 6, 4, 21, 31, 44, 56, 68, 80, 99, 118, 127, 134, 141, 148, 155, 162, 179, 190, 197, 204, 211, 218, 225, 232, 239, 246, 253, 260, 261]
def as1 : List Addr := [268, 275, 304, 315, 322, 330, 331, 332, 333, 334, 359, 370, 377, 384, 391, 398, 405, 412, 419, 426, 510, 521, 528, 535, 542, 549, 556, 563, 570, 575]
def as2 : List Addr := [582, 589, 596, 603, 610, 615, 622, 629, 636, 641, 648, 653, 660, 667, 674, 0, 20, 30, 43, 55, 67, 79, 98, 117, 126, 133, 140, 147, 154, 161]
def as3 : List Addr := [178, 189, 196, 203, 210, 217, 224, 231, 238, 245, 252, 259, 267, 274, 303, 314, 321, 329, 323, 335, 336, 337, 338, 339, 340, 341, 342, 358, 369, 376]
def as4 : List Addr := [383, 390, 397, 404, 411, 418, 425, 509, 520, 527, 534, 541, 548, 555, 562, 569, 574, 581, 588, 595, 602, 609, 614, 621, 628, 635, 640, 647, 652, 659]
def as5 : List Addr := [666, 673, 15, 16, 17, 18, 19, 29, 32, 42, 54, 66, 78, 96, 97, 115, 116, 121, 122, 123, 124, 125, 128, 129, 130, 131, 132, 135, 136, 137]
def as6 : List Addr := [138, 139, 142, 143, 144, 145, 146, 149, 150, 151, 152, 153, 156, 157, 158, 159, 160, 176, 177, 180, 181, 184, 185, 186, 187, 188, 191, 192, 193, 194]
def as7 : List Addr := [195, 198, 199, 200, 201, 202, 205, 206, 207, 208, 209, 212, 213, 214, 215, 216, 219, 220, 221, 222, 223, 226, 227, 228, 229, 230, 233, 234, 235, 236]
def as8 : List Addr := [237, 240, 241, 242, 243, 244, 247, 248, 249, 250, 251, 254, 255, 256, 257, 258, 262, 263, 264, 265, 266, 269, 270, 271, 272, 273, 287, 294, 301, 302]
def as9 : List Addr := [305, 306, 309, 310, 311, 312, 313, 316, 317, 318, 319, 320, 324, 325, 326, 327, 328, 356, 357, 360, 361, 364, 365, 366, 367, 368, 371, 372, 373, 374]
def as10 : List Addr := [375, 378, 379, 380, 381, 382, 385, 386, 387, 388, 389, 392, 393, 394, 395, 396, 399, 400, 401, 402, 403, 406, 407, 408, 409, 410, 413, 414, 415, 416]
def as11 : List Addr := [417, 420, 421, 422, 423, 424, 438, 443, 448, 455, 462, 469, 474, 481, 488, 493, 500, 507, 508, 511, 512, 515, 516, 517, 518, 519, 522, 523, 524, 525]
def as12 : List Addr := [526, 529, 530, 531, 532, 533, 536, 537, 538, 539, 540, 543, 544, 545, 546, 547, 550, 551, 552, 553, 554, 557, 558, 559, 560, 561, 564, 565, 566, 567]
def as13 : List Addr := [568, 571, 572, 573, 576, 577, 578, 579, 580, 583, 584, 585, 586, 587, 590, 591, 592, 593, 594, 597, 598, 599, 600, 601, 604, 605, 606, 607, 608, 611]
def as14 : List Addr := [612, 613, 616, 617, 618, 619, 620, 623, 624, 625, 626, 627, 630, 631, 632, 633, 634, 637, 638, 639, 642, 643, 644, 645, 646, 649, 650, 651, 654, 655]
def as15 : List Addr := [656, 657, 658, 661, 662, 663, 664, 665, 668, 669, 670, 671, 672, 95, 114, 175, 286, 293, 300, 355, 437, 442, 447, 454, 461, 468, 473, 480, 487, 492]
def as16 : List Addr := [499, 506, 2]
def asL : List Addr := as0 ++ (as1 ++ (as2 ++ (as3 ++ (as4 ++ (as5 ++ (as6 ++ (as7 ++ (as8 ++ (as9 ++ (as10 ++ (as11 ++ (as12 ++ (as13 ++ (as14 ++ (as15 ++ (as16))))))))))))))))
/-- the places that the names reach, and that of the interpreter's own marks -/
def aS (_ : Addr → Option Obj) (_ : Nat) : List Addr := asL
def obS (n : Nat) (fa : List He.Fa) (fn : List He.DefD) (ts : List He.Tab) (ex : PySem.W.Frag → Bool) (g : Addr → Option Obj) : He.AlX := (He.obsT fa fn ts (He.frT g (aS g n)), ex (He.frT g (aS g n)))
theorem obS_says {n : Nat} {fa : List He.Fa} {fn : List He.DefD} {ts : List He.Tab} {ex : PySem.W.Frag → Bool} {w : World} {h : Heap} (e : obS n fa fn ts ex h.get? = He.valX fn ts w) : He.SaysX fa fn ts [] ex w h (He.frT h.get? (aS h.get? n)) := by
  have e1 := congrArg Prod.fst e
  have e2 := congrArg Prod.snd e
  constructor
  · exact e1
  · exact e2
  all_goals
    intro p hp
    cases hp
def hookS (n : Nat) (fa : List He.Fa) (fn : List He.DefD) (ts : List He.Tab) (ex : PySem.W.Frag → Bool) : PySem.W.Hook :=
  { α := He.AlX, obs := fun s => obS n fa fn ts ex s.heap.get?, val := fun w => He.valX fn ts w, says := fun w h => ∃ K : PySem.W.Frag, K.In h ∧ He.SaysX fa fn ts [] ex w h K, of := fun _ _ e => ⟨_, He.frT_in, obS_says e⟩,
    keeps := by
      intro w h h2 z k
      obtain ⟨K, z1, z2⟩ := z
      exact ⟨K, PySem.W.Frag.In.keeps z1 k, ⟨z2.t, z2.more, z2.hd, z2.out, fun p hp => by cases hp⟩⟩ }
theorem obS_eq {n : Nat} {fa : List He.Fa} {fn : List He.DefD} {ts : List He.Tab} {ex : PySem.W.Frag → Bool} {g : Addr → Option Obj} {s : Shared} (h : ∀ a, g a = s.heap.get? a) : obS n fa fn ts ex g = (hookS n fa fn ts ex).obs s := by
  cases (funext h : g = s.heap.get?)
  rfl
def ts : List He.Tab := [((fun K => He.ga K "ACTIONS"), ["read", "set", "swap", "keep", "coin", "answer", "unless", "on", "rounds", "round"]), ((fun K => He.ga K "FORMS"), ["read", "set", "swap", "keep", "coin", "if", "times", "answer"])]
def ex (K : PySem.W.Frag) : Bool := He.valsB K (He.ga K "ACTIONS") [("read", .glo "do_read"), ("set", .glo "do_set"), ("swap", .glo "do_swap"), ("keep", .glo "do_keep"), ("coin", .glo "do_coin"), ("answer", .glo "do_answer"), ("unless", .glo "do_unless"), ("on", .glo "do_on"), ("rounds", .glo "do_rounds"), ("round", .glo "do_round")] && (He.tupB K "CHANGED" [.str "a", .str "b", .str "c", .str "d"] && (He.tupB K "HELD" [.str "a", .str "b", .str "c", .str "d", .str "x"] && (He.tupB K "SIGNS" [.str "+", .str "-", .str "*", .str "=", .str "<"] && (formsB K (He.ga K "FORMS") [("read", ["REG", "CELL"]), ("set", ["CELL", "E"]), ("swap", ["REG", "CELL", "E", "E"]), ("keep", ["REG", "E"]), ("coin", ["REG"]), ("if", ["E", "ROWS", "ROWS"]), ("times", ["E", "ROWS"]), ("answer", ["E"])] && (oexB K "NoVault" "part" && (oexB K "TooMany" "most" && (pinB K "PastError")))))))
end M

section
set_option maxRecDepth 100000
namespace M
open PySem PySem.Spec PyProof.Rows L2
set_option maxHeartbeats 0
def nm0 : List PySem.Str := ["_wall", "PastError", "NoName", "NoState", "CoinsOut", "NoMost", "NoVault", "TooMany", "GREATEST_MOST", "MOST_CELLS", "GREATEST_SIZE", "is_integer", "is_within", "is_tuple", "is_state", "check_state", "check_most", "Run", "value_of", "do_read", "do_set", "do_swap", "do_keep", "do_coin", "do_answer", "do_unless", "do_on", "do_rounds", "do_round", "ACTIONS"]
def nm1 : List PySem.Str := ["finish", "ways_from", "Reach", "reach_of", "put_ways", "states", "CHANGED", "HELD", "SIGNS", "FORMS", "DEEPEST_EXPRESSION", "DEEPEST_ROW", "DEEPEST_TIMES", "MOST_COINS", "MOST_ROWS", "Tally", "is_expression", "is_part", "is_body_row", "are_body_rows", "is_body", "code_of", "put_rows", "put_if", "put_times", "MOST_DEEDS", "LONGEST_NAME", "MOST_CHOICES", "Vault", "has_row"]
def nm2 : List PySem.Str := ["is_cell", "are_cells", "is_name", "is_deed_head", "is_deed", "are_deeds", "begun", "_law_box", "_law_draw", "_law_expr", "_law_rows", "_law_body", "_law_hide", "_law_name", "_law_vault", "_law_worth", "_law_do", "_law_outcomes", "_law_calls", "_law_found", "_law_more", "_law_begun"]
def names : List PySem.Str := nm0 ++ nm1 ++ nm2
abbrev R : PySem.W.OpenRow := PySem.W.OpenLaw.row PySem.Challenge.rw_pastless_k20_states_in_order
abbrev hk : PySem.W.Hook := hookS 4 fa fn ts ex
def ob (s : PySem.W.SharedT) : He.AlX := obS 4 fa fn ts ex (HandSHeadRun.getT s)
theorem ob_eq (s : PySem.W.SharedT) : ob s = hk.obs s.abs := obS_eq (HandSHeadRun.getT_eq s)
theorem run_false (w : World) : HandSHeadRun.RunEq R (PySem.W.view R.prog [91]) hk ob 8000 names (w.withFollow "special-get-raises" false) := by
  intro os
  kernel_rfl
theorem run_true (w : World) : HandSHeadRun.RunEq R (PySem.W.view R.prog [91]) hk ob 8000 names (w.withFollow "special-get-raises" true) := by
  intro os
  kernel_rfl
theorem run (w : World) : HandSHeadRun.RunEq R (PySem.W.view R.prog [91]) hk ob 8000 names w :=
  PySem.W.byRow2 "special-get-raises" (P := fun w => HandSHeadRun.RunEq R (PySem.W.view R.prog [91]) hk ob 8000 names w) run_false run_true w
end M
end

namespace M
open PySem PySem.Spec PyProof.Rows L2
/-- what the top has written -/
structure Txt (w : World) (K : PySem.W.Frag) (mg : Str → Option Value) : Prop where
  says : ∃ h, He.SaysX fa fn ts [] ex w h K
  X : ∃ h : Heap, K.In h ∧ h.Ns mainGlobals mg
section
variable {P : Program} {w : World} {K : PySem.W.Frag} {mg : Str → Option Value} {base : Heap}
theorem Txt.fact (T : Txt w K mg) (i : Nat) {f : He.Fa} (h : fa[i]? = some f := by rfl) : f.ok K = true := by
  obtain ⟨_, s⟩ := T.says
  exact s.t.d.fact i h
theorem Txt.glo (T : Txt w K mg) (i : Nat) {x : Str} (h : fa[i]? = some (.glo x) := by rfl) : mg x = some (.ref (He.ga K x)) := by
  obtain ⟨_, X, G⟩ := T.X
  exact He.glo_ok X G (T.fact i h)
theorem Txt.fr (T : Txt w K mg) (i : Nat) {x : Str} (h : fa[i]? = some (.free x) := by rfl) : mg x = none := by
  obtain ⟨_, X, G⟩ := T.X
  exact He.free_ok X G (T.fact i h)
theorem Txt.int (T : Txt w K mg) (i : Nat) {x : Str} {n : Int} (h : fa[i]? = some (.int x n) := by rfl) : ∃ u, mg x = some u ∧ RelV (.int n) u := by
  obtain ⟨_, X, G⟩ := T.X
  obtain ⟨t, e⟩ := He.int_ok X G (T.fact i h)
  exact ⟨_, e, ⟨t, rfl⟩⟩
theorem Txt.fd (T : Txt w K mg) (i : Nat) {d : He.DefD} (h : fn[i]? = some d := by rfl) : ∃ f, FunD K d.name d.qual d.params d.body d.scope (d.dvs K) (d.kws K) (He.fAd K d.at_) f := by
  obtain ⟨_, s⟩ := T.says
  exact s.t.d.def_ i h
theorem Txt.ex (T : Txt w K mg) : ex K = true := by
  obtain ⟨_, s⟩ := T.says
  exact s.more
theorem Txt.tab (T : Txt w K mg) (i : Nat) {t : He.Tab} (h : ts[i]? = some t := by rfl) : ∃ es n, KDict K w (t.1 K) es n := by
  obtain ⟨_, s⟩ := T.says
  exact s.t.tab i h
end
/-! places of the facts: 0 glo "_wall"; 1 glo "is_integer"; 2 glo "is_within"; 3 glo "is_tuple"; 4 glo "is_state"; 5 glo "check_state"; 6 glo "check_most"; 7 glo "value_of"; 8 glo "do_read"; 9 glo "do_set"; 10 glo "do_swap"; 11 glo "do_keep"; 12 glo "do_coin"; 13 glo "do_answer"; 14 glo "do_unless"; 15 glo "do_on"; 16 glo "do_rounds"; 17 glo "do_round"; 18 glo "finish"; 19 glo "ways_from"; 20 glo "reach_of"; 21 glo "put_ways"; 22 glo "states"; 23 glo "is_expression"; 24 glo "is_part"; 25 glo "is_body_row"; 26 glo "are_body_rows"; 27 glo "is_body"; 28 glo "code_of"; 29 glo "put_rows"; 30 glo "put_if"; 31 glo "put_times"; 32 glo "has_row"; 33 glo "is_cell"; 34 glo "are_cells"; 35 glo "is_name"; 36 glo "is_deed_head"; 37 glo "is_deed"; 38 glo "are_deeds"; 39 glo "begun"; 40 glo "_law_box"; 41 glo "_law_draw"; 42 glo "_law_expr"; 43 glo "_law_rows"; 44 glo "_law_body"; 45 glo "_law_hide"; 46 glo "_law_name"; 47 glo "_law_vault"; 48 glo "_law_worth"; 49 glo "_law_do"; 50 glo "_law_outcomes"; 51 glo "_law_calls"; 52 glo "_law_found"; 53 glo "_law_more"; 54 glo "_law_begun"; 55 glo "law"; 56 glo "PastError"; 57 glo "NoName"; 58 glo "NoState"; 59 glo "CoinsOut"; 60 glo "NoMost"; 61 glo "NoVault"; 62 glo "TooMany"; 63 glo "Run"; 64 cls "Run"; 65 mkr "Run"; 66 noat "Run" "code"; 67 noat "Run" "sides"; 68 noat "Run" "cells"; 69 noat "Run" "coins"; 70 noat "Run" "fallen"; 71 noat "Run" "held"; 72 noat "Run" "rounds"; 73 noat "Run" "place"; 74 noat "Run" "result"; 75 glo "Reach"; 76 cls "Reach"; 77 mkr "Reach"; 78 meth "Reach" "ways"; 79 meth "Reach" "met"; 80 noat "Reach" "source"; 81 noat "Reach" "list_of_calls"; 82 noat "Reach" "found"; 83 noat "Reach" "places"; 84 noat "Reach" "origins"; 85 noat "Reach" "replies"; 86 noat "Reach" "leads"; 87 noat "Reach" "spread"; 88 glo "Tally"; 89 cls "Tally"; 90 mkr "Tally"; 91 noat "Tally" "cells"; 92 noat "Tally" "coins"; 93 noat "Tally" "lines"; 94 glo "Vault"; 95 cls "Vault"; 96 mkr "Vault"; 97 meth "Vault" "sizes"; 98 meth "Vault" "first"; 99 meth "Vault" "names"; 100 meth "Vault" "choices"; 101 meth "Vault" "rows"; 102 meth "Vault" "calls"; 103 meth "Vault" "has_coins"; 104 meth "Vault" "shape"; 105 meth "Vault" "starts"; 106 meth "Vault" "_deed"; 107 noat "Vault" "_cells"; 108 noat "Vault" "_deeds"; 109 noat "Vault" "_codes"; 110 noat "Vault" "_coins"; 111 exc "NoName"; 112 exc "NoState"; 113 exc "CoinsOut"; 114 exc "NoMost"; 115 exm "NoState" "CoinsOut" false; 116 exm "NoMost" "CoinsOut" false; 117 exm "CoinsOut" "CoinsOut" true; 118 exm "NoName" "CoinsOut" false; 119 exm "NoVault" "CoinsOut" false; 120 exm "TooMany" "CoinsOut" false; 121 free "len"; 122 free "isinstance"; 123 free "int"; 124 free "abs"; 125 free "tuple"; 126 free "list"; 127 free "str"; 128 free "bool"; 129 free "range"; 130 free "zip"; 131 free "enumerate"; 132 free "set"; 133 free "min"; 134 free "max"; 135 free "reversed"; 136 free "sorted"; 137 free "sum"; 138 free "dict"; 139 free "repr"; 140 int "GREATEST_MOST" (100000); 141 int "MOST_CELLS" (6); 142 int "GREATEST_SIZE" (9); 143 glo "ACTIONS"; 144 glo "CHANGED"; 145 glo "HELD"; 146 glo "SIGNS"; 147 glo "FORMS"; 148 int "DEEPEST_EXPRESSION" (6); 149 int "DEEPEST_ROW" (12); 150 int "DEEPEST_TIMES" (2); 151 int "MOST_COINS" (4); 152 int "MOST_ROWS" (2000); 153 int "MOST_DEEDS" (8); 154 int "LONGEST_NAME" (8); 155 int "MOST_CHOICES" (9) -/
section
variable {P : Program} {w : World} {K : PySem.W.Frag} {mg : Str → Option Value} {base : Heap}
theorem Txt.g_wall (T : Txt w K mg) : mg "_wall" = some (.ref (He.ga K "_wall")) := T.glo 0
theorem Txt.g_is_integer (T : Txt w K mg) : mg "is_integer" = some (.ref (He.ga K "is_integer")) := T.glo 1
theorem Txt.g_is_within (T : Txt w K mg) : mg "is_within" = some (.ref (He.ga K "is_within")) := T.glo 2
theorem Txt.g_is_tuple (T : Txt w K mg) : mg "is_tuple" = some (.ref (He.ga K "is_tuple")) := T.glo 3
theorem Txt.g_is_state (T : Txt w K mg) : mg "is_state" = some (.ref (He.ga K "is_state")) := T.glo 4
theorem Txt.g_check_state (T : Txt w K mg) : mg "check_state" = some (.ref (He.ga K "check_state")) := T.glo 5
theorem Txt.g_check_most (T : Txt w K mg) : mg "check_most" = some (.ref (He.ga K "check_most")) := T.glo 6
theorem Txt.g_value_of (T : Txt w K mg) : mg "value_of" = some (.ref (He.ga K "value_of")) := T.glo 7
theorem Txt.g_do_read (T : Txt w K mg) : mg "do_read" = some (.ref (He.ga K "do_read")) := T.glo 8
theorem Txt.g_do_set (T : Txt w K mg) : mg "do_set" = some (.ref (He.ga K "do_set")) := T.glo 9
theorem Txt.g_do_swap (T : Txt w K mg) : mg "do_swap" = some (.ref (He.ga K "do_swap")) := T.glo 10
theorem Txt.g_do_keep (T : Txt w K mg) : mg "do_keep" = some (.ref (He.ga K "do_keep")) := T.glo 11
theorem Txt.g_do_coin (T : Txt w K mg) : mg "do_coin" = some (.ref (He.ga K "do_coin")) := T.glo 12
theorem Txt.g_do_answer (T : Txt w K mg) : mg "do_answer" = some (.ref (He.ga K "do_answer")) := T.glo 13
theorem Txt.g_do_unless (T : Txt w K mg) : mg "do_unless" = some (.ref (He.ga K "do_unless")) := T.glo 14
theorem Txt.g_do_on (T : Txt w K mg) : mg "do_on" = some (.ref (He.ga K "do_on")) := T.glo 15
theorem Txt.g_do_rounds (T : Txt w K mg) : mg "do_rounds" = some (.ref (He.ga K "do_rounds")) := T.glo 16
theorem Txt.g_do_round (T : Txt w K mg) : mg "do_round" = some (.ref (He.ga K "do_round")) := T.glo 17
theorem Txt.g_finish (T : Txt w K mg) : mg "finish" = some (.ref (He.ga K "finish")) := T.glo 18
theorem Txt.g_ways_from (T : Txt w K mg) : mg "ways_from" = some (.ref (He.ga K "ways_from")) := T.glo 19
theorem Txt.g_reach_of (T : Txt w K mg) : mg "reach_of" = some (.ref (He.ga K "reach_of")) := T.glo 20
theorem Txt.g_put_ways (T : Txt w K mg) : mg "put_ways" = some (.ref (He.ga K "put_ways")) := T.glo 21
theorem Txt.g_states (T : Txt w K mg) : mg "states" = some (.ref (He.ga K "states")) := T.glo 22
theorem Txt.g_is_expression (T : Txt w K mg) : mg "is_expression" = some (.ref (He.ga K "is_expression")) := T.glo 23
theorem Txt.g_is_part (T : Txt w K mg) : mg "is_part" = some (.ref (He.ga K "is_part")) := T.glo 24
theorem Txt.g_is_body_row (T : Txt w K mg) : mg "is_body_row" = some (.ref (He.ga K "is_body_row")) := T.glo 25
theorem Txt.g_are_body_rows (T : Txt w K mg) : mg "are_body_rows" = some (.ref (He.ga K "are_body_rows")) := T.glo 26
theorem Txt.g_is_body (T : Txt w K mg) : mg "is_body" = some (.ref (He.ga K "is_body")) := T.glo 27
theorem Txt.g_code_of (T : Txt w K mg) : mg "code_of" = some (.ref (He.ga K "code_of")) := T.glo 28
theorem Txt.g_put_rows (T : Txt w K mg) : mg "put_rows" = some (.ref (He.ga K "put_rows")) := T.glo 29
theorem Txt.g_put_if (T : Txt w K mg) : mg "put_if" = some (.ref (He.ga K "put_if")) := T.glo 30
theorem Txt.g_put_times (T : Txt w K mg) : mg "put_times" = some (.ref (He.ga K "put_times")) := T.glo 31
theorem Txt.g_has_row (T : Txt w K mg) : mg "has_row" = some (.ref (He.ga K "has_row")) := T.glo 32
theorem Txt.g_is_cell (T : Txt w K mg) : mg "is_cell" = some (.ref (He.ga K "is_cell")) := T.glo 33
theorem Txt.g_are_cells (T : Txt w K mg) : mg "are_cells" = some (.ref (He.ga K "are_cells")) := T.glo 34
theorem Txt.g_is_name (T : Txt w K mg) : mg "is_name" = some (.ref (He.ga K "is_name")) := T.glo 35
theorem Txt.g_is_deed_head (T : Txt w K mg) : mg "is_deed_head" = some (.ref (He.ga K "is_deed_head")) := T.glo 36
theorem Txt.g_is_deed (T : Txt w K mg) : mg "is_deed" = some (.ref (He.ga K "is_deed")) := T.glo 37
theorem Txt.g_are_deeds (T : Txt w K mg) : mg "are_deeds" = some (.ref (He.ga K "are_deeds")) := T.glo 38
theorem Txt.g_begun (T : Txt w K mg) : mg "begun" = some (.ref (He.ga K "begun")) := T.glo 39
theorem Txt.g_law_box (T : Txt w K mg) : mg "_law_box" = some (.ref (He.ga K "_law_box")) := T.glo 40
theorem Txt.g_law_draw (T : Txt w K mg) : mg "_law_draw" = some (.ref (He.ga K "_law_draw")) := T.glo 41
theorem Txt.g_law_expr (T : Txt w K mg) : mg "_law_expr" = some (.ref (He.ga K "_law_expr")) := T.glo 42
theorem Txt.g_law_rows (T : Txt w K mg) : mg "_law_rows" = some (.ref (He.ga K "_law_rows")) := T.glo 43
theorem Txt.g_law_body (T : Txt w K mg) : mg "_law_body" = some (.ref (He.ga K "_law_body")) := T.glo 44
theorem Txt.g_law_hide (T : Txt w K mg) : mg "_law_hide" = some (.ref (He.ga K "_law_hide")) := T.glo 45
theorem Txt.g_law_name (T : Txt w K mg) : mg "_law_name" = some (.ref (He.ga K "_law_name")) := T.glo 46
theorem Txt.g_law_vault (T : Txt w K mg) : mg "_law_vault" = some (.ref (He.ga K "_law_vault")) := T.glo 47
theorem Txt.g_law_worth (T : Txt w K mg) : mg "_law_worth" = some (.ref (He.ga K "_law_worth")) := T.glo 48
theorem Txt.g_law_do (T : Txt w K mg) : mg "_law_do" = some (.ref (He.ga K "_law_do")) := T.glo 49
theorem Txt.g_law_outcomes (T : Txt w K mg) : mg "_law_outcomes" = some (.ref (He.ga K "_law_outcomes")) := T.glo 50
theorem Txt.g_law_calls (T : Txt w K mg) : mg "_law_calls" = some (.ref (He.ga K "_law_calls")) := T.glo 51
theorem Txt.g_law_found (T : Txt w K mg) : mg "_law_found" = some (.ref (He.ga K "_law_found")) := T.glo 52
theorem Txt.g_law_more (T : Txt w K mg) : mg "_law_more" = some (.ref (He.ga K "_law_more")) := T.glo 53
theorem Txt.g_law_begun (T : Txt w K mg) : mg "_law_begun" = some (.ref (He.ga K "_law_begun")) := T.glo 54
theorem Txt.g_law (T : Txt w K mg) : mg "law" = some (.ref (He.ga K "law")) := T.glo 55
theorem Txt.g_PastError (T : Txt w K mg) : mg "PastError" = some (.ref (He.ga K "PastError")) := T.glo 56
theorem Txt.g_NoName (T : Txt w K mg) : mg "NoName" = some (.ref (He.ga K "NoName")) := T.glo 57
theorem Txt.g_NoState (T : Txt w K mg) : mg "NoState" = some (.ref (He.ga K "NoState")) := T.glo 58
theorem Txt.g_CoinsOut (T : Txt w K mg) : mg "CoinsOut" = some (.ref (He.ga K "CoinsOut")) := T.glo 59
theorem Txt.g_NoMost (T : Txt w K mg) : mg "NoMost" = some (.ref (He.ga K "NoMost")) := T.glo 60
theorem Txt.g_NoVault (T : Txt w K mg) : mg "NoVault" = some (.ref (He.ga K "NoVault")) := T.glo 61
theorem Txt.g_TooMany (T : Txt w K mg) : mg "TooMany" = some (.ref (He.ga K "TooMany")) := T.glo 62
theorem Txt.g_Run (T : Txt w K mg) : mg "Run" = some (.ref (He.ga K "Run")) := T.glo 63
theorem Txt.c_Run (T : Txt w K mg) : Cls K (He.ga K "Run") := He.cls_ok (T.fact 64)
theorem Txt.k_Run (T : Txt w K mg) : Mk K (He.ga K "Run") (He.ma K (He.ga K "Run") "__init__") := He.mkr_ok (T.fact 65)
theorem Txt.n_Run_code (T : Txt w K mg) : NoAttr K (He.ga K "Run") "code" := He.noat_ok (T.fact 66)
theorem Txt.n_Run_sides (T : Txt w K mg) : NoAttr K (He.ga K "Run") "sides" := He.noat_ok (T.fact 67)
theorem Txt.n_Run_cells (T : Txt w K mg) : NoAttr K (He.ga K "Run") "cells" := He.noat_ok (T.fact 68)
theorem Txt.n_Run_coins (T : Txt w K mg) : NoAttr K (He.ga K "Run") "coins" := He.noat_ok (T.fact 69)
theorem Txt.n_Run_fallen (T : Txt w K mg) : NoAttr K (He.ga K "Run") "fallen" := He.noat_ok (T.fact 70)
theorem Txt.n_Run_held (T : Txt w K mg) : NoAttr K (He.ga K "Run") "held" := He.noat_ok (T.fact 71)
theorem Txt.n_Run_rounds (T : Txt w K mg) : NoAttr K (He.ga K "Run") "rounds" := He.noat_ok (T.fact 72)
theorem Txt.n_Run_place (T : Txt w K mg) : NoAttr K (He.ga K "Run") "place" := He.noat_ok (T.fact 73)
theorem Txt.n_Run_result (T : Txt w K mg) : NoAttr K (He.ga K "Run") "result" := He.noat_ok (T.fact 74)
theorem Txt.g_Reach (T : Txt w K mg) : mg "Reach" = some (.ref (He.ga K "Reach")) := T.glo 75
theorem Txt.c_Reach (T : Txt w K mg) : Cls K (He.ga K "Reach") := He.cls_ok (T.fact 76)
theorem Txt.k_Reach (T : Txt w K mg) : Mk K (He.ga K "Reach") (He.ma K (He.ga K "Reach") "__init__") := He.mkr_ok (T.fact 77)
theorem Txt.m_Reach_ways (T : Txt w K mg) : Meth K (He.ga K "Reach") "ways" (He.ma K (He.ga K "Reach") "ways") := He.meth_ok (T.fact 78)
theorem Txt.m_Reach_met (T : Txt w K mg) : Meth K (He.ga K "Reach") "met" (He.ma K (He.ga K "Reach") "met") := He.meth_ok (T.fact 79)
theorem Txt.n_Reach_source (T : Txt w K mg) : NoAttr K (He.ga K "Reach") "source" := He.noat_ok (T.fact 80)
theorem Txt.n_Reach_list_of_calls (T : Txt w K mg) : NoAttr K (He.ga K "Reach") "list_of_calls" := He.noat_ok (T.fact 81)
theorem Txt.n_Reach_found (T : Txt w K mg) : NoAttr K (He.ga K "Reach") "found" := He.noat_ok (T.fact 82)
theorem Txt.n_Reach_places (T : Txt w K mg) : NoAttr K (He.ga K "Reach") "places" := He.noat_ok (T.fact 83)
theorem Txt.n_Reach_origins (T : Txt w K mg) : NoAttr K (He.ga K "Reach") "origins" := He.noat_ok (T.fact 84)
theorem Txt.n_Reach_replies (T : Txt w K mg) : NoAttr K (He.ga K "Reach") "replies" := He.noat_ok (T.fact 85)
theorem Txt.n_Reach_leads (T : Txt w K mg) : NoAttr K (He.ga K "Reach") "leads" := He.noat_ok (T.fact 86)
theorem Txt.n_Reach_spread (T : Txt w K mg) : NoAttr K (He.ga K "Reach") "spread" := He.noat_ok (T.fact 87)
theorem Txt.g_Tally (T : Txt w K mg) : mg "Tally" = some (.ref (He.ga K "Tally")) := T.glo 88
theorem Txt.c_Tally (T : Txt w K mg) : Cls K (He.ga K "Tally") := He.cls_ok (T.fact 89)
theorem Txt.k_Tally (T : Txt w K mg) : Mk K (He.ga K "Tally") (He.ma K (He.ga K "Tally") "__init__") := He.mkr_ok (T.fact 90)
theorem Txt.n_Tally_cells (T : Txt w K mg) : NoAttr K (He.ga K "Tally") "cells" := He.noat_ok (T.fact 91)
theorem Txt.n_Tally_coins (T : Txt w K mg) : NoAttr K (He.ga K "Tally") "coins" := He.noat_ok (T.fact 92)
theorem Txt.n_Tally_lines (T : Txt w K mg) : NoAttr K (He.ga K "Tally") "lines" := He.noat_ok (T.fact 93)
theorem Txt.g_Vault (T : Txt w K mg) : mg "Vault" = some (.ref (He.ga K "Vault")) := T.glo 94
theorem Txt.c_Vault (T : Txt w K mg) : Cls K (He.ga K "Vault") := He.cls_ok (T.fact 95)
theorem Txt.k_Vault (T : Txt w K mg) : Mk K (He.ga K "Vault") (He.ma K (He.ga K "Vault") "__init__") := He.mkr_ok (T.fact 96)
theorem Txt.m_Vault_sizes (T : Txt w K mg) : Meth K (He.ga K "Vault") "sizes" (He.ma K (He.ga K "Vault") "sizes") := He.meth_ok (T.fact 97)
theorem Txt.m_Vault_first (T : Txt w K mg) : Meth K (He.ga K "Vault") "first" (He.ma K (He.ga K "Vault") "first") := He.meth_ok (T.fact 98)
theorem Txt.m_Vault_names (T : Txt w K mg) : Meth K (He.ga K "Vault") "names" (He.ma K (He.ga K "Vault") "names") := He.meth_ok (T.fact 99)
theorem Txt.m_Vault_choices (T : Txt w K mg) : Meth K (He.ga K "Vault") "choices" (He.ma K (He.ga K "Vault") "choices") := He.meth_ok (T.fact 100)
theorem Txt.m_Vault_rows (T : Txt w K mg) : Meth K (He.ga K "Vault") "rows" (He.ma K (He.ga K "Vault") "rows") := He.meth_ok (T.fact 101)
theorem Txt.m_Vault_calls (T : Txt w K mg) : Meth K (He.ga K "Vault") "calls" (He.ma K (He.ga K "Vault") "calls") := He.meth_ok (T.fact 102)
theorem Txt.m_Vault_has_coins (T : Txt w K mg) : Meth K (He.ga K "Vault") "has_coins" (He.ma K (He.ga K "Vault") "has_coins") := He.meth_ok (T.fact 103)
theorem Txt.m_Vault_shape (T : Txt w K mg) : Meth K (He.ga K "Vault") "shape" (He.ma K (He.ga K "Vault") "shape") := He.meth_ok (T.fact 104)
theorem Txt.m_Vault_starts (T : Txt w K mg) : Meth K (He.ga K "Vault") "starts" (He.ma K (He.ga K "Vault") "starts") := He.meth_ok (T.fact 105)
theorem Txt.m_Vault_deed (T : Txt w K mg) : Meth K (He.ga K "Vault") "_deed" (He.ma K (He.ga K "Vault") "_deed") := He.meth_ok (T.fact 106)
theorem Txt.n_Vault_cells (T : Txt w K mg) : NoAttr K (He.ga K "Vault") "_cells" := He.noat_ok (T.fact 107)
theorem Txt.n_Vault_deeds (T : Txt w K mg) : NoAttr K (He.ga K "Vault") "_deeds" := He.noat_ok (T.fact 108)
theorem Txt.n_Vault_codes (T : Txt w K mg) : NoAttr K (He.ga K "Vault") "_codes" := He.noat_ok (T.fact 109)
theorem Txt.n_Vault_coins (T : Txt w K mg) : NoAttr K (He.ga K "Vault") "_coins" := He.noat_ok (T.fact 110)
theorem Txt.x_NoName (T : Txt w K mg) : PySem.W.excIn K (He.ga K "NoName") He.veBase "ValueError.__new__" = true ∧ PySem.W.keepIn K (.ref (He.ga K "NoName")) = true ∧ PySem.W.subIn K (.ref (He.ga K "NoName")) (.type "BaseException") = some true ∧ PySem.W.typeIn K (.ref (He.ga K "NoName")) = some (.type "type") := He.exc_ok (T.fact 111 (f := .exc "NoName"))
theorem Txt.x_NoState (T : Txt w K mg) : PySem.W.excIn K (He.ga K "NoState") He.veBase "ValueError.__new__" = true ∧ PySem.W.keepIn K (.ref (He.ga K "NoState")) = true ∧ PySem.W.subIn K (.ref (He.ga K "NoState")) (.type "BaseException") = some true ∧ PySem.W.typeIn K (.ref (He.ga K "NoState")) = some (.type "type") := He.exc_ok (T.fact 112 (f := .exc "NoState"))
theorem Txt.x_CoinsOut (T : Txt w K mg) : PySem.W.excIn K (He.ga K "CoinsOut") He.veBase "ValueError.__new__" = true ∧ PySem.W.keepIn K (.ref (He.ga K "CoinsOut")) = true ∧ PySem.W.subIn K (.ref (He.ga K "CoinsOut")) (.type "BaseException") = some true ∧ PySem.W.typeIn K (.ref (He.ga K "CoinsOut")) = some (.type "type") := He.exc_ok (T.fact 113 (f := .exc "CoinsOut"))
theorem Txt.x_NoMost (T : Txt w K mg) : PySem.W.excIn K (He.ga K "NoMost") He.veBase "ValueError.__new__" = true ∧ PySem.W.keepIn K (.ref (He.ga K "NoMost")) = true ∧ PySem.W.subIn K (.ref (He.ga K "NoMost")) (.type "BaseException") = some true ∧ PySem.W.typeIn K (.ref (He.ga K "NoMost")) = some (.type "type") := He.exc_ok (T.fact 114 (f := .exc "NoMost"))
theorem Txt.xm_NoState_CoinsOut (T : Txt w K mg) : PySem.W.exmOne K (.ref (He.ga K "NoState")) (.ref (He.ga K "CoinsOut")) = some false := of_decide_eq_true (T.fact 115 (f := .exm "NoState" "CoinsOut" false))
theorem Txt.xm_NoMost_CoinsOut (T : Txt w K mg) : PySem.W.exmOne K (.ref (He.ga K "NoMost")) (.ref (He.ga K "CoinsOut")) = some false := of_decide_eq_true (T.fact 116 (f := .exm "NoMost" "CoinsOut" false))
theorem Txt.xm_CoinsOut (T : Txt w K mg) : PySem.W.exmOne K (.ref (He.ga K "CoinsOut")) (.ref (He.ga K "CoinsOut")) = some true := of_decide_eq_true (T.fact 117 (f := .exm "CoinsOut" "CoinsOut" true))
theorem Txt.xm_NoName_CoinsOut (T : Txt w K mg) : PySem.W.exmOne K (.ref (He.ga K "NoName")) (.ref (He.ga K "CoinsOut")) = some false := of_decide_eq_true (T.fact 118 (f := .exm "NoName" "CoinsOut" false))
theorem Txt.xm_NoVault_CoinsOut (T : Txt w K mg) : PySem.W.exmOne K (.ref (He.ga K "NoVault")) (.ref (He.ga K "CoinsOut")) = some false := of_decide_eq_true (T.fact 119 (f := .exm "NoVault" "CoinsOut" false))
theorem Txt.xm_TooMany_CoinsOut (T : Txt w K mg) : PySem.W.exmOne K (.ref (He.ga K "TooMany")) (.ref (He.ga K "CoinsOut")) = some false := of_decide_eq_true (T.fact 120 (f := .exm "TooMany" "CoinsOut" false))
theorem Txt.b_len (T : Txt w K mg) : mg "len" = none := T.fr 121
theorem Txt.b_isinstance (T : Txt w K mg) : mg "isinstance" = none := T.fr 122
theorem Txt.b_int (T : Txt w K mg) : mg "int" = none := T.fr 123
theorem Txt.b_abs (T : Txt w K mg) : mg "abs" = none := T.fr 124
theorem Txt.b_tuple (T : Txt w K mg) : mg "tuple" = none := T.fr 125
theorem Txt.b_list (T : Txt w K mg) : mg "list" = none := T.fr 126
theorem Txt.b_str (T : Txt w K mg) : mg "str" = none := T.fr 127
theorem Txt.b_bool (T : Txt w K mg) : mg "bool" = none := T.fr 128
theorem Txt.b_range (T : Txt w K mg) : mg "range" = none := T.fr 129
theorem Txt.b_zip (T : Txt w K mg) : mg "zip" = none := T.fr 130
theorem Txt.b_enumerate (T : Txt w K mg) : mg "enumerate" = none := T.fr 131
theorem Txt.b_set (T : Txt w K mg) : mg "set" = none := T.fr 132
theorem Txt.b_min (T : Txt w K mg) : mg "min" = none := T.fr 133
theorem Txt.b_max (T : Txt w K mg) : mg "max" = none := T.fr 134
theorem Txt.b_reversed (T : Txt w K mg) : mg "reversed" = none := T.fr 135
theorem Txt.b_sorted (T : Txt w K mg) : mg "sorted" = none := T.fr 136
theorem Txt.b_sum (T : Txt w K mg) : mg "sum" = none := T.fr 137
theorem Txt.b_dict (T : Txt w K mg) : mg "dict" = none := T.fr 138
theorem Txt.b_repr (T : Txt w K mg) : mg "repr" = none := T.fr 139
theorem Txt.i_GREATEST_MOST (T : Txt w K mg) : ∃ u, mg "GREATEST_MOST" = some u ∧ RelV (.int 100000) u := T.int 140
theorem Txt.i_MOST_CELLS (T : Txt w K mg) : ∃ u, mg "MOST_CELLS" = some u ∧ RelV (.int 6) u := T.int 141
theorem Txt.i_GREATEST_SIZE (T : Txt w K mg) : ∃ u, mg "GREATEST_SIZE" = some u ∧ RelV (.int 9) u := T.int 142
theorem Txt.g_ACTIONS (T : Txt w K mg) : mg "ACTIONS" = some (.ref (He.ga K "ACTIONS")) := T.glo 143
theorem Txt.g_CHANGED (T : Txt w K mg) : mg "CHANGED" = some (.ref (He.ga K "CHANGED")) := T.glo 144
theorem Txt.g_HELD (T : Txt w K mg) : mg "HELD" = some (.ref (He.ga K "HELD")) := T.glo 145
theorem Txt.g_SIGNS (T : Txt w K mg) : mg "SIGNS" = some (.ref (He.ga K "SIGNS")) := T.glo 146
theorem Txt.g_FORMS (T : Txt w K mg) : mg "FORMS" = some (.ref (He.ga K "FORMS")) := T.glo 147
theorem Txt.i_DEEPEST_EXPRESSION (T : Txt w K mg) : ∃ u, mg "DEEPEST_EXPRESSION" = some u ∧ RelV (.int 6) u := T.int 148
theorem Txt.i_DEEPEST_ROW (T : Txt w K mg) : ∃ u, mg "DEEPEST_ROW" = some u ∧ RelV (.int 12) u := T.int 149
theorem Txt.i_DEEPEST_TIMES (T : Txt w K mg) : ∃ u, mg "DEEPEST_TIMES" = some u ∧ RelV (.int 2) u := T.int 150
theorem Txt.i_MOST_COINS (T : Txt w K mg) : ∃ u, mg "MOST_COINS" = some u ∧ RelV (.int 4) u := T.int 151
theorem Txt.i_MOST_ROWS (T : Txt w K mg) : ∃ u, mg "MOST_ROWS" = some u ∧ RelV (.int 2000) u := T.int 152
theorem Txt.i_MOST_DEEDS (T : Txt w K mg) : ∃ u, mg "MOST_DEEDS" = some u ∧ RelV (.int 8) u := T.int 153
theorem Txt.i_LONGEST_NAME (T : Txt w K mg) : ∃ u, mg "LONGEST_NAME" = some u ∧ RelV (.int 8) u := T.int 154
theorem Txt.i_MOST_CHOICES (T : Txt w K mg) : ∃ u, mg "MOST_CHOICES" = some u ∧ RelV (.int 9) u := T.int 155
theorem Txt.f__wall (T : Txt w K mg) : ∃ f, FunD K "_wall" "_wall" (defArgs s__wall) (defBody s__wall) (defScope s__wall) [] [] (He.fAd K ("_wall", none)) f := T.fd 0
theorem Txt.f_NoVault_init (T : Txt w K mg) : ∃ f, FunD K "__init__" "NoVault.__init__" (defArgs s_NoVault_init) (defBody s_NoVault_init) (defScope s_NoVault_init) [] [] (He.fAd K ("NoVault", some "__init__")) f := T.fd 1
theorem Txt.f_TooMany_init (T : Txt w K mg) : ∃ f, FunD K "__init__" "TooMany.__init__" (defArgs s_TooMany_init) (defBody s_TooMany_init) (defScope s_TooMany_init) [] [] (He.fAd K ("TooMany", some "__init__")) f := T.fd 2
theorem Txt.f_is_integer (T : Txt w K mg) : ∃ f, FunD K "is_integer" "is_integer" (defArgs s_is_integer) (defBody s_is_integer) (defScope s_is_integer) [] [] (He.fAd K ("is_integer", none)) f := T.fd 3
theorem Txt.f_is_within (T : Txt w K mg) : ∃ f, FunD K "is_within" "is_within" (defArgs s_is_within) (defBody s_is_within) (defScope s_is_within) [] [] (He.fAd K ("is_within", none)) f := T.fd 4
theorem Txt.f_is_tuple (T : Txt w K mg) : ∃ f, FunD K "is_tuple" "is_tuple" (defArgs s_is_tuple) (defBody s_is_tuple) (defScope s_is_tuple) [] [] (He.fAd K ("is_tuple", none)) f := T.fd 5
theorem Txt.f_is_state (T : Txt w K mg) : ∃ f, FunD K "is_state" "is_state" (defArgs s_is_state) (defBody s_is_state) (defScope s_is_state) [] [] (He.fAd K ("is_state", none)) f := T.fd 6
theorem Txt.f_check_state (T : Txt w K mg) : ∃ f, FunD K "check_state" "check_state" (defArgs s_check_state) (defBody s_check_state) (defScope s_check_state) [] [] (He.fAd K ("check_state", none)) f := T.fd 7
theorem Txt.f_check_most (T : Txt w K mg) : ∃ f, FunD K "check_most" "check_most" (defArgs s_check_most) (defBody s_check_most) (defScope s_check_most) [] [] (He.fAd K ("check_most", none)) f := T.fd 8
theorem Txt.f_Run_init (T : Txt w K mg) : ∃ f, FunD K "__init__" "Run.__init__" (defArgs s_Run_init) (defBody s_Run_init) (defScope s_Run_init) [] [] (He.fAd K ("Run", some "__init__")) f := T.fd 9
theorem Txt.f_value_of (T : Txt w K mg) : ∃ f, FunD K "value_of" "value_of" (defArgs s_value_of) (defBody s_value_of) (defScope s_value_of) [] [] (He.fAd K ("value_of", none)) f := T.fd 10
theorem Txt.f_do_read (T : Txt w K mg) : ∃ f, FunD K "do_read" "do_read" (defArgs s_do_read) (defBody s_do_read) (defScope s_do_read) [] [] (He.fAd K ("do_read", none)) f := T.fd 11
theorem Txt.f_do_set (T : Txt w K mg) : ∃ f, FunD K "do_set" "do_set" (defArgs s_do_set) (defBody s_do_set) (defScope s_do_set) [] [] (He.fAd K ("do_set", none)) f := T.fd 12
theorem Txt.f_do_swap (T : Txt w K mg) : ∃ f, FunD K "do_swap" "do_swap" (defArgs s_do_swap) (defBody s_do_swap) (defScope s_do_swap) [] [] (He.fAd K ("do_swap", none)) f := T.fd 13
theorem Txt.f_do_keep (T : Txt w K mg) : ∃ f, FunD K "do_keep" "do_keep" (defArgs s_do_keep) (defBody s_do_keep) (defScope s_do_keep) [] [] (He.fAd K ("do_keep", none)) f := T.fd 14
theorem Txt.f_do_coin (T : Txt w K mg) : ∃ f, FunD K "do_coin" "do_coin" (defArgs s_do_coin) (defBody s_do_coin) (defScope s_do_coin) [] [] (He.fAd K ("do_coin", none)) f := T.fd 15
theorem Txt.f_do_answer (T : Txt w K mg) : ∃ f, FunD K "do_answer" "do_answer" (defArgs s_do_answer) (defBody s_do_answer) (defScope s_do_answer) [] [] (He.fAd K ("do_answer", none)) f := T.fd 16
theorem Txt.f_do_unless (T : Txt w K mg) : ∃ f, FunD K "do_unless" "do_unless" (defArgs s_do_unless) (defBody s_do_unless) (defScope s_do_unless) [] [] (He.fAd K ("do_unless", none)) f := T.fd 17
theorem Txt.f_do_on (T : Txt w K mg) : ∃ f, FunD K "do_on" "do_on" (defArgs s_do_on) (defBody s_do_on) (defScope s_do_on) [] [] (He.fAd K ("do_on", none)) f := T.fd 18
theorem Txt.f_do_rounds (T : Txt w K mg) : ∃ f, FunD K "do_rounds" "do_rounds" (defArgs s_do_rounds) (defBody s_do_rounds) (defScope s_do_rounds) [] [] (He.fAd K ("do_rounds", none)) f := T.fd 19
theorem Txt.f_do_round (T : Txt w K mg) : ∃ f, FunD K "do_round" "do_round" (defArgs s_do_round) (defBody s_do_round) (defScope s_do_round) [] [] (He.fAd K ("do_round", none)) f := T.fd 20
theorem Txt.f_finish (T : Txt w K mg) : ∃ f, FunD K "finish" "finish" (defArgs s_finish) (defBody s_finish) (defScope s_finish) [] [] (He.fAd K ("finish", none)) f := T.fd 21
theorem Txt.f_ways_from (T : Txt w K mg) : ∃ f, FunD K "ways_from" "ways_from" (defArgs s_ways_from) (defBody s_ways_from) (defScope s_ways_from) [] [] (He.fAd K ("ways_from", none)) f := T.fd 22
theorem Txt.f_Reach_init (T : Txt w K mg) : ∃ f, FunD K "__init__" "Reach.__init__" (defArgs s_Reach_init) (defBody s_Reach_init) (defScope s_Reach_init) [] [] (He.fAd K ("Reach", some "__init__")) f := T.fd 23
theorem Txt.f_Reach_ways (T : Txt w K mg) : ∃ f, FunD K "ways" "Reach.ways" (defArgs s_Reach_ways) (defBody s_Reach_ways) (defScope s_Reach_ways) [] [] (He.fAd K ("Reach", some "ways")) f := T.fd 24
theorem Txt.f_Reach_met (T : Txt w K mg) : ∃ f, FunD K "met" "Reach.met" (defArgs s_Reach_met) (defBody s_Reach_met) (defScope s_Reach_met) [] [] (He.fAd K ("Reach", some "met")) f := T.fd 25
theorem Txt.f_reach_of (T : Txt w K mg) : ∃ f, FunD K "reach_of" "reach_of" (defArgs s_reach_of) (defBody s_reach_of) (defScope s_reach_of) [] [] (He.fAd K ("reach_of", none)) f := T.fd 26
theorem Txt.f_put_ways (T : Txt w K mg) : ∃ f, FunD K "put_ways" "put_ways" (defArgs s_put_ways) (defBody s_put_ways) (defScope s_put_ways) [] [] (He.fAd K ("put_ways", none)) f := T.fd 27
theorem Txt.f_states (T : Txt w K mg) : ∃ f, FunD K "states" "states" (defArgs s_states) (defBody s_states) (defScope s_states) [] [("most", .int 2000)] (He.fAd K ("states", none)) f := T.fd 28
theorem Txt.f_Tally_init (T : Txt w K mg) : ∃ f, FunD K "__init__" "Tally.__init__" (defArgs s_Tally_init) (defBody s_Tally_init) (defScope s_Tally_init) [] [] (He.fAd K ("Tally", some "__init__")) f := T.fd 29
theorem Txt.f_is_expression (T : Txt w K mg) : ∃ f, FunD K "is_expression" "is_expression" (defArgs s_is_expression) (defBody s_is_expression) (defScope s_is_expression) [] [] (He.fAd K ("is_expression", none)) f := T.fd 30
theorem Txt.f_is_part (T : Txt w K mg) : ∃ f, FunD K "is_part" "is_part" (defArgs s_is_part) (defBody s_is_part) (defScope s_is_part) [] [] (He.fAd K ("is_part", none)) f := T.fd 31
theorem Txt.f_is_body_row (T : Txt w K mg) : ∃ f, FunD K "is_body_row" "is_body_row" (defArgs s_is_body_row) (defBody s_is_body_row) (defScope s_is_body_row) [] [] (He.fAd K ("is_body_row", none)) f := T.fd 32
theorem Txt.f_are_body_rows (T : Txt w K mg) : ∃ f, FunD K "are_body_rows" "are_body_rows" (defArgs s_are_body_rows) (defBody s_are_body_rows) (defScope s_are_body_rows) [] [] (He.fAd K ("are_body_rows", none)) f := T.fd 33
theorem Txt.f_is_body (T : Txt w K mg) : ∃ f, FunD K "is_body" "is_body" (defArgs s_is_body) (defBody s_is_body) (defScope s_is_body) [] [] (He.fAd K ("is_body", none)) f := T.fd 34
theorem Txt.f_code_of (T : Txt w K mg) : ∃ f, FunD K "code_of" "code_of" (defArgs s_code_of) (defBody s_code_of) (defScope s_code_of) [] [] (He.fAd K ("code_of", none)) f := T.fd 35
theorem Txt.f_put_rows (T : Txt w K mg) : ∃ f, FunD K "put_rows" "put_rows" (defArgs s_put_rows) (defBody s_put_rows) (defScope s_put_rows) [] [] (He.fAd K ("put_rows", none)) f := T.fd 36
theorem Txt.f_put_if (T : Txt w K mg) : ∃ f, FunD K "put_if" "put_if" (defArgs s_put_if) (defBody s_put_if) (defScope s_put_if) [] [] (He.fAd K ("put_if", none)) f := T.fd 37
theorem Txt.f_put_times (T : Txt w K mg) : ∃ f, FunD K "put_times" "put_times" (defArgs s_put_times) (defBody s_put_times) (defScope s_put_times) [] [] (He.fAd K ("put_times", none)) f := T.fd 38
theorem Txt.f_Vault_init (T : Txt w K mg) : ∃ f, FunD K "__init__" "Vault.__init__" (defArgs s_Vault_init) (defBody s_Vault_init) (defScope s_Vault_init) [] [] (He.fAd K ("Vault", some "__init__")) f := T.fd 39
theorem Txt.f_Vault_sizes (T : Txt w K mg) : ∃ f, FunD K "sizes" "Vault.sizes" (defArgs s_Vault_sizes) (defBody s_Vault_sizes) (defScope s_Vault_sizes) [] [] (He.fAd K ("Vault", some "sizes")) f := T.fd 40
theorem Txt.f_Vault_first (T : Txt w K mg) : ∃ f, FunD K "first" "Vault.first" (defArgs s_Vault_first) (defBody s_Vault_first) (defScope s_Vault_first) [] [] (He.fAd K ("Vault", some "first")) f := T.fd 41
theorem Txt.f_Vault_names (T : Txt w K mg) : ∃ f, FunD K "names" "Vault.names" (defArgs s_Vault_names) (defBody s_Vault_names) (defScope s_Vault_names) [] [] (He.fAd K ("Vault", some "names")) f := T.fd 42
theorem Txt.f_Vault_choices (T : Txt w K mg) : ∃ f, FunD K "choices" "Vault.choices" (defArgs s_Vault_choices) (defBody s_Vault_choices) (defScope s_Vault_choices) [] [] (He.fAd K ("Vault", some "choices")) f := T.fd 43
theorem Txt.f_Vault_rows (T : Txt w K mg) : ∃ f, FunD K "rows" "Vault.rows" (defArgs s_Vault_rows) (defBody s_Vault_rows) (defScope s_Vault_rows) [] [] (He.fAd K ("Vault", some "rows")) f := T.fd 44
theorem Txt.f_Vault_calls (T : Txt w K mg) : ∃ f, FunD K "calls" "Vault.calls" (defArgs s_Vault_calls) (defBody s_Vault_calls) (defScope s_Vault_calls) [] [] (He.fAd K ("Vault", some "calls")) f := T.fd 45
theorem Txt.f_Vault_has_coins (T : Txt w K mg) : ∃ f, FunD K "has_coins" "Vault.has_coins" (defArgs s_Vault_has_coins) (defBody s_Vault_has_coins) (defScope s_Vault_has_coins) [] [] (He.fAd K ("Vault", some "has_coins")) f := T.fd 46
theorem Txt.f_Vault_shape (T : Txt w K mg) : ∃ f, FunD K "shape" "Vault.shape" (defArgs s_Vault_shape) (defBody s_Vault_shape) (defScope s_Vault_shape) [] [] (He.fAd K ("Vault", some "shape")) f := T.fd 47
theorem Txt.f_Vault_starts (T : Txt w K mg) : ∃ f, FunD K "starts" "Vault.starts" (defArgs s_Vault_starts) (defBody s_Vault_starts) (defScope s_Vault_starts) [] [] (He.fAd K ("Vault", some "starts")) f := T.fd 48
theorem Txt.f_Vault_deed (T : Txt w K mg) : ∃ f, FunD K "_deed" "Vault._deed" (defArgs s_Vault_deed) (defBody s_Vault_deed) (defScope s_Vault_deed) [] [] (He.fAd K ("Vault", some "_deed")) f := T.fd 49
theorem Txt.f_Vault_eq (T : Txt w K mg) : ∃ f, FunD K "__eq__" "Vault.__eq__" (defArgs s_Vault_eq) (defBody s_Vault_eq) (defScope s_Vault_eq) [] [] (He.fAd K ("Vault", some "__eq__")) f := T.fd 50
theorem Txt.f_has_row (T : Txt w K mg) : ∃ f, FunD K "has_row" "has_row" (defArgs s_has_row) (defBody s_has_row) (defScope s_has_row) [] [] (He.fAd K ("has_row", none)) f := T.fd 51
theorem Txt.f_is_cell (T : Txt w K mg) : ∃ f, FunD K "is_cell" "is_cell" (defArgs s_is_cell) (defBody s_is_cell) (defScope s_is_cell) [] [] (He.fAd K ("is_cell", none)) f := T.fd 52
theorem Txt.f_are_cells (T : Txt w K mg) : ∃ f, FunD K "are_cells" "are_cells" (defArgs s_are_cells) (defBody s_are_cells) (defScope s_are_cells) [] [] (He.fAd K ("are_cells", none)) f := T.fd 53
theorem Txt.f_is_name (T : Txt w K mg) : ∃ f, FunD K "is_name" "is_name" (defArgs s_is_name) (defBody s_is_name) (defScope s_is_name) [] [] (He.fAd K ("is_name", none)) f := T.fd 54
theorem Txt.f_is_deed_head (T : Txt w K mg) : ∃ f, FunD K "is_deed_head" "is_deed_head" (defArgs s_is_deed_head) (defBody s_is_deed_head) (defScope s_is_deed_head) [] [] (He.fAd K ("is_deed_head", none)) f := T.fd 55
theorem Txt.f_is_deed (T : Txt w K mg) : ∃ f, FunD K "is_deed" "is_deed" (defArgs s_is_deed) (defBody s_is_deed) (defScope s_is_deed) [] [] (He.fAd K ("is_deed", none)) f := T.fd 56
theorem Txt.f_are_deeds (T : Txt w K mg) : ∃ f, FunD K "are_deeds" "are_deeds" (defArgs s_are_deeds) (defBody s_are_deeds) (defScope s_are_deeds) [] [] (He.fAd K ("are_deeds", none)) f := T.fd 57
theorem Txt.f_begun (T : Txt w K mg) : ∃ f, FunD K "begun" "begun" (defArgs s_begun) (defBody s_begun) (defScope s_begun) [] [] (He.fAd K ("begun", none)) f := T.fd 58
theorem Txt.f_l_box (T : Txt w K mg) : ∃ f, FunD K "_law_box" "_law_box" (defArgs s_l_box) (defBody s_l_box) (defScope s_l_box) [] [] (He.fAd K ("_law_box", none)) f := T.fd 59
theorem Txt.f_l_draw (T : Txt w K mg) : ∃ f, FunD K "_law_draw" "_law_draw" (defArgs s_l_draw) (defBody s_l_draw) (defScope s_l_draw) [] [] (He.fAd K ("_law_draw", none)) f := T.fd 60
theorem Txt.f_l_expr (T : Txt w K mg) : ∃ f, FunD K "_law_expr" "_law_expr" (defArgs s_l_expr) (defBody s_l_expr) (defScope s_l_expr) [] [] (He.fAd K ("_law_expr", none)) f := T.fd 61
theorem Txt.f_l_rows (T : Txt w K mg) : ∃ f, FunD K "_law_rows" "_law_rows" (defArgs s_l_rows) (defBody s_l_rows) (defScope s_l_rows) [] [] (He.fAd K ("_law_rows", none)) f := T.fd 62
theorem Txt.f_l_body (T : Txt w K mg) : ∃ f, FunD K "_law_body" "_law_body" (defArgs s_l_body) (defBody s_l_body) (defScope s_l_body) [] [] (He.fAd K ("_law_body", none)) f := T.fd 63
theorem Txt.f_l_hide (T : Txt w K mg) : ∃ f, FunD K "_law_hide" "_law_hide" (defArgs s_l_hide) (defBody s_l_hide) (defScope s_l_hide) [] [] (He.fAd K ("_law_hide", none)) f := T.fd 64
theorem Txt.f_l_name (T : Txt w K mg) : ∃ f, FunD K "_law_name" "_law_name" (defArgs s_l_name) (defBody s_l_name) (defScope s_l_name) [] [] (He.fAd K ("_law_name", none)) f := T.fd 65
theorem Txt.f_l_vault (T : Txt w K mg) : ∃ f, FunD K "_law_vault" "_law_vault" (defArgs s_l_vault) (defBody s_l_vault) (defScope s_l_vault) [] [] (He.fAd K ("_law_vault", none)) f := T.fd 66
theorem Txt.f_l_worth (T : Txt w K mg) : ∃ f, FunD K "_law_worth" "_law_worth" (defArgs s_l_worth) (defBody s_l_worth) (defScope s_l_worth) [] [] (He.fAd K ("_law_worth", none)) f := T.fd 67
theorem Txt.f_l_do (T : Txt w K mg) : ∃ f, FunD K "_law_do" "_law_do" (defArgs s_l_do) (defBody s_l_do) (defScope s_l_do) [] [] (He.fAd K ("_law_do", none)) f := T.fd 68
theorem Txt.f_l_outcomes (T : Txt w K mg) : ∃ f, FunD K "_law_outcomes" "_law_outcomes" (defArgs s_l_outcomes) (defBody s_l_outcomes) (defScope s_l_outcomes) [] [] (He.fAd K ("_law_outcomes", none)) f := T.fd 69
theorem Txt.f_l_calls (T : Txt w K mg) : ∃ f, FunD K "_law_calls" "_law_calls" (defArgs s_l_calls) (defBody s_l_calls) (defScope s_l_calls) [] [] (He.fAd K ("_law_calls", none)) f := T.fd 70
theorem Txt.f_l_found (T : Txt w K mg) : ∃ f, FunD K "_law_found" "_law_found" (defArgs s_l_found) (defBody s_l_found) (defScope s_l_found) [] [] (He.fAd K ("_law_found", none)) f := T.fd 71
theorem Txt.f_l_more (T : Txt w K mg) : ∃ f, FunD K "_law_more" "_law_more" (defArgs s_l_more) (defBody s_l_more) (defScope s_l_more) [] [] (He.fAd K ("_law_more", none)) f := T.fd 72
theorem Txt.f_l_begun (T : Txt w K mg) : ∃ f, FunD K "_law_begun" "_law_begun" (defArgs s_l_begun) (defBody s_l_begun) (defScope s_l_begun) [] [] (He.fAd K ("_law_begun", none)) f := T.fd 73
theorem Txt.f_law (T : Txt w K mg) : ∃ f, FunD K "law" "law" (defArgs s_law) (defBody s_law) (defScope s_law) [] [] (He.fAd K ("law", none)) f := T.fd 74
theorem Txt.e_ACTIONS (T : Txt w K mg) : He.valsB K (He.ga K "ACTIONS") [("read", .glo "do_read"), ("set", .glo "do_set"), ("swap", .glo "do_swap"), ("keep", .glo "do_keep"), ("coin", .glo "do_coin"), ("answer", .glo "do_answer"), ("unless", .glo "do_unless"), ("on", .glo "do_on"), ("rounds", .glo "do_rounds"), ("round", .glo "do_round")] = true := (He.ba T.ex).1
theorem Txt.e_CHANGED (T : Txt w K mg) : He.tupB K "CHANGED" [.str "a", .str "b", .str "c", .str "d"] = true := (He.ba (He.ba T.ex).2).1
theorem Txt.e_HELD (T : Txt w K mg) : He.tupB K "HELD" [.str "a", .str "b", .str "c", .str "d", .str "x"] = true := (He.ba (He.ba (He.ba T.ex).2).2).1
theorem Txt.e_SIGNS (T : Txt w K mg) : He.tupB K "SIGNS" [.str "+", .str "-", .str "*", .str "=", .str "<"] = true := (He.ba (He.ba (He.ba (He.ba T.ex).2).2).2).1
theorem Txt.e_FORMS (T : Txt w K mg) : formsB K (He.ga K "FORMS") [("read", ["REG", "CELL"]), ("set", ["CELL", "E"]), ("swap", ["REG", "CELL", "E", "E"]), ("keep", ["REG", "E"]), ("coin", ["REG"]), ("if", ["E", "ROWS", "ROWS"]), ("times", ["E", "ROWS"]), ("answer", ["E"])] = true := (He.ba (He.ba (He.ba (He.ba (He.ba T.ex).2).2).2).2).1
theorem Txt.e_NoVault (T : Txt w K mg) : oexB K "NoVault" "part" = true := (He.ba (He.ba (He.ba (He.ba (He.ba (He.ba T.ex).2).2).2).2).2).1
theorem Txt.e_TooMany (T : Txt w K mg) : oexB K "TooMany" "most" = true := (He.ba (He.ba (He.ba (He.ba (He.ba (He.ba (He.ba T.ex).2).2).2).2).2).2).1
theorem Txt.e_PastError (T : Txt w K mg) : pinB K "PastError" = true := (He.ba (He.ba (He.ba (He.ba (He.ba (He.ba (He.ba T.ex).2).2).2).2).2).2).2
theorem Txt.t_ACTIONS (T : Txt w K mg) : ∃ es n, KDict K w (He.ga K "ACTIONS") es n := T.tab 0
theorem Txt.t_FORMS (T : Txt w K mg) : ∃ es n, KDict K w (He.ga K "FORMS") es n := T.tab 1
end
end M

set_option Elab.async false
set_option linter.all false
set_option maxRecDepth 100000
set_option maxHeartbeats 2000000
namespace M
open PySem PySem.Spec PyProof.Rows L2
/-! ### defs by their names, what they promise -/
/-- the global name x holds a def that keeps sp at level k -/
structure Ca (P : Program) (w : World) (K : PySem.W.Frag) (mg : Str → Option Value) (base : Heap) (k : Nat) (x : Str) (sp : Sp) : Prop where
  ex : ∃ (f : Addr) (fd : FuncData) (ps : List Str), FnOk P w K mg base CX0 k f fd ps sp ∧ mg x = some (.ref f) ∧ PySem.W.keepIn K (.ref f) = true ∧ Binds K fd ps []
/-- a method of the class C -/
structure Me (P : Program) (w : World) (K : PySem.W.Frag) (mg : Str → Option Value) (base : Heap) (k : Nat) (C : Addr) (m : Str) (sp : Sp) : Prop where
  ex : ∃ (f : Addr) (fd : FuncData) (ps : List Str), Cls K C ∧ Meth K C m f ∧ FnOk P w K mg base CX0 k f fd ps sp ∧ Binds K fd ps []
/-- the class x is made by its __init__ -/
structure Ma (P : Program) (w : World) (K : PySem.W.Frag) (mg : Str → Option Value) (base : Heap) (k : Nat) (x : Str) (C : Addr) (sp : Sp) : Prop where
  ex : ∃ (f : Addr) (fd : FuncData) (ps : List Str), Mk K C f ∧ FnOk P w K mg base CX0 k f fd ps sp ∧ mg x = some (.ref C) ∧ Binds K fd ps []
section
variable {P : Program} {w : World} {K : PySem.W.Frag} {mg : Str → Option Value} {base : Heap} {x m q : Str} {st : Stmt} {N ps : List Str} {k : Nat} {sp : Sp} {C f : Addr}
abbrev BindsH (x q : Str) (st : Stmt) (ps : List Str) : Prop := ∀ (kV doc pm : Value) (an : Option Addr) (cdv ct : Value) (us : List Value), us.length = ps.length → bindArgs (PySem.W.fnOf x q (defArgs st) (defBody st) (defScope st) .none kV doc pm an cdv ct) ⟨us, []⟩ = pure (ps.zip us)
abbrev BodyH (P : Program) (w : World) (K : PySem.W.Frag) (mg : Str → Option Value) (base : Heap) (q : Str) (st : Stmt) (N : List Str) (k : Nat) (f : Addr) (sp : Sp) : Prop := ∀ (cdv : Value) (A : Around) (outer : List Env) (s : Shared) (H : Hp) (vs : List V) (Q : VK) (E : XK), Room k (A.deeper (envOfC q (defScope st) s.heap.objs.size f cdv)) → sp vs H Q E →
      ∃ t, PSs (cxOf CX0 P w K mg base N q (defScope st) f cdv A outer s H E).nox (defBody st) t ∧ t { nx := fun _ H' => Q .non H', rt := Q } (start N vs) H
theorem fn_d {fd : FuncData} (F : FunD K x q (defArgs st) (defBody st) (defScope st) [] [] f fd) (S : FnScope N ps (defScope st)) (len : ∀ vs H Q E, sp vs H Q E → vs.length = ps.length)
    (hbody : BodyH P w K mg base q st N k f sp) : FnOk P w K mg base CX0 (k + 1) f fd ps sp := by
  refine F.ok S len (fun cdv A outer s H vs Q E hr h => ?_)
  obtain ⟨t, h1, h2⟩ := hbody cdv A outer s H vs Q E hr h
  exact ⟨t, h1.nox, h2⟩
theorem ca_of (F : ∃ fd, FunD K x x (defArgs st) (defBody st) (defScope st) [] [] (He.fAd K (x, none)) fd) (g : mg x = some (.ref (He.ga K x))) (S : FnScope N ps (defScope st)) (hb : BindsH x x st ps) (len : ∀ vs H Q E, sp vs H Q E → vs.length = ps.length)
    (hbody : BodyH P w K mg base x st N k (He.fAd K (x, none)) sp) : Ca P w K mg base (k + 1) x sp := by
  obtain ⟨fd, F⟩ := F
  exact ⟨_, fd, ps, fn_d F S len hbody, g, F.kp, F.bindsN hb⟩
theorem me_of {C : Str} (F : ∃ fd, FunD K m q (defArgs st) (defBody st) (defScope st) [] [] (He.fAd K (C, some m)) fd) (c : Cls K (He.ga K C)) (g : Meth K (He.ga K C) m (He.ma K (He.ga K C) m)) (S : FnScope N ps (defScope st)) (hb : BindsH m q st ps) (len : ∀ vs H Q E, sp vs H Q E → vs.length = ps.length)
    (hbody : BodyH P w K mg base q st N k (He.fAd K (C, some m)) sp) : Me P w K mg base (k + 1) (He.ga K C) m sp := by
  obtain ⟨fd, F⟩ := F
  exact ⟨_, fd, ps, c, g, fn_d F S len hbody, F.bindsN hb⟩
theorem ma_of {C : Str} (F : ∃ fd, FunD K "__init__" q (defArgs st) (defBody st) (defScope st) [] [] (He.fAd K (C, some "__init__")) fd) (g : mg C = some (.ref (He.ga K C))) (mk : Mk K (He.ga K C) (He.ma K (He.ga K C) "__init__")) (S : FnScope N ps (defScope st)) (hb : BindsH "__init__" q st ps) (len : ∀ vs H Q E, sp vs H Q E → vs.length = ps.length)
    (hbody : BodyH P w K mg base q st N k (He.fAd K (C, some "__init__")) sp) : Ma P w K mg base (k + 1) C (He.ga K C) sp := by
  obtain ⟨fd, F⟩ := F
  exact ⟨_, fd, ps, mk, fn_d F S len hbody, g, F.bindsN hb⟩
theorem Ca.mono {j : Nat} (c : Ca P w K mg base j x sp) (h : j ≤ k) : Ca P w K mg base k x sp := by
  obtain ⟨f, fd, ps, F, r⟩ := c.ex
  exact ⟨f, fd, ps, F.mono h, r⟩
end
section
variable {X : Cx} {k j : Nat} {x m : Str} {sp : Sp} {C : Addr} {p pos apos : Pos} {e o : Expr} {es : List Expr} {t : TA} {ta : TE}
theorem pe_ca (c : Ca X.prog X.w X.K X.mg X.base k x sp) (hr : Room j X.A) (ha : PA X (e :: es) t) (hk : k ≤ j := by decide) (hg : Gl X x := by rfl)
    (hdb : (x == ("__debug__" : Str)) = false := by decide) (he : starEach (e :: es) X.env = (false, eval e X.env) :: starEach es X.env := by rfl) (hpl : (backTo pos (starEach es X.env)).any (·.1) = false := by rfl) :
    PE X (.Call (.Name x p) (e :: es) [] pos) (tCall sp [] E0 t) := by
  obtain ⟨f, fd, ps, F, hm, kp, b⟩ := c.ex
  exact pe_call F (hr.mono hk) hg hm kp b .nil pass0 ha hdb he hpl
theorem pe_ma (c : Ma X.prog X.w X.K X.mg X.base k x C sp) (hr : Room j X.A) (ha : PA X (e :: es) t) (hk : k + 1 ≤ j := by decide) (hg : Gl X x := by rfl)
    (hdb : (x == ("__debug__" : Str)) = false := by decide) (he : starEach (e :: es) X.env = (false, eval e X.env) :: starEach es X.env := by rfl) (hpl : (backTo pos (starEach es X.env)).any (·.1) = false := by rfl) :
    PE X (.Call (.Name x p) (e :: es) [] pos) (tMake C sp [] E0 t) := by
  obtain ⟨f, fd, ps, M, F, hm, b⟩ := c.ex
  exact pe_make M F (hr.mono hk) hg hm b .nil pass0 ha hdb he hpl
theorem pe_me0 {pl : Sem Bool} (c : Me X.prog X.w X.K X.mg X.base k C m sp) (hr : Room j X.A) (he : PE X o ta) (hk : k ≤ j := by decide)
    (ht : eval (.Call (.Attribute o m apos) [] [] pos) X.env = (do
      let ov ← eval o X.env
      standAt apos.atName
      let (f, first) ← holding [ov] (getMethod ov m pl)
      callWith pos f first (backTo pos (starEach [] X.env)) (backToKw pos (keywordEach [] X.env))) := by rfl) :
    PE X (.Call (.Attribute o m apos) [] [] pos) (tMeth C m sp [] E0 ta tNil) := by
  obtain ⟨f, fd, ps, hc, hm, F, b⟩ := c.ex
  exact pe_meth0 (pl := pl) he hc hm F (hr.mono hk) b .nil pass0 ht
theorem pe_me {pl : Sem Bool} (c : Me X.prog X.w X.K X.mg X.base k C m sp) (hr : Room j X.A) (he : PE X o ta) (ha : PA X (e :: es) t) (hk : k ≤ j := by decide)
    (hst : starEach (e :: es) X.env = (false, eval e X.env) :: starEach es X.env := by rfl) (hpl : (backTo pos (starEach es X.env)).any (·.1) = false := by rfl)
    (ht : eval (.Call (.Attribute o m apos) (e :: es) [] pos) X.env = (do
      let ov ← eval o X.env
      standAt apos.atName
      let (f, first) ← holding [ov] (getMethod ov m pl)
      callWith pos f first (backTo pos (starEach (e :: es) X.env)) (backToKw pos (keywordEach [] X.env))) := by rfl) :
    PE X (.Call (.Attribute o m apos) (e :: es) [] pos) (tMeth C m sp [] E0 ta t) := by
  obtain ⟨f, fd, ps, hc, hm, F, b⟩ := c.ex
  exact pe_meth (pl := pl) he hc hm F (hr.mono hk) b .nil pass0 ha hst hpl ht
/-- isinstance(a, b) -/
theorem pe_isi {a b : Expr} {ta tb : TE} (h : X.mg "isinstance" = none) (ha : PE X a ta) (hb : PE X b tb) (hg : Gl X "isinstance" := by rfl)
    (he : starEach [a, b] X.env = (false, eval a X.env) :: starEach [b] X.env := by rfl) (hpl : (backTo pos (starEach [b] X.env)).any (·.1) = false := by rfl)
    (he2 : starEach [b] X.env = (false, eval b X.env) :: starEach [] X.env := by rfl) :
    PE X (.Call (.Name "isinstance" p) [a, b] [] pos) (tCB (rIsi X.K) (tCons ta (tCons tb tNil))) :=
  pe_callB call_isi hg h boot_isinstance (pa_cons ha (pa_cons hb pa_nil he2) he) (he := he) (hpl := hpl)
/-- a built-in class as a value -/
theorem pe_ty {n : String} {x : Str} (h : X.mg x = none) (hv : bootBuiltins x = some (.type n)) (hg : Gl X x := by rfl) (hn : x ≠ "__name__" := by decide) (hd : (x == ("__debug__" : Str)) = false := by decide) : PE X (.Name x pos) (tC (.ty n)) := pe_bltn hg h hv rfl hn hd
theorem pe_gi {n : Int} {x : Str} (h : ∃ u, X.mg x = some u ∧ RelV (.int n) u) (hg : Gl X x := by rfl) (hd : (x == ("__debug__" : Str)) = false := by decide) : PE X (.Name x pos) (tC (.int n)) := by
  obtain ⟨u, hm, r⟩ := h
  exact pe_glob hg hm r hd
theorem pe_gr {x : Str} {a : Addr} (h : X.mg x = some (.ref a)) (hg : Gl X x := by rfl) (hd : (x == ("__debug__" : Str)) = false := by decide) : PE X (.Name x pos) (tC (.ref a)) := pe_glob hg h rfl hd
end
section
variable {X : Cx} {i j k : Nat} {x y z : Str} {p1 p2 p3 pos : Pos} {n : Nat}
/-- a, b as a target -/
theorem pg_two (K : PySem.W.Frag) (i j : Nat) (hK : X.K = K) (hc : X.calm = true) (nd : X.N.Nodup) (hi : X.N[i]? = some x) (hj : X.N[j]? = some y) (hx : Loc X.env.scope x) (hy : Loc X.env.scope y)
    (fx : X.fn x = true ∨ X.env.scope.names.lookup x = some .local) (fy : X.fn y = true ∨ X.env.scope.names.lookup y = some .local) :
    PG X (.Tuple [.Name x p1, .Name y p2] n pos) (gTup K 2 (gCons (gName i) (gCons (gName j) gNil))) := hK ▸
  pg_tup hc (pgs_cons (pg_name nd hi hx fx) (pgs_cons (pg_name nd hj hy fy) pgs_nil))
/-- a, b, c as a target -/
theorem pg_three (K : PySem.W.Frag) (i j k : Nat) (hK : X.K = K) (hc : X.calm = true) (nd : X.N.Nodup) (hi : X.N[i]? = some x) (hj : X.N[j]? = some y) (hk : X.N[k]? = some z) (hx : Loc X.env.scope x) (hy : Loc X.env.scope y) (hz : Loc X.env.scope z)
    (fx : X.fn x = true ∨ X.env.scope.names.lookup x = some .local) (fy : X.fn y = true ∨ X.env.scope.names.lookup y = some .local) (fz : X.fn z = true ∨ X.env.scope.names.lookup z = some .local) :
    PG X (.Tuple [.Name x p1, .Name y p2, .Name z p3] n pos) (gTup K 3 (gCons (gName i) (gCons (gName j) (gCons (gName k) gNil)))) := hK ▸
  pg_tup hc (pgs_cons (pg_name nd hi hx fx) (pgs_cons (pg_name nd hj hy fy) (pgs_cons (pg_name nd hk hz fz) pgs_nil)))
end
theorem boot_int : bootBuiltins "int" = some (.type "int") := by decide +kernel
theorem boot_bool : bootBuiltins "bool" = some (.type "bool") := by decide +kernel
theorem boot_str : bootBuiltins "str" = some (.type "str") := by decide +kernel
theorem boot_list : bootBuiltins "list" = some (.type "list") := by decide +kernel
theorem boot_tuple : bootBuiltins "tuple" = some (.type "tuple") := by decide +kernel
theorem boot_abs : bootBuiltins "abs" = some (.builtin "abs") := by decide +kernel
theorem boot_max : bootBuiltins "max" = some (.builtin "max") := by decide +kernel
theorem boot_min : bootBuiltins "min" = some (.builtin "min") := by decide +kernel
theorem boot_set : bootBuiltins "set" = some (.type "set") := by decide +kernel
/-! ### kinds of values -/
/-- the kinds that the program asks for -/
inductive Kd where
  | non | bool | int | str | list | tuple | dict | obj
  deriving DecidableEq
def Kd.name : Kd → String
  | .non => "NoneType" | .bool => "bool" | .int => "int" | .str => "str" | .list => "list" | .tuple => "tuple" | .dict => "dict" | .obj => "object"
/-- isinstance's answer -/
def Kd.is (k c : Kd) : Bool := decide (k = c) || (decide (k = .bool) && decide (c = .int))
theorem kd_kit {K : PySem.W.Frag} (k c : Kd) (h : k ≠ .obj) (h2 : c ≠ .obj) : PySem.W.kitOne K (.type k.name) (.type c.name) = some (k.is c) := by
  refine kit_ty ?_
  cases k <;> cases c <;> first | decide +kernel | exact absurd rfl h | exact absurd rfl h2
/-- v is of the kind k -/
inductive Of (K : PySem.W.Frag) (H : Hp) : V → Kd → Prop where
  | non : Of K H .non .non
  | bl (b : Bool) : Of K H (.bl b) .bool
  | int (i : Int) : Of K H (.int i) .int
  | str (x : Str) : Of K H (.str x) .str
  | list {a : Addr} {xs : List V} (h : SqL K H a xs) : Of K H (.ref a) .list
  | tuple {a : Addr} {xs : List V} (h : SqT K H a xs) : Of K H (.ref a) .tuple
  | dict {a : Addr} (h : TyX K H (.ref a) (.type "dict")) : Of K H (.ref a) .dict
  | obj {a C : Addr} (h : TyX K H (.ref a) (.ref C)) (hk : ∀ c : Kd, c ≠ .obj → PySem.W.kitOne K (.ref C) (.type c.name) = some false) : Of K H (.ref a) .obj
theorem ty_sqL {K : PySem.W.Frag} {H : Hp} {a : Addr} {xs : List V} (h : SqL K H a xs) : TyX K H (.ref a) (.type "list") := by
  rcases h with (h | ⟨o, h⟩) | ⟨o, its, n, h1, h2, _⟩
  · exact .base (.lst h)
  · exact .base (.frz h)
  · exact .kList h1 h2
theorem ty_sqT {K : PySem.W.Frag} {H : Hp} {a : Addr} {xs : List V} (h : SqT K H a xs) : TyX K H (.ref a) (.type "tuple") := by
  rcases h with (h | ⟨o, h⟩) | ⟨o, its, n, h1, h2, _⟩
  · exact .base (.tup h)
  · exact .fTuple h
  · exact .kTuple h1 h2
/-- what isinstance(v, c) comes to -/
theorem isi_k {K : PySem.W.Frag} {H : Hp} {v : V} {k : Kd} (c : Kd) {Q : VK} (h : Of K H v k) (q : Q (.bl (k.is c)) H) (hc : c ≠ .obj := by decide) : rIsi K [v, .ty c.name] H Q := by
  cases h with
  | non => exact ⟨_, _, _, _, _, rfl, .ty _, .base .non, kd_kit .non c (by decide) hc, q⟩
  | bl b => exact ⟨_, _, _, _, _, rfl, .ty _, .base (.bl b), kd_kit .bool c (by decide) hc, q⟩
  | int b => exact ⟨_, _, _, _, _, rfl, .ty _, .base (.int b), kd_kit .int c (by decide) hc, q⟩
  | str b => exact ⟨_, _, _, _, _, rfl, .ty _, .base (.str b), kd_kit .str c (by decide) hc, q⟩
  | list b => exact ⟨_, _, _, _, _, rfl, .ty _, ty_sqL b, kd_kit .list c (by decide) hc, q⟩
  | tuple b => exact ⟨_, _, _, _, _, rfl, .ty _, ty_sqT b, kd_kit .tuple c (by decide) hc, q⟩
  | dict b => exact ⟨_, _, _, _, _, rfl, .ty _, b, kd_kit .dict c (by decide) hc, q⟩
  | obj b hk => 
    have e : Kd.is .obj c = false := by cases c <;> first | rfl | exact absurd rfl hc
    rw [e] at q
    exact ⟨_, _, _, _, _, rfl, .ty _, b, hk c hc, q⟩
theorem pe_imp {X : Cx} {e : Expr} {t t' : TE} (h : PE X e t) (i : ∀ σ H Q, t' σ H Q → t σ H Q) : PE X e t' := ⟨fun pins s σ H Q I q => h.run pins s σ H Q I (i σ H Q q)⟩
theorem callR_imp {X : Cx} {f : Value} {r r' : List V → Hp → VK → Prop} (h : CallR X f r) (i : ∀ vs H Q, r' vs H Q → r vs H Q) : CallR X f r' := fun pins s σ H xs us Q I rv q => h pins s σ H xs us Q I rv (i xs H Q q)
/-- isinstance(v, c): its kind -/
def rIs (K : PySem.W.Frag) (c : Kd) : List V → Hp → VK → Prop := fun xs H Q => ∃ (v : V) (k : Kd), xs = [v, .ty c.name] ∧ Of K H v k ∧ Q (.bl (k.is c)) H
theorem call_is {X : Cx} (c : Kd) (hc : c ≠ .obj := by decide) : CallR X (.builtin "isinstance") (rIs X.K c) := callR_imp call_isi fun vs H Q ⟨v, k, e, h, q⟩ => by
  subst e
  exact isi_k c h q hc
section
variable {X : Cx} {a : Expr} {ta : TE} {x : Str} {p p2 pos : Pos}
theorem pe_is (c : Kd) (h : X.mg "isinstance" = none) (ha : PE X a ta) (hm : X.mg x = none) (hv : bootBuiltins x = some (.type c.name)) (hc : c ≠ .obj := by decide) (hg2 : Gl X x := by rfl) (hn : x ≠ "__name__" := by decide) (hd : (x == ("__debug__" : Str)) = false := by decide) (hg : Gl X "isinstance" := by rfl)
    (he : starEach [a, .Name x p2] X.env = (false, eval a X.env) :: starEach [.Name x p2] X.env := by rfl) (hpl : (backTo pos (starEach [.Name x p2] X.env)).any (·.1) = false := by rfl)
    (he2 : starEach [.Name x p2] X.env = (false, eval (.Name x p2) X.env) :: starEach [] X.env := by rfl) :
    PE X (.Call (.Name "isinstance" p) [a, .Name x p2] [] pos) (tCB (rIs X.K c) (tCons ta (tCons (tC (.ty c.name)) tNil))) :=
  pe_callB (call_is c hc) hg h boot_isinstance (pa_cons ha (pa_cons (pe_ty (pos := p2) hm hv hg2 hn hd) pa_nil he2) he) (he := he) (hpl := hpl)
end
/-! ### data -/
theorem same_t {K : PySem.W.Frag} {H H' : Hp} {a : Addr} {xs : List V} (e : Same H H') (h : SqT K H a xs) : SqT K H' a xs := by
  rcases h with (h | ⟨o, h⟩) | h
  · exact .inl (.inl (e _ _ h))
  · exact .inl (.inr ⟨o, e _ _ h⟩)
  · exact .inr h
theorem same_new {H : Hp} {p : Addr} {o : HO} (h : H p = none) : Same H (upd H p o) := fun a u e => by
  rw [upd_ne (ne_of_none e h)]
  exact e
mutual
theorem dp_same {K : PySem.W.Frag} {H H' : Hp} (e : Same H H') : ∀ {v : V} {d : PyData}, Dp K H v d → Dp K H' v d
  | _, _, .non => .non
  | _, _, .bl b => .bl b
  | _, _, .int i => .int i
  | _, _, .str x => .str x
  | _, _, .lst h r => .lst (e.seq h) (dps_same e r)
  | _, _, .tup h r => .tup (same_t e h) (dps_same e r)
theorem dps_same {K : PySem.W.Frag} {H H' : Hp} (e : Same H H') : ∀ {vs : List V} {ds : List PyData}, DpAll K H vs ds → DpAll K H' vs ds
  | _, _, .nil => .nil
  | _, _, .cons h r => .cons (dp_same e h) (dps_same e r)
end
def kdOf : PyData → Kd
  | .bool _ => .bool
  | .int _ => .int
  | .str _ => .str
  | .list _ => .list
  | .tuple _ => .tuple
  | _ => .non
theorem dp_kd {K : PySem.W.Frag} {H : Hp} {v : V} {d : PyData} (h : Dp K H v d) : Of K H v (kdOf d) := by
  cases h with
  | non => exact .non
  | bl b => exact .bl b
  | int i => exact .int i
  | str x => exact .str x
  | lst h _ => exact .list h
  | tup h _ => exact .tuple h
end M

set_option Elab.async false
set_option linter.all false
set_option maxRecDepth 100000
set_option maxHeartbeats 2000000
namespace M
open PySem PySem.Spec PyProof.Rows L2

section
variable {P : Program} {w : World} {K : PySem.W.Frag} {mg : Str → Option Value} {base : Heap}
/-! ### pastless.checks -/
def spInteger (K : PySem.W.Frag) : Sp := fun vs H Q _ => ∃ (v : V) (k : Kd), vs = [v] ∧ Of K H v k ∧ Q (.bl (decide (k = .int))) H
theorem ca_is_integer (T : Txt w K mg) : Ca P w K mg base 1 "is_integer" (spInteger K) := by
  refine ca_of (N := ["value"]) (ps := ["value"]) T.f_is_integer T.g_is_integer ⟨rfl, rfl, rfl, by decide +kernel, rfl, by decide +kernel, by decide +kernel⟩ (fun _ _ _ _ _ _ us hl => match us, hl with | [_], _ => rfl)
    (fun vs H Q E h => by obtain ⟨v, k, rfl, hk, q⟩ := h; rfl) (fun cdv A outer s H vs Q E hr h => ?_)
  have nd : (["value"] : List Str).Nodup := by decide +kernel
  obtain ⟨v, k, rfl, hk, q⟩ := h
  refine ⟨_, pss_one (ps_ret (pe_and (pe_is .int T.b_isinstance (pv 0) T.b_int boot_int) (pe_one (pe_not (pe_is .bool T.b_isinstance (pv 0) T.b_bool boot_bool))))), ?_⟩
  refine ⟨_, rfl, _, _, rfl, hk, _, rfl, ?_⟩
  cases k <;> first | exact iteF q | exact iteT ⟨_, rfl, _, _, rfl, hk, _, rfl, q⟩
def spWithin : Sp := fun vs H Q _ => ∃ (i lo hi : Int), vs = [.int i, .int lo, .int hi] ∧ Q (.bl (decide (lo ≤ i) && decide (i ≤ hi))) H
theorem ca_is_within (T : Txt w K mg) : Ca P w K mg base 2 "is_within" (spWithin) := by
  refine ca_of (N := ["value", "least", "greatest"]) (ps := ["value", "least", "greatest"]) T.f_is_within T.g_is_within ⟨rfl, rfl, rfl, by decide +kernel, rfl, by decide +kernel, by decide +kernel⟩ (fun _ _ _ _ _ _ us hl => match us, hl with | [_, _, _], _ => rfl)
    (fun vs H Q E h => by obtain ⟨i, lo, hi, rfl, q⟩ := h; rfl) (fun cdv A outer s H vs Q E hr h => ?_)
  have nd : (["value", "least", "greatest"] : List Str).Nodup := by decide +kernel
  obtain ⟨i, lo, hi, rfl, q⟩ := h
  refine ⟨_, pss_one (ps_ret (pe_and (pe_ca (ca_is_integer T) hr (pa_cons (pv 0) pa_nil)) (pe_one (pe_chain op_le op_le (pv 1) (pv 0) (pv 2))))), ?_⟩
  refine ⟨_, rfl, _, _, rfl, .int i, _, rfl, iteT ?_⟩
  refine ⟨_, rfl, _, rfl, _, _, rfl, rfl, _, rfl, ?_⟩
  by_cases c : lo ≤ i
  · rw [decide_eq_true c] at q ⊢
    exact iteT ⟨_, rfl, _, _, rfl, rfl, q⟩
  · rw [decide_eq_false c] at q ⊢
    exact iteF q
/-- within its bounds -/
theorem within_t {i lo hi : Int} (h : lo ≤ i ∧ i ≤ hi) : (decide (lo ≤ i) && decide (i ≤ hi)) = true := by simp [h.1, h.2]
def spTuple (K : PySem.W.Frag) : Sp := fun vs H Q _ => ∃ (a : Addr) (xs : List V) (n : Int), vs = [.ref a, .int n] ∧ SqT K H a xs ∧ Q (.bl (decide ((xs.length : Int) = n))) H
theorem ca_is_tuple (T : Txt w K mg) : Ca P w K mg base 1 "is_tuple" (spTuple K) := by
  refine ca_of (N := ["value", "length"]) (ps := ["value", "length"]) T.f_is_tuple T.g_is_tuple ⟨rfl, rfl, rfl, by decide +kernel, rfl, by decide +kernel, by decide +kernel⟩ (fun _ _ _ _ _ _ us hl => match us, hl with | [_, _], _ => rfl)
    (fun vs H Q E h => by obtain ⟨a, xs, n, rfl, hs, q⟩ := h; rfl) (fun cdv A outer s H vs Q E hr h => ?_)
  have nd : (["value", "length"] : List Str).Nodup := by decide +kernel
  obtain ⟨a, xs, n, rfl, hs, q⟩ := h
  refine ⟨_, pss_one (ps_ret (pe_and (pe_is .tuple T.b_isinstance (pv 0) T.b_tuple boot_tuple) (pe_one (pe_cmpR op_eq (pe_callB call_len_seq (by rfl) T.b_len PySem.boot_len (pa_cons (pv 0) pa_nil)) (pv 1) (nomark _))))), ?_⟩
  refine ⟨_, rfl, _, _, rfl, .tuple hs, _, rfl, iteT ?_⟩
  refine ⟨_, rfl, _, _, rfl, .inr hs, _, rfl, rfl, ?_⟩
  rw [show (decide (V.int (xs.length : Int) = V.int n)) = decide ((xs.length : Int) = n) from by simp]
  exact q
/-- hs is a state of cells of the sizes ss -/
def StateOk (ss hs : List Int) : Prop := ss.length = hs.length ∧ ∀ (i : Nat) (s h : Int), ss[i]? = some s → hs[i]? = some h → 0 ≤ h ∧ h < s
theorem get_map {l : List Int} {i : Nat} {x : V} (h : (l.map V.int)[i]? = some x) : ∃ z, l[i]? = some z ∧ x = .int z := by
  rw [List.getElem?_map] at h
  cases e : l[i]? with
  | none => rw [e] at h; cases h
  | some z => rw [e] at h; exact ⟨z, rfl, (Option.some.inj h).symm⟩
def spState (K : PySem.W.Frag) : Sp := fun vs H Q _ => ∃ (a b : Addr) (ss hs : List Int), vs = [.ref a, .ref b] ∧ SqT K H a (ss.map .int) ∧ SqT K H b (hs.map .int) ∧ StateOk ss hs ∧ ∀ H', Same H H' → Q (.bl true) H'
theorem ca_is_state (T : Txt w K mg) : Ca P w K mg base 3 "is_state" (spState K) := by
  refine ca_of (N := ["sizes", "value", "size", "held"]) (ps := ["sizes", "value"]) T.f_is_state T.g_is_state ⟨rfl, rfl, rfl, by decide +kernel, rfl, by decide +kernel, by decide +kernel⟩ (fun _ _ _ _ _ _ us hl => match us, hl with | [_, _], _ => rfl)
    (fun vs H Q E h => by obtain ⟨a, b, ss, hs, rfl, ha, hb, ok, q⟩ := h; rfl) (fun cdv A outer s H vs Q E hr h => ?_)
  have nd : (["sizes", "value", "size", "held"] : List Str).Nodup := by decide +kernel
  obtain ⟨a, b, ss, hs, rfl, ha, hb, ok, q⟩ := h
  refine ⟨_, pss_cons (ps_if (pt_not (pt_val (pe_ca (ca_is_tuple T) hr (pa_cons (pv 1) (pa_cons (pe_callB call_len_seq (by rfl) T.b_len PySem.boot_len (pa_cons (pv 0) pa_nil)) pa_nil))))) (pss_one (ps_ret pe_bl)) pss_nil)
    (pss_cons (ps_for PassesOwn.never rfl (RZ.pi_zipA (by rfl) T.b_zip (pa_cons (pv 0) (pa_cons (pv 1) pa_nil))) (pg_tup rfl (pgs_cons (pg_name (i := 2) nd rfl (.inl rfl)) (pgs_cons (pg_name (i := 3) nd rfl (.inl rfl)) pgs_nil)))
      (pss_one (ps_if (pt_not (pt_val (pe_ca (ca_is_within T) hr (pa_cons (pv 3) (pa_cons pe_int (pa_cons (pe_op op_sub (pv 2) pe_int) pa_nil)))))) (pss_one (ps_ret pe_bl)) pss_nil)))
    (pss_one (ps_ret pe_bl))), ?_⟩
  refine ⟨_, rfl, _, rfl, _, _, rfl, .inr ha, b, _, _, rfl, hb, _, rfl, ?_⟩
  rw [List.length_map, List.length_map, ok.1, decide_eq_true rfl]
  refine iteF ⟨_, rfl, _, rfl, a, b, _, _, rfl, .inr ⟨ha, hb, RZ.for_zipT (xs := ss.map V.int) (ys := hs.map V.int) (by simp [ok.1]) (fun i σ H' => ∃ x y, σ = [some (.ref a), some (.ref b), x, y] ∧ Same H H') ⟨none, none, rfl, Same.refl H⟩ (fun i σ H' ⟨_, _, _, s⟩ => ⟨same_t s ha, same_t s hb⟩) ?_ ?_⟩⟩
  · rintro i x y t σ H' hx hy ⟨u, v, rfl, s⟩ ht
    obtain ⟨z, hz, rfl⟩ := get_map hx
    obtain ⟨z', hz', rfl⟩ := get_map hy
    have o := ok.2 i z z' hz hz'
    refine ⟨t, _, rfl, SqT.of upd_same, rfl, _, _, rfl, _, _, rfl, rfl, ?_⟩
    refine ⟨_, rfl, _, rfl, _, _, rfl, rfl, z', 0, z - 1, rfl, _, rfl, ?_⟩
    rw [within_t ⟨o.1, by omega⟩]
    exact iteF ⟨_, _, rfl, s.trans (same_new ht)⟩
  · rintro σ H' ⟨_, _, rfl, s⟩
    exact q H' s
end

end M

set_option Elab.async false
set_option linter.all false
set_option maxRecDepth 100000
set_option maxHeartbeats 2000000
namespace M
open PySem PySem.Spec PyProof.Rows L2

/-! ### what bodies, codes and vaults are -/
inductive Exp where
  | num (n : Int) | reg (r : Str) | op (s : Str) (a b : Exp)
def Exp.d : Exp → PyData
  | .num n => .int n
  | .reg r => .str r
  | .op s a b => .tuple [.str s, a.d, b.d]
inductive Row where
  | read (r : Str) (c : Int) | set (c : Int) (e : Exp) | swap (r : Str) (c : Int) (e f : Exp) | keep (r : Str) (e : Exp) | coin (r : Str)
  | iff (e : Exp) (a b : List Row) | times (e : Exp) (a : List Row) | ans (e : Exp)
mutual
def Row.d : Row → PyData
  | .read r c => .tuple [.str "read", .str r, .int c]
  | .set c e => .tuple [.str "set", .int c, e.d]
  | .swap r c e f => .tuple [.str "swap", .str r, .int c, e.d, f.d]
  | .keep r e => .tuple [.str "keep", .str r, e.d]
  | .coin r => .tuple [.str "coin", .str r]
  | .iff e a b => .tuple [.str "if", e.d, .tuple (rowsD a), .tuple (rowsD b)]
  | .times e a => .tuple [.str "times", e.d, .tuple (rowsD a)]
  | .ans e => .tuple [.str "answer", e.d]
def rowsD : List Row → List PyData
  | [] => []
  | r :: rs => r.d :: rowsD rs
end
/-- a row of a code -/
inductive FR where
  | row (r : Row) | unless (e : Exp) (p : Nat) | on (p : Nat) | rounds (e : Exp) | round (p : Nat) | hole
def FR.d : FR → PyData
  | .row r => r.d
  | .unless e p => .tuple [.str "unless", e.d, .int p]
  | .on p => .tuple [.str "on", .int p]
  | .rounds e => .tuple [.str "rounds", e.d]
  | .round p => .tuple [.str "round", .int p]
  | .hole => .tuple []
mutual
def putRow : Row → List FR → List FR
  | .iff e a b, c =>
    let c1 := putRows a (c ++ [FR.hole])
    let c2 := putRows b ((c1 ++ [FR.hole]).set c.length (FR.unless e (c1.length + 1)))
    c2.set c1.length (FR.on c2.length)
  | .times e a, c =>
    let c1 := putRows a (c ++ [FR.rounds e, FR.hole])
    (c1 ++ [FR.on (c.length + 1)]).set (c.length + 1) (FR.round (c1.length + 1))
  | .read r k, c => c ++ [.row (.read r k)]
  | .set k e, c => c ++ [.row (.set k e)]
  | .swap r k e f, c => c ++ [.row (.swap r k e f)]
  | .keep r e, c => c ++ [.row (.keep r e)]
  | .coin r, c => c ++ [.row (.coin r)]
  | .ans e, c => c ++ [.row (.ans e)]
def putRows : List Row → List FR → List FR
  | [], c => c
  | r :: rs, c => putRows rs (putRow r c)
end
def codeOf (rows : List Row) : List FR := putRows rows [] ++ [.row (.ans (.num 0))]
structure Vlt where
  cells : List (Int × Int)
  deeds : List (Str × Int × List Row)
def cellD (c : Int × Int) : PyData := .tuple [.int c.1, .int c.2]
def deedD (d : Str × Int × List Row) : PyData := .tuple [.str d.1, .int d.2.1, .tuple (rowsD d.2.2)]
def Vlt.calls (v : Vlt) : List (Str × Int) := v.deeds.flatMap fun d => (List.range d.2.1.toNat).map fun (j : Nat) => (d.1, (j : Int))
def codeD (rows : List Row) : PyData := .tuple ((codeOf rows).map FR.d)
/-- what the attributes of a vault hold -/
def vflds (a d c : Addr) (b : Bool) : List (Str × V) := putF "_coins" (.bl b) (putF "_codes" (.ref c) (putF "_deeds" (.ref d) (putF "_cells" (.ref a) [])))
theorem v1 : ¬ (("_cells" : Str) = "_deeds") := by decide +kernel
theorem v2 : ¬ (("_cells" : Str) = "_codes") := by decide +kernel
theorem v3 : ¬ (("_cells" : Str) = "_coins") := by decide +kernel
theorem v4 : ¬ (("_deeds" : Str) = "_codes") := by decide +kernel
theorem v5 : ¬ (("_deeds" : Str) = "_coins") := by decide +kernel
theorem v6 : ¬ (("_codes" : Str) = "_coins") := by decide +kernel
theorem vf_cells (a d c : Addr) (b : Bool) : (vflds a d c b).lookup ("_cells" : Str) = some (.ref a) := by
  unfold vflds
  rw [lookup_putF, if_neg v3, lookup_putF, if_neg v2, lookup_putF, if_neg v1, lookup_putF, if_pos rfl]
theorem vf_deeds (a d c : Addr) (b : Bool) : (vflds a d c b).lookup ("_deeds" : Str) = some (.ref d) := by
  unfold vflds
  rw [lookup_putF, if_neg v5, lookup_putF, if_neg v4, lookup_putF, if_pos rfl]
theorem vf_codes (a d c : Addr) (b : Bool) : (vflds a d c b).lookup ("_codes" : Str) = some (.ref c) := by
  unfold vflds
  rw [lookup_putF, if_neg v6, lookup_putF, if_pos rfl]
theorem vf_coins (a d c : Addr) (b : Bool) : (vflds a d c b).lookup ("_coins" : Str) = some (.bl b) := by
  unfold vflds
  rw [lookup_putF, if_pos rfl]
theorem vf_no (a d c : Addr) (b : Bool) {m : Str} (h1 : ¬ m = "_cells") (h2 : ¬ m = "_deeds") (h3 : ¬ m = "_codes") (h4 : ¬ m = "_coins") : (vflds a d c b).lookup m = none := by
  unfold vflds
  rw [lookup_putF, if_neg h4, lookup_putF, if_neg h3, lookup_putF, if_neg h2, lookup_putF, if_neg h1]
  rfl
/-- the codes by the names of the deeds -/
def CodesR (K : PySem.W.Frag) (H : Hp) : List (Key × V) → List (Str × Int × List Row) → Prop
  | [], [] => True
  | (k, v) :: r, d :: ds => k = Sum.inr d.1 ∧ Dp K H v (codeD d.2.2) ∧ CodesR K H r ds
  | _, _ => False
/-- a vault stands at p -/
structure VaultAt (K : PySem.W.Frag) (H : Hp) (p : Addr) (v : Vlt) : Prop where
  ob : ∃ (dx a d c : Addr) (b : Bool) (kvs : List (Key × V)), H p = some (.ins (He.ga K "Vault") dx (vflds a d c b)) ∧ Dp K H (.ref a) (.tuple (v.cells.map cellD)) ∧ Dp K H (.ref d) (.tuple (v.deeds.map deedD)) ∧ H c = some (.dK kvs) ∧ CodesR K H kvs v.deeds
/-- the bounds of a vault -/
structure VOk (v : Vlt) : Prop where
  c1 : v.cells.length ≤ 6
  d1 : v.deeds.length ≤ 8
  ch : ∀ d ∈ v.deeds, 1 ≤ d.2.1 ∧ d.2.1 ≤ 9
  nd : (v.deeds.map (·.1)).Nodup
theorem codes_same {K : PySem.W.Frag} {H H' : Hp} (e : Same H H') : ∀ {kvs : List (Key × V)} {ds : List (Str × Int × List Row)}, CodesR K H kvs ds → CodesR K H' kvs ds
  | [], [], _ => trivial
  | (_, _) :: _, _ :: _, h => ⟨h.1, dp_same e h.2.1, codes_same e h.2.2⟩
  | [], _ :: _, h => h.elim
  | _ :: _, [], h => h.elim
theorem VaultAt.same {K : PySem.W.Frag} {H H' : Hp} {p : Addr} {v : Vlt} (e : Same H H') (h : VaultAt K H p v) : VaultAt K H' p v := by
  obtain ⟨dx, a, d, c, b, kvs, h1, h2, h3, h4, h5⟩ := h.ob
  exact ⟨dx, a, d, c, b, kvs, e _ _ h1, dp_same e h2, dp_same e h3, e _ _ h4, codes_same e h5⟩
/-! ### data taken apart -/
section
variable {K : PySem.W.Frag} {H : Hp}
theorem dp_tup {v : V} {ds : List PyData} (h : Dp K H v (.tuple ds)) : ∃ (a : Addr) (xs : List V), v = .ref a ∧ SqT K H a xs ∧ DpAll K H xs ds := by
  cases h with
  | tup h r => exact ⟨_, _, rfl, h, r⟩
theorem dp_lst {v : V} {ds : List PyData} (h : Dp K H v (.list ds)) : ∃ (a : Addr) (xs : List V), v = .ref a ∧ SqL K H a xs ∧ DpAll K H xs ds := by
  cases h with
  | lst h r => exact ⟨_, _, rfl, h, r⟩
theorem dp_int {v : V} {i : Int} (h : Dp K H v (.int i)) : v = .int i := by
  cases h
  rfl
theorem dp_str {v : V} {i : Str} (h : Dp K H v (.str i)) : v = .str i := by
  cases h
  rfl
theorem dps_len : ∀ {vs : List V} {ds : List PyData}, DpAll K H vs ds → vs.length = ds.length
  | _, _, .nil => rfl
  | _, _, .cons _ r => congrArg (· + 1) (dps_len r)
theorem dps_get : ∀ {vs : List V} {ds : List PyData} {i : Nat} {v : V}, DpAll K H vs ds → vs[i]? = some v → ∃ d, ds[i]? = some d ∧ Dp K H v d
  | _, _, i, v, .nil, h => by simp at h
  | _, _, 0, v, .cons h r, e => by
    cases (Option.some.inj e)
    exact ⟨_, rfl, h⟩
  | _, _, i + 1, v, .cons h r, e => dps_get (i := i) r e
theorem dps_at : ∀ {vs : List V} {ds : List PyData} {i : Nat} {d : PyData}, DpAll K H vs ds → ds[i]? = some d → ∃ v, vs[i]? = some v ∧ Dp K H v d
  | _, _, i, v, .nil, h => by simp at h
  | _, _, 0, v, .cons h r, e => by
    cases (Option.some.inj e)
    exact ⟨_, rfl, h⟩
  | _, _, i + 1, v, .cons h r, e => dps_at (i := i) r e
theorem dps_app : ∀ {vs ws : List V} {ds es : List PyData}, DpAll K H vs ds → DpAll K H ws es → DpAll K H (vs ++ ws) (ds ++ es)
  | _, _, _, _, .nil, r => r
  | _, _, _, _, .cons h t, r => .cons h (dps_app t r)
theorem dps_set : ∀ {vs : List V} {ds : List PyData} {i : Nat} {v : V} {d : PyData}, DpAll K H vs ds → Dp K H v d → DpAll K H (vs.set i v) (ds.set i d)
  | _, _, _, _, _, .nil, _ => .nil
  | _, _, 0, _, _, .cons _ r, z => .cons z r
  | _, _, i + 1, _, _, .cons h r, z => .cons h (dps_set (i := i) r z)
theorem dp2 {v : V} {d e : PyData} (h : Dp K H v (.tuple [d, e])) : ∃ (a : Addr) (x y : V), v = .ref a ∧ SqT K H a [x, y] ∧ Dp K H x d ∧ Dp K H y e := by
  obtain ⟨a, xs, rfl, h, r⟩ := dp_tup h
  cases r with | cons h1 r => cases r with | cons h2 r => cases r with | nil => exact ⟨a, _, _, rfl, h, h1, h2⟩
theorem dp3 {v : V} {d e f : PyData} (h : Dp K H v (.tuple [d, e, f])) : ∃ (a : Addr) (x y z : V), v = .ref a ∧ SqT K H a [x, y, z] ∧ Dp K H x d ∧ Dp K H y e ∧ Dp K H z f := by
  obtain ⟨a, xs, rfl, h, r⟩ := dp_tup h
  cases r with | cons h1 r => cases r with | cons h2 r => cases r with | cons h3 r => cases r with | nil => exact ⟨a, _, _, _, rfl, h, h1, h2, h3⟩
theorem dps_ints : ∀ {vs : List V} {is : List Int}, DpAll K H vs (is.map PyData.int) → vs = is.map V.int
  | _, [], .nil => rfl
  | _, i :: is, .cons h r => by
    rw [dp_int h, dps_ints r]
    rfl
theorem ints_dps : ∀ {is : List Int}, DpAll K H (is.map V.int) (is.map PyData.int)
  | [] => .nil
  | i :: is => .cons (.int i) ints_dps
end
/-! ### what a list that grows leaves as it was -/
/-- all but what stands at D is as it was -/
def But (D : Addr) (H H' : Hp) : Prop := ∀ b o, b ≠ D → H b = some o → H' b = some o
theorem But.upd {D : Addr} {H : Hp} {o : HO} : But D H (upd H D o) := fun b u hb e => by
  rw [upd_ne hb]
  exact e
theorem same_but {D : Addr} {H H' : Hp} (s : Same H H') : But D H H' := fun b o _ e => s b o e
theorem But.trans {D : Addr} {H H1 H2 : Hp} (s : But D H H1) (t : But D H1 H2) : But D H H2 := fun b o hb e => t b o hb (s b o hb e)
/-- no list within -/
inductive NoL : PyData → Prop where
  | non : NoL .none
  | bool (b : Bool) : NoL (.bool b)
  | int (i : Int) : NoL (.int i)
  | str (x : Str) : NoL (.str x)
  | tup {ds : List PyData} (h : ∀ d ∈ ds, NoL d) : NoL (.tuple ds)
/-- what stands at D may change -/
def Ch (H : Hp) (D : Addr) : Prop := (∀ xs, H D ≠ some (.tup xs)) ∧ ∀ o u, H D ≠ some (.frz o u)
theorem Ch.lst {H : Hp} {D : Addr} {l : List V} (h : H D = some (.lst l)) : Ch H D := ⟨fun _ e => (by rw [h] at e; cases e), fun _ _ e => (by rw [h] at e; cases e)⟩
theorem Ch.dK {H : Hp} {D : Addr} {l : List (Key × V)} (h : H D = some (.dK l)) : Ch H D := ⟨fun _ e => (by rw [h] at e; cases e), fun _ _ e => (by rw [h] at e; cases e)⟩
theorem Ch.ins {H : Hp} {D C dx : Addr} {l : List (Str × V)} (h : H D = some (.ins C dx l)) : Ch H D := ⟨fun _ e => (by rw [h] at e; cases e), fun _ _ e => (by rw [h] at e; cases e)⟩
theorem Ch.new {H : Hp} {D : Addr} (h : H D = none) : Ch H D := ⟨fun _ e => (by rw [h] at e; cases e), fun _ _ e => (by rw [h] at e; cases e)⟩
section
variable {K : PySem.W.Frag} {H H' : Hp} {D : Addr}
theorem sqT_but (hD : Ch H D) (s : But D H H') {a : Addr} {xs : List V} (h : SqT K H a xs) : SqT K H' a xs := by
  rcases h with (h | ⟨o, h⟩) | h
  · exact .inl (.inl (s _ _ (fun e => hD.1 _ (e ▸ h)) h))
  · exact .inl (.inr ⟨o, s _ _ (fun e => hD.2 _ _ (e ▸ h)) h⟩)
  · exact .inr h
mutual
theorem dp_but (hD : Ch H D) (s : But D H H') : ∀ {v : V} {d : PyData}, Dp K H v d → NoL d → Dp K H' v d
  | _, _, .non, _ => .non
  | _, _, .bl b, _ => .bl b
  | _, _, .int i, _ => .int i
  | _, _, .str x, _ => .str x
  | _, _, .lst _ _, n => nomatch n
  | _, _, .tup h r, n => .tup (sqT_but hD s h) (dps_but hD s r (by cases n with | tup h => exact h))
theorem dps_but (hD : Ch H D) (s : But D H H') : ∀ {vs : List V} {ds : List PyData}, DpAll K H vs ds → (∀ d ∈ ds, NoL d) → DpAll K H' vs ds
  | _, _, .nil, _ => .nil
  | _, _, .cons h r, n => .cons (dp_but hD s h (n _ List.mem_cons_self)) (dps_but hD s r fun d hd => n d (List.mem_cons_of_mem _ hd))
end
end
/-! ### comprehensions and loops that leave all that was as it was -/
section
variable {J : It} {n : Nat} {G : Hp → Prop} {Y : Nat → Hp → V → Hp → Prop}
/-- a list comprehension: its i-th item is R i -/
theorem lc_out (w : Walk J n G Y) {g : TG} {te : TE} {vs : List Nat} {σ : L2.St} {H1 : Hp} {D : Addr} {Qd : Hp → Prop} (hD : H1 D = none) (hn : n ≤ 100000) (R : Nat → V → Hp → Prop) (hR : ∀ i y H H', Ch H D → But D H H' → R i y H → R i y H')
    (hG : ∀ H, Same H1 H → G H)
    (hs : ∀ (i : Nat) (x : V) (H H' : Hp) (N : VK) (F : Hp → Prop), i < n → Same H1 H → Y i H x H' → (∀ y H4, Same H H4 → R i y H4 → N y H4) → g x (wipe σ vs) H' fun σ2 H2 => wipe σ2 vs = wipe σ vs ∧ if true = true then te σ2 H2 N else F H2)
    (hd : ∀ H ys, Same H1 H → H D = some (.lst ys) → ys.length = n → (∀ i y, ys[i]? = some y → R i y H) → Qd H) :
    ∃ W : Nat → Nat → Hp → Prop, (∃ m, W 0 m (upd H1 D (.lst []))) ∧ ∀ i m H, W i m H →
      (J.stop i H ∧ Qd H) ∨ (J.go i H ∧ ∃ Nx : Hp → Prop, (∀ H', Nx H' → ∃ m', m' < m ∧ W (i + 1) m' H') ∧ ∀ x H', J.yld i H x H' → g x (wipe σ vs) H' fun σ2 H2 => wipe σ2 vs = wipe σ vs ∧ tYes σ2 H2 fun b H3 =>
        if b = true then te σ2 H3 fun y H4 => ∃ acc, H4 D = some (.lst acc) ∧ acc.length < sizeLine ∧ Nx (upd H4 D (.lst (acc ++ [y]))) else Nx H3) := by
  let Pv : Nat → Hp → Prop := fun i H => ∃ ys, Same H1 H ∧ H D = some (.lst ys) ∧ ys.length = i ∧ ∀ j y, ys[j]? = some y → R j y H
  refine lc_it w Pv ⟨[], same_new hD, upd_same, rfl, fun j y e => by simp at e⟩ (fun i H _ ⟨_, s, _⟩ => hG H s) (fun i x H H' hi ⟨ys, s, eD, el, hr⟩ y => ?_) (fun H ⟨ys, s, eD, el, hr⟩ => hd H ys s eD el hr)
  refine hs i x H H' (fun y H4 => ∃ acc, H4 D = some (.lst acc) ∧ acc.length < sizeLine ∧ Pv (i + 1) (upd H4 D (.lst (acc ++ [y])))) (fun H3 => Pv (i + 1) H3) hi s y fun z H4 s4 rz => ⟨ys, s4 _ _ eD, by rw [sizeLine_eq]; omega, ys ++ [z], fun b o e => ?_, upd_same, by simp [el], fun j u e => ?_⟩
  · rw [upd_ne (ne_of_none e hD)]
    exact s4 b o (s b o e)
  · have bt : But D H (upd H4 D (.lst (ys ++ [z]))) := (same_but s4 (D := D)).trans But.upd
    by_cases hj : j < ys.length
    · rw [List.getElem?_append_left hj] at e
      exact hR j u H _ (.lst eD) bt (hr j u e)
    · rw [List.getElem?_append_right (by omega)] at e
      have e0 : j - ys.length = 0 := by
        cases q : j - ys.length with
        | zero => rfl
        | succ m => rw [q] at e; simp at e
      rw [e0] at e
      cases (Option.some.inj e)
      have ej : j = i := by omega
      subst ej
      exact hR _ _ H4 _ (.lst (s4 _ _ eD)) But.upd rz
end

end M

set_option Elab.async false
set_option linter.all false
set_option maxRecDepth 100000
set_option maxHeartbeats 2000000
namespace M
open PySem PySem.Spec PyProof.Rows L2

theorem map_of {α : Type} {cs : List α} {f : α → V} {ys : List V} (hl : ys.length = cs.length) (h : ∀ (i : Nat) (y : V), ys[i]? = some y → ∃ c, cs[i]? = some c ∧ y = f c) : ys = cs.map f := by
  refine List.ext_getElem? fun i => ?_
  rw [List.getElem?_map]
  cases e : ys[i]? with
  | some y =>
    obtain ⟨c, hc, rfl⟩ := h i y e
    rw [hc]
    rfl
  | none =>
    have q : cs[i]? = none := by
      rw [List.getElem?_eq_none_iff] at e ⊢
      omega
    rw [q]
    rfl
theorem get_mapA {α β : Type} {l : List α} {f : α → β} {i : Nat} {x : β} (h : (l.map f)[i]? = some x) : ∃ z, l[i]? = some z ∧ x = f z := by
  rw [List.getElem?_map] at h
  cases e : l[i]? with
  | none => rw [e] at h; cases h
  | some z => rw [e] at h; exact ⟨z, rfl, (Option.some.inj h).symm⟩
section
variable {P : Program} {w : World} {K : PySem.W.Frag} {mg : Str → Option Value} {base : Heap}
/-! ### pastless.vaults: what a vault tells -/
def spSizes (K : PySem.W.Frag) (f : Int × Int → Int) : Sp := fun vs H Q _ => ∃ (p : Addr) (v : Vlt), vs = [.ref p] ∧ VaultAt K H p v ∧ v.cells.length ≤ 6 ∧ ∀ a H', Same H H' → H' a = some (.tup ((v.cells.map f).map V.int)) → Q (.ref a) H'
theorem me_Vault_sizes (T : Txt w K mg) : Me P w K mg base 1 (He.ga K "Vault") "sizes" (spSizes K (·.1)) := by
  refine me_of (N := ["self", "size", "_"]) (ps := ["self"]) T.f_Vault_sizes T.c_Vault T.m_Vault_sizes ⟨rfl, rfl, rfl, by decide +kernel, rfl, by decide +kernel, by decide +kernel⟩ (fun _ _ _ _ _ _ us hl => match us, hl with | [_], _ => rfl)
    (fun vs H Q E h => by obtain ⟨p, v, rfl, hv, hl, q⟩ := h; rfl) (fun cdv A outer s H vs Q E hr h => ?_)
  have nd : (["self", "size", "_"] : List Str).Nodup := by decide +kernel
  obtain ⟨p, v, rfl, hv, hl, q⟩ := h
  obtain ⟨dx, a, d, c, b, kvs, h1, h2, h3, h4, h5⟩ := hv.ob
  obtain ⟨a, xs, ea, hx, hxs⟩ := dp_tup h2
  cases ea
  refine ⟨_, pss_one (ps_ret (pe_tupleOf (by rfl) T.b_tuple (pe_lc (own := [("size", 1), ("_", 2)]) (tt := tYes) rfl nd (pi_tup (pe_fld (pv 0) rfl)) (blkOk_by (N := ["self", "size", "_"]) (sc := defScope s_Vault_sizes) (by decide +kernel))
    (fun _ _ _ _ _ => pg_two K 1 2 rfl rfl nd rfl rfl (.inl rfl) (.inl rfl) (.inr rfl) (.inr rfl)) (fun _ _ _ _ _ => pts_nil) (fun _ _ _ _ _ => pv 1)))), ?_⟩
  have el : xs.length = v.cells.length := by rw [dps_len hxs, List.length_map]
  refine ⟨_, rfl, p, _, _, _, _, rfl, h1, T.c_Vault, T.n_Vault_cells, vf_cells .., a, rfl, ⟨_, hx⟩, fun D hD => ?_⟩
  refine lc_out (n := xs.length) walk_tup hD (by omega) (fun i y H => ∃ c, v.cells[i]? = some c ∧ y = .int c.1) (fun _ _ _ _ _ _ h => h) (fun H' s => same_t s hx) (fun i x H' H2 N F hi s y k => ?_) (fun H' ys s hD' hl' hr => ?_)
  · obtain ⟨rfl, ex⟩ := y
    obtain ⟨dd, ed, hdd⟩ := dps_get hxs ex
    obtain ⟨cc, ec, rfl⟩ := get_mapA ed
    obtain ⟨t, x1, x2, rfl, ht, e1, e2⟩ := dp2 (dp_same s hdd)
    cases dp_int e1
    refine ⟨t, _, rfl, ht, rfl, _, _, rfl, _, _, rfl, rfl, rfl, iteT ⟨_, rfl, k _ _ (Same.refl _) ⟨cc, ec, rfl⟩⟩⟩
  · have em : ys = (v.cells.map (·.1)).map V.int := by
      rw [List.map_map]
      exact map_of (by omega) fun i y e => by
        obtain ⟨c, h1, h2⟩ := hr i y e
        exact ⟨c, h1, h2⟩
    refine .inl ⟨D, ys, rfl, SqL.of hD', fun t ht => ?_⟩
    rw [em]
    exact q t _ (s.trans (same_new ht)) upd_same
theorem me_Vault_first (T : Txt w K mg) : Me P w K mg base 1 (He.ga K "Vault") "first" (spSizes K (·.2)) := by
  refine me_of (N := ["self", "_", "held"]) (ps := ["self"]) T.f_Vault_first T.c_Vault T.m_Vault_first ⟨rfl, rfl, rfl, by decide +kernel, rfl, by decide +kernel, by decide +kernel⟩ (fun _ _ _ _ _ _ us hl => match us, hl with | [_], _ => rfl)
    (fun vs H Q E h => by obtain ⟨p, v, rfl, hv, hl, q⟩ := h; rfl) (fun cdv A outer s H vs Q E hr h => ?_)
  have nd : (["self", "_", "held"] : List Str).Nodup := by decide +kernel
  obtain ⟨p, v, rfl, hv, hl, q⟩ := h
  obtain ⟨dx, a, d, c, b, kvs, h1, h2, h3, h4, h5⟩ := hv.ob
  obtain ⟨a, xs, ea, hx, hxs⟩ := dp_tup h2
  cases ea
  refine ⟨_, pss_one (ps_ret (pe_tupleOf (by rfl) T.b_tuple (pe_lc (own := [("_", 1), ("held", 2)]) (tt := tYes) rfl nd (pi_tup (pe_fld (pv 0) rfl)) (blkOk_by (N := ["self", "_", "held"]) (sc := defScope s_Vault_first) (by decide +kernel))
    (fun _ _ _ _ _ => pg_two K 1 2 rfl rfl nd rfl rfl (.inl rfl) (.inl rfl) (.inr rfl) (.inr rfl)) (fun _ _ _ _ _ => pts_nil) (fun _ _ _ _ _ => pv 2)))), ?_⟩
  have el : xs.length = v.cells.length := by rw [dps_len hxs, List.length_map]
  refine ⟨_, rfl, p, _, _, _, _, rfl, h1, T.c_Vault, T.n_Vault_cells, vf_cells .., a, rfl, ⟨_, hx⟩, fun D hD => ?_⟩
  refine lc_out (n := xs.length) walk_tup hD (by omega) (fun i y H => ∃ c, v.cells[i]? = some c ∧ y = .int c.2) (fun _ _ _ _ _ _ h => h) (fun H' s => same_t s hx) (fun i x H' H2 N F hi s y k => ?_) (fun H' ys s hD' hl' hr => ?_)
  · obtain ⟨rfl, ex⟩ := y
    obtain ⟨dd, ed, hdd⟩ := dps_get hxs ex
    obtain ⟨cc, ec, rfl⟩ := get_mapA ed
    obtain ⟨t, x1, x2, rfl, ht, e1, e2⟩ := dp2 (dp_same s hdd)
    cases dp_int e2
    refine ⟨t, _, rfl, ht, rfl, _, _, rfl, _, _, rfl, rfl, rfl, iteT ⟨_, rfl, k _ _ (Same.refl _) ⟨cc, ec, rfl⟩⟩⟩
  · have em : ys = (v.cells.map (·.2)).map V.int := by
      rw [List.map_map]
      exact map_of (by omega) fun i y e => by
        obtain ⟨c, h1, h2⟩ := hr i y e
        exact ⟨c, h1, h2⟩
    refine .inl ⟨D, ys, rfl, SqL.of hD', fun t ht => ?_⟩
    rw [em]
    exact q t _ (s.trans (same_new ht)) upd_same
end

end M

set_option Elab.async false
set_option linter.all false
set_option maxRecDepth 100000
set_option maxHeartbeats 2000000
namespace M
open PySem PySem.Spec PyProof.Rows L2

/-! ### any walk: Pv by the turn and the heap -/
section
variable {J : It} {n : Nat} {G : Hp → Prop} {Y : Nat → Hp → V → Hp → Prop}
theorem it_any (w : Walk J n G Y) {B : (Hp → Prop) → V → Hp → Prop} {H1 : Hp} {Qd : Hp → Prop} (Pv : Nat → Hp → Prop) (h0 : Pv 0 H1) (hG : ∀ i H, i ≤ n → Pv i H → G H) (hs : ∀ i x H H', i < n → Pv i H → Y i H x H' → B (Pv (i + 1)) x H')
    (hd : ∀ H, Pv n H → Qd H) : ∃ W : Nat → Nat → Hp → Prop, (∃ m, W 0 m H1) ∧ ∀ i m H, W i m H → (J.stop i H ∧ Qd H) ∨ (J.go i H ∧ ∃ Nx : Hp → Prop, (∀ H', Nx H' → ∃ m', m' < m ∧ W (i + 1) m' H') ∧ ∀ x H', J.yld i H x H' → B Nx x H') := by
  refine ⟨fun i m H => m + i = n ∧ Pv i H, ⟨n, rfl, h0⟩, fun i m H ⟨hm, hp⟩ => ?_⟩
  have hg := hG i H (by omega) hp
  rcases Nat.lt_or_ge i n with hi | hi
  · exact .inr ⟨w.goes i H hi hg, Pv (i + 1), fun H' hp' => ⟨m - 1, by omega, by omega, hp'⟩, fun x H' y => hs i x H H' hi hp (w.yields i H x H' hi hg y)⟩
  · obtain rfl : i = n := by omega
    exact .inl ⟨w.stops H hg, hd H hp⟩
end
/-- the tuples of calls -/
def TupsAt (H : Hp) : List V → List (Str × Int) → Prop
  | [], [] => True
  | y :: ys, c :: cs => (∃ t, y = .ref t ∧ H t = some (.tup [.str c.1, .int c.2])) ∧ TupsAt H ys cs
  | _, _ => False
theorem tups_but {D : Addr} {H H' : Hp} (hD : Ch H D) (s : But D H H') : ∀ {ys : List V} {cs : List (Str × Int)}, TupsAt H ys cs → TupsAt H' ys cs
  | [], [], _ => trivial
  | _ :: _, _ :: _, ⟨⟨t, e, h⟩, r⟩ => ⟨⟨t, e, s t _ (fun z => hD.1 _ (z ▸ h)) h⟩, tups_but hD s r⟩
  | [], _ :: _, h => h.elim
  | _ :: _, [], h => h.elim
theorem tups_same {H H' : Hp} (s : Same H H') : ∀ {ys : List V} {cs : List (Str × Int)}, TupsAt H ys cs → TupsAt H' ys cs
  | [], [], _ => trivial
  | _ :: _, _ :: _, ⟨⟨t, e, h⟩, r⟩ => ⟨⟨t, e, s t _ h⟩, tups_same s r⟩
  | [], _ :: _, h => h.elim
  | _ :: _, [], h => h.elim
theorem tups_len {H : Hp} : ∀ {ys : List V} {cs : List (Str × Int)}, TupsAt H ys cs → ys.length = cs.length
  | [], [], _ => rfl
  | _ :: _, _ :: _, ⟨_, r⟩ => congrArg (· + 1) (tups_len r)
  | [], _ :: _, h => h.elim
  | _ :: _, [], h => h.elim
theorem tups_snoc {H : Hp} {t : Addr} {c : Str × Int} (ht : H t = some (.tup [.str c.1, .int c.2])) : ∀ {ys : List V} {cs : List (Str × Int)}, TupsAt H ys cs → TupsAt H (ys ++ [.ref t]) (cs ++ [c])
  | [], [], _ => ⟨⟨t, rfl, ht⟩, trivial⟩
  | _ :: _, _ :: _, ⟨h, r⟩ => ⟨h, tups_snoc ht r⟩
  | [], _ :: _, h => h.elim
  | _ :: _, [], h => h.elim
theorem tups_get {H : Hp} : ∀ {ys : List V} {cs : List (Str × Int)} {i : Nat} {y : V}, TupsAt H ys cs → ys[i]? = some y → ∃ c t, cs[i]? = some c ∧ y = .ref t ∧ H t = some (.tup [.str c.1, .int c.2])
  | [], [], i, y, _, e => by simp at e
  | _ :: _, c :: _, 0, y, ⟨⟨t, e, h⟩, r⟩, z => by
    cases (Option.some.inj z)
    exact ⟨c, t, rfl, e, h⟩
  | _ :: _, _ :: _, i + 1, y, ⟨h, r⟩, z => tups_get (i := i) r z
  | [], _ :: _, _, _, h, _ => h.elim
  | _ :: _, [], _, _, h, _ => h.elim
theorem take_more {α : Type} {l : List α} {i : Nat} {x : α} (h : l[i]? = some x) : l.take (i + 1) = l.take i ++ [x] := by
  rw [List.take_add_one, h]
  rfl
theorem range_more (j : Nat) : List.range (j + 1) = List.range j ++ [j] := List.range_succ
/-- all but the dict of a name -/
theorem codes_get {K : PySem.W.Frag} {H : Hp} : ∀ {kvs : List (Key × V)} {ds : List (Str × Int × List Row)} {d : Str × Int × List Row}, CodesR K H kvs ds → (ds.map (·.1)).Nodup → d ∈ ds → ∃ v, valV kvs (Sum.inr d.1 : Key) = some v ∧ Dp K H v (codeD d.2.2)
  | [], [], d, _, _, h => by cases h
  | (k, v) :: r, e :: ds, d, h, n, hd => by
    obtain ⟨rfl, hv, hr⟩ := h
    rw [List.map_cons, List.nodup_cons] at n
    by_cases q : e.1 = d.1
    · have : d = e := by
        rcases List.mem_cons.mp hd with z | z
        · exact z
        · exact absurd (q ▸ List.mem_map.mpr ⟨d, z, rfl⟩) n.1
      subst this
      refine ⟨v, ?_, hv⟩
      unfold valV
      rw [List.find?_cons_of_pos (by simp)]
      rfl
    · have hd' : d ∈ ds := by
        rcases List.mem_cons.mp hd with z | z
        · exact absurd (by rw [z]) q
        · exact z
      obtain ⟨u, hu, hw⟩ := codes_get hr n.2 hd'
      refine ⟨u, ?_, hw⟩
      unfold valV at hu ⊢
      rw [List.find?_cons_of_neg (by simp [q])]
      exact hu
  | [], _ :: _, _, h, _, _ => h.elim
  | _ :: _, [], _, h, _, _ => h.elim
/-! ### no lists within -/
theorem Exp.noL : ∀ e : Exp, NoL e.d
  | .num n => .int n
  | .reg r => .str r
  | .op s a b => .tup fun d h => by
    rcases List.mem_cons.mp h with rfl | h
    · exact .str s
    rcases List.mem_cons.mp h with rfl | h
    · exact a.noL
    rcases List.mem_cons.mp h with rfl | h
    · exact b.noL
    cases h
mutual
theorem Row.noL : ∀ r : Row, NoL r.d
  | .read r c => .tup (by intro d h; simp at h; rcases h with rfl | rfl | rfl <;> constructor)
  | .set c e => .tup (by intro d h; simp at h; rcases h with rfl | rfl | rfl <;> first | exact e.noL | constructor)
  | .swap r c e f => .tup (by intro d h; simp at h; rcases h with rfl | rfl | rfl | rfl | rfl <;> first | exact e.noL | exact f.noL | constructor)
  | .keep r e => .tup (by intro d h; simp at h; rcases h with rfl | rfl | rfl <;> first | exact e.noL | constructor)
  | .coin r => .tup (by intro d h; simp at h; rcases h with rfl | rfl <;> constructor)
  | .iff e a b => .tup (by intro d h; simp at h; rcases h with rfl | rfl | rfl | rfl <;> first | exact e.noL | exact .tup (rows_noL a) | exact .tup (rows_noL b) | constructor)
  | .times e a => .tup (by intro d h; simp at h; rcases h with rfl | rfl | rfl <;> first | exact e.noL | exact .tup (rows_noL a) | constructor)
  | .ans e => .tup (by intro d h; simp at h; rcases h with rfl | rfl <;> first | exact e.noL | constructor)
theorem rows_noL : ∀ rs : List Row, ∀ d ∈ rowsD rs, NoL d
  | [], d, h => by cases h
  | r :: rs, d, h => by
    rcases List.mem_cons.mp h with rfl | h
    · exact r.noL
    · exact rows_noL rs d h
end
theorem FR.noL : ∀ r : FR, NoL r.d
  | .row r => r.noL
  | .unless e p => .tup (by intro d h; simp at h; rcases h with rfl | rfl | rfl <;> first | exact e.noL | constructor)
  | .on p => .tup (by intro d h; simp at h; rcases h with rfl | rfl <;> constructor)
  | .rounds e => .tup (by intro d h; simp at h; rcases h with rfl | rfl <;> first | exact e.noL | constructor)
  | .round p => .tup (by intro d h; simp at h; rcases h with rfl | rfl <;> constructor)
  | .hole => .tup (by intro d h; cases h)
theorem code_noL (rs : List Row) : NoL (codeD rs) := .tup fun d h => by
  obtain ⟨r, _, rfl⟩ := List.mem_map.mp h
  exact r.noL
section
variable {P : Program} {w : World} {K : PySem.W.Frag} {mg : Str → Option Value} {base : Heap}
def spCalls (K : PySem.W.Frag) : Sp := fun vs H Q _ => ∃ (p : Addr) (v : Vlt), vs = [.ref p] ∧ VaultAt K H p v ∧ VOk v ∧ ∀ a ys H', Same H H' → H' a = some (.lst ys) → TupsAt H' ys v.calls → Q (.ref a) H'
theorem me_Vault_calls (T : Txt w K mg) : Me P w K mg base 1 (He.ga K "Vault") "calls" (spCalls K) := by
  refine me_of (N := ["self", "name", "choices", "_", "argument"]) (ps := ["self"]) T.f_Vault_calls T.c_Vault T.m_Vault_calls ⟨rfl, rfl, rfl, by decide +kernel, rfl, by decide +kernel, by decide +kernel⟩ (fun _ _ _ _ _ _ us hl => match us, hl with | [_], _ => rfl)
    (fun vs H Q E h => by obtain ⟨p, v, rfl, hv, ok, q⟩ := h; rfl) (fun cdv A outer s H vs Q E hr h => ?_)
  have nd : (["self", "name", "choices", "_", "argument"] : List Str).Nodup := by decide +kernel
  obtain ⟨p, v, rfl, hv, ok, q⟩ := h
  obtain ⟨dx, a, d, c, b, kvs, h1, h2, h3, h4, h5⟩ := hv.ob
  obtain ⟨d, xs, ea, hx, hxs⟩ := dp_tup h3
  cases ea
  refine ⟨_, pss_one (ps_ret (pe_lc2 (own := [("name", 1), ("choices", 2), ("_", 3), ("argument", 4)]) (vs1 := [4]) (tt := tYes) (tt1 := tYes) rfl nd (pi_tup (pe_fld (pv 0) rfl)) (blkOk_by (N := ["self", "name", "choices", "_", "argument"]) (sc := defScope s_Vault_calls) (by decide +kernel)) (by decide)
    (fun _ _ _ _ _ => pg_three K 1 2 3 rfl rfl nd rfl rfl rfl (.inl rfl) (.inl rfl) (.inl rfl) (.inr rfl) (.inr rfl) (.inr rfl)) (fun _ _ _ _ _ => pts_nil) (fun _ _ _ _ _ => pi_range1 rfl T.b_range (pa_cons (pv 2) pa_nil)) (fun _ _ _ _ _ => pg_name (i := 4) nd rfl (.inl rfl)) (fun _ _ _ _ _ => pts_nil)
    (fun _ _ _ _ _ => pe_tup (pa_cons (pv 1) (pa_cons (pv 4) pa_nil))))), ?_⟩
  have el : xs.length = v.deeds.length := by rw [dps_len hxs, List.length_map]
  refine ⟨_, rfl, p, _, _, _, _, rfl, h1, T.c_Vault, T.n_Vault_deeds, vf_deeds .., d, rfl, ⟨_, hx⟩, fun D hD => ?_⟩
  let F : List (Str × Int × List Row) → List (Str × Int) := fun l => l.flatMap fun d => (List.range d.2.1.toNat).map fun (j : Nat) => (d.1, (j : Int))
  have FS : ∀ l d, F (l ++ [d]) = F l ++ (List.range d.2.1.toNat).map fun (j : Nat) => (d.1, (j : Int)) := fun l d => by simp [F]
  have bnd : ∀ l, (∀ d ∈ l, d.2.1 ≤ 9) → (F l).length ≤ 9 * l.length := by
    intro l
    induction l with
    | nil => intro _; simp [F]
    | cons d r ih =>
      intro h
      have e : F (d :: r) = ((List.range d.2.1.toNat).map fun (j : Nat) => (d.1, (j : Int))) ++ F r := by simp [F]
      have h1 := h d List.mem_cons_self
      have h2 := ih fun d hd => h d (List.mem_cons_of_mem _ hd)
      rw [e, List.length_append, List.length_map, List.length_range, List.length_cons]
      omega
  refine it_any (n := xs.length) walk_tup (fun i H' => ∃ ys, Same H H' ∧ H' D = some (.lst ys) ∧ TupsAt H' ys (F (v.deeds.take i))) ⟨[], same_new hD, upd_same, trivial⟩ (fun i H' _ ⟨_, s, _⟩ => same_t s hx) ?_ ?_
  · rintro i x H' H2 hi ⟨ys, s, eD, hy⟩ ⟨rfl, ex⟩
    obtain ⟨dd, ed, hdd⟩ := dps_get hxs ex
    obtain ⟨cc, ec, rfl⟩ := get_mapA ed
    obtain ⟨t, x1, x2, x3, rfl, ht, e1, e2, e3⟩ := dp3 (dp_same s hdd)
    cases dp_str e1
    cases dp_int e2
    have hc := ok.ch cc (List.mem_of_getElem? ec)
    refine ⟨t, _, rfl, ht, rfl, _, _, rfl, _, _, rfl, _, _, rfl, rfl, rfl, ?_⟩
    refine ⟨_, rfl, cc.2.1, rfl, by omega, by omega, ?_⟩
    refine it_any (n := cc.2.1.toNat) walk_range (fun j H' => ∃ ys, Same H H' ∧ H' D = some (.lst ys) ∧ TupsAt H' ys (F (v.deeds.take i) ++ (List.range j).map fun (j : Nat) => (cc.1, (j : Int)))) ⟨ys, s, eD, by simpa using hy⟩ (fun _ _ _ _ => trivial) ?_ ?_
    · rintro j x H3 H4 hj ⟨zs, s3, eD3, hz⟩ ⟨rfl, rfl⟩
      refine ⟨rfl, _, rfl, _, rfl, (by show 2 ≤ sizeLine; decide), fun t ht => ?_⟩
      have ntD : D ≠ t := ne_of_none eD3 ht
      have hlz := tups_len hz
      have hb := bnd (v.deeds.take i) fun d hd => (ok.ch d (List.mem_of_mem_take hd)).2
      have hl8 : (v.deeds.take i).length ≤ 8 := by rw [List.length_take]; have := ok.d1; omega
      rw [List.length_append, List.length_map, List.length_range] at hlz
      refine ⟨zs, by rw [upd_ne ntD]; exact eD3, by rw [sizeLine_eq]; omega, zs ++ [.ref t], fun b o e => ?_, upd_same, ?_⟩
      · rw [upd_ne (ne_of_none e hD), upd_ne (ne_of_none (s3 b o e) ht)]
        exact s3 b o e
      · rw [range_more, List.map_append, ← List.append_assoc]
        refine tups_snoc ?_ (tups_but (D := D) (H := upd H4 t (.tup [.str cc.1, .int (0 + (j : Int))])) (.lst (l := zs) (by rw [upd_ne ntD]; exact eD3)) But.upd (tups_same (same_new ht) hz))
        rw [upd_ne (Ne.symm ntD), upd_same]
        simp
    · rintro H3 ⟨zs, s3, eD3, hz⟩
      refine ⟨zs, s3, eD3, ?_⟩
      rw [take_more ec, FS]
      exact hz
  · rintro H' ⟨ys, s, eD, hy⟩
    refine q D ys H' s eD ?_
    rw [el, List.take_length] at hy
    exact hy
end

end M

set_option Elab.async false
set_option linter.all false
set_option maxRecDepth 100000
set_option maxHeartbeats 2000000
namespace M
open PySem PySem.Spec PyProof.Rows L2

/-! ### pastless.bodies: what a body may be -/
def regs4 : List Str := ["a", "b", "c", "d"]
def regs5 : List Str := ["a", "b", "c", "d", "x"]
def signs : List Str := ["+", "-", "*", "=", "<"]
def Exp.ok : Exp → Prop
  | .num n => 0 ≤ n ∧ n ≤ 9
  | .reg r => r ∈ regs5
  | .op s a b => s ∈ signs ∧ a.ok ∧ b.ok
def Exp.dep : Exp → Nat
  | .op _ a b => Nat.max a.dep b.dep + 1
  | _ => 0
/-- a part of a row -/
inductive Prt where
  | reg (r : Str) | cell (k : Int) | ex (e : Exp) | rows (rs : List Row)
def Prt.d : Prt → PyData
  | .reg r => .str r
  | .cell k => .int k
  | .ex e => e.d
  | .rows rs => .tuple (rowsD rs)
def Prt.kind : Prt → Str
  | .reg _ => "REG"
  | .cell _ => "CELL"
  | .ex _ => "E"
  | .rows _ => "ROWS"
def Row.word : Row → Str
  | .read .. => "read" | .set .. => "set" | .swap .. => "swap" | .keep .. => "keep" | .coin .. => "coin" | .iff .. => "if" | .times .. => "times" | .ans .. => "answer"
def Row.prts : Row → List Prt
  | .read r c => [.reg r, .cell c]
  | .set c e => [.cell c, .ex e]
  | .swap r c e f => [.reg r, .cell c, .ex e, .ex f]
  | .keep r e => [.reg r, .ex e]
  | .coin r => [.reg r]
  | .iff e a b => [.ex e, .rows a, .rows b]
  | .times e a => [.ex e, .rows a]
  | .ans e => [.ex e]
theorem row_d (r : Row) : r.d = .tuple (.str r.word :: r.prts.map Prt.d) := by cases r <;> rfl
theorem rowsD_map : ∀ rs : List Row, rowsD rs = rs.map Row.d
  | [] => rfl
  | r :: rs => congrArg (r.d :: ·) (rowsD_map rs)
mutual
/-- rows in all, rows "coin" -/
def Row.cl : Row → Nat
  | .iff _ a b => 1 + (rowsCl a + rowsCl b)
  | .times _ a => 1 + rowsCl a
  | _ => 1
def rowsCl : List Row → Nat
  | [] => 0
  | r :: rs => r.cl + rowsCl rs
end
mutual
def Row.cc : Row → Nat
  | .iff _ a b => rowsCc a + rowsCc b
  | .times _ a => rowsCc a
  | .coin _ => 1
  | _ => 0
def rowsCc : List Row → Nat
  | [] => 0
  | r :: rs => r.cc + rowsCc rs
end
def Prt.cl : Prt → Nat
  | .rows rs => rowsCl rs
  | _ => 0
def Prt.cc : Prt → Nat
  | .rows rs => rowsCc rs
  | _ => 0
def sumN : List Nat → Nat
  | [] => 0
  | n :: r => n + sumN r
def Exp.good (e : Exp) : Prop := e.ok ∧ e.dep ≤ 6
mutual
def Row.ok (c : Int) (deep loops : Nat) : Row → Prop
  | .read r k => r ∈ regs4 ∧ 0 ≤ k ∧ k < c
  | .set k e => (0 ≤ k ∧ k < c) ∧ e.good
  | .swap r k e f => r ∈ regs4 ∧ (0 ≤ k ∧ k < c) ∧ e.good ∧ f.good
  | .keep r e => r ∈ regs4 ∧ e.good
  | .coin r => r ∈ regs4 ∧ loops = 0
  | .iff e a b => e.good ∧ rowsOk c (deep + 1) loops a ∧ rowsOk c (deep + 1) loops b
  | .times e a => e.good ∧ loops < 2 ∧ rowsOk c (deep + 1) (loops + 1) a
  | .ans e => e.good
def rowsOk (c : Int) (deep loops : Nat) : List Row → Prop
  | [] => True
  | r :: rs => deep ≤ 12 ∧ r.ok c deep loops ∧ rowsOk c deep loops rs
end
def Prt.ok (c : Int) (deep loops : Nat) : Prt → Prop
  | .reg r => r ∈ regs4
  | .cell k => 0 ≤ k ∧ k < c
  | .ex e => e.good
  | .rows rs => rowsOk c (deep + 1) loops rs
/-- the loops within which the parts of a row stand -/
def Row.lp (loops : Nat) : Row → Nat
  | .times .. => loops + 1
  | _ => loops
theorem row_prts {c : Int} {deep loops : Nat} {r : Row} (h : r.ok c deep loops) : ∀ p ∈ r.prts, p.ok c deep (r.lp loops) := by
  intro p hp
  cases r with
  | read r k => simp [Row.prts] at hp; simp [Row.ok] at h; rcases hp with rfl | rfl; exact h.1; exact h.2
  | set k e => simp [Row.prts] at hp; simp only [Row.ok] at h; rcases hp with rfl | rfl; exact h.1; exact h.2
  | swap r k e f => simp [Row.prts] at hp; simp only [Row.ok] at h; rcases hp with rfl | rfl | rfl | rfl; exact h.1; exact h.2.1; exact h.2.2.1; exact h.2.2.2
  | keep r e => simp [Row.prts] at hp; simp only [Row.ok] at h; rcases hp with rfl | rfl; exact h.1; exact h.2
  | coin r => simp [Row.prts] at hp; simp only [Row.ok] at h; subst hp; exact h.1
  | iff e a b => simp [Row.prts] at hp; simp only [Row.ok] at h; rcases hp with rfl | rfl | rfl; exact h.1; exact h.2.1; exact h.2.2
  | times e a => simp [Row.prts] at hp; simp only [Row.ok] at h; rcases hp with rfl | rfl; exact h.1; exact h.2.2
  | ans e => simp [Row.prts] at hp; simp only [Row.ok] at h; subst hp; exact h
theorem row_cl (r : Row) : r.cl = 1 + sumN (r.prts.map Prt.cl) := by cases r <;> simp [Row.cl, Row.prts, sumN, Prt.cl]
def Row.co : Row → Nat
  | .coin _ => 1
  | _ => 0
theorem row_cc (r : Row) : r.cc = r.co + sumN (r.prts.map Prt.cc) := by cases r <;> simp [Row.cc, Row.co, Row.prts, sumN, Prt.cc]
theorem sumN_take {l : List Nat} {i : Nat} {x : Nat} (h : l[i]? = some x) : sumN (l.take (i + 1)) = sumN (l.take i) + x := by
  induction l generalizing i with
  | nil => simp at h
  | cons a r ih =>
    cases i with
    | zero =>
      cases (Option.some.inj h)
      simp [sumN]
    | succ i =>
      have := ih (i := i) h
      show a + sumN (r.take (i + 1)) = a + sumN (r.take i) + x
      omega
theorem sumN_le (l : List Nat) (i : Nat) : sumN (l.take i) ≤ sumN l := by
  induction l generalizing i with
  | nil => simp [sumN]
  | cons a r ih =>
    cases i with
    | zero => simp [sumN]
    | succ i =>
      have := ih i
      show a + sumN (r.take i) ≤ a + sumN r
      omega
/-! ### what the module has written -/
section
variable {P : Program} {w : World} {K : PySem.W.Frag} {mg : Str → Option Value} {base : Heap}
theorem sq_HELD (T : Txt w K mg) (H : Hp) : SqT K H (He.ga K "HELD") (regs5.map V.str) := He.tupB_ok T.e_HELD H
theorem sq_SIGNS (T : Txt w K mg) (H : Hp) : SqT K H (He.ga K "SIGNS") (signs.map V.str) := He.tupB_ok T.e_SIGNS H
theorem sq_CHANGED (T : Txt w K mg) (H : Hp) : SqT K H (He.ga K "CHANGED") (regs4.map V.str) := He.tupB_ok T.e_CHANGED H
theorem in_regs5 : ∀ r ∈ regs5, inV (.str r) (regs5.map V.str) = true := by
  intro r h
  rw [show regs5 = (["a", "b", "c", "d", "x"] : List Str) from rfl] at h
  simp only [List.mem_cons, List.not_mem_nil, or_false] at h
  rcases h with rfl | rfl | rfl | rfl | rfl <;> decide +kernel
theorem in_regs4 : ∀ r ∈ regs4, inV (.str r) (regs4.map V.str) = true := by
  intro r h
  rw [show regs4 = (["a", "b", "c", "d"] : List Str) from rfl] at h
  simp only [List.mem_cons, List.not_mem_nil, or_false] at h
  rcases h with rfl | rfl | rfl | rfl <;> decide +kernel
theorem in_signs : ∀ r ∈ signs, inV (.str r) (signs.map V.str) = true := by
  intro r h
  rw [show signs = (["+", "-", "*", "=", "<"] : List Str) from rfl] at h
  simp only [List.mem_cons, List.not_mem_nil, or_false] at h
  rcases h with rfl | rfl | rfl | rfl | rfl <;> decide +kernel
/-- a def that promises nothing -/
theorem ca_false {x : Str} {st : Stmt} {ps : List Str} {k : Nat} (F : ∃ fd, FunD K x x (defArgs st) (defBody st) (defScope st) [] [] (He.fAd K (x, none)) fd) (g : mg x = some (.ref (He.ga K x))) (hb : BindsH x x st ps) : Ca P w K mg base k x (fun _ _ _ _ => False) := by
  obtain ⟨fd, F⟩ := F
  exact ⟨_, fd, ps, ⟨fun _ _ _ _ h => h.elim, fun _ _ _ _ _ _ _ _ _ _ _ _ _ h => h.elim⟩, g, F.kp, F.bindsN hb⟩
/-- is_expression, n tuples deep at most but one -/
def spE (K : PySem.W.Frag) : Nat → Sp
  | 0 => fun _ _ _ _ => False
  | n + 1 => fun vs H Q _ => ∃ (v : V) (e : Exp) (deep : Nat), vs = [v, .int deep] ∧ Dp K H v e.d ∧ e.ok ∧ e.dep ≤ n ∧ deep + e.dep ≤ 6 ∧ Q (.bl true) H
theorem ca_is_expression (T : Txt w K mg) : ∀ n : Nat, Ca P w K mg base (n + 2) "is_expression" (spE K n)
  | 0 => ca_false (ps := ["value", "deep"]) T.f_is_expression T.g_is_expression (fun _ _ _ _ _ _ us hl => match us, hl with | [_, _], _ => rfl)
  | n + 1 => by
    have ih := ca_is_expression T n
    refine ca_of (N := ["value", "deep", "sign", "one", "other"]) (ps := ["value", "deep"]) T.f_is_expression T.g_is_expression ⟨rfl, rfl, rfl, by decide +kernel, rfl, by decide +kernel, by decide +kernel⟩ (fun _ _ _ _ _ _ us hl => match us, hl with | [_, _], _ => rfl)
      (fun vs H Q E h => by obtain ⟨v, e, deep, rfl, hv, ok, hd, h6, q⟩ := h; rfl) (fun cdv A outer s H vs Q E hr h => ?_)
    have nd : (["value", "deep", "sign", "one", "other"] : List Str).Nodup := by decide +kernel
    obtain ⟨v, e, deep, rfl, hv, ok, hd, h6, q⟩ := h
    refine ⟨_, pss_cons (ps_if (pt_val (pe_ca (ca_is_integer T) hr (pa_cons (pv 0) pa_nil) (by omega))) (pss_one (ps_ret (pe_chain op_le op_le pe_int (pv 0) pe_int))) pss_nil)
      (pss_cons (ps_if (pt_val (pe_is .str T.b_isinstance (pv 0) T.b_str boot_str)) (pss_one (ps_ret (pe_cmpR op_in_seq (pv 0) (pe_gr T.g_HELD) (by rfl)))) pss_nil)
      (pss_cons (ps_if (PW.pt (pw_or (pt_not (pt_val (pe_ca (ca_is_tuple T) hr (pa_cons (pv 0) (pa_cons pe_int pa_nil)) (by omega)))) (pw_or1 (pt_cmpR op_eq (pv 1) (pe_gi T.i_DEEPEST_EXPRESSION) (nomark _))))) (pss_one (ps_ret pe_bl)) pss_nil)
      (pss_cons (ps_asg (pv 0) (pg_three K 2 3 4 rfl rfl nd rfl rfl rfl (.inl rfl) (.inl rfl) (.inl rfl) (.inr rfl) (.inr rfl) (.inr rfl)))
      (pss_one (ps_ret (pe_and (pe_cmpR op_in_seq (pv 2) (pe_gr T.g_SIGNS) (by rfl)) (pe_and (pe_ca ih hr (pa_cons (pv 3) (pa_cons (pe_op op_add (pv 1) pe_int) pa_nil)) (by omega)) (pe_one (pe_ca ih hr (pa_cons (pv 4) (pa_cons (pe_op op_add (pv 1) pe_int) pa_nil)) (by omega)))))))))), ?_⟩
    cases e with
    | num m =>
      cases dp_int hv
      refine ⟨_, rfl, _, _, rfl, .int m, _, rfl, iteT ?_⟩
      refine ⟨_, rfl, _, _, rfl, rfl, _, rfl, ?_⟩
      rw [decide_eq_true ok.1]
      refine iteT ⟨_, _, rfl, rfl, ?_⟩
      show Q (.bl (decide (m ≤ 9))) H
      rw [decide_eq_true ok.2]
      exact q
    | reg r =>
      cases dp_str hv
      refine ⟨_, rfl, _, _, rfl, .str r, _, rfl, iteF ?_⟩
      refine ⟨_, rfl, _, _, rfl, .str r, _, rfl, iteT ?_⟩
      refine ⟨_, rfl, _, _, rfl, .inr (sq_HELD T H), rfl, by decide +kernel, ?_⟩
      show Q (.bl (inV (.str r) (regs5.map V.str))) H
      rw [in_regs5 r ok]
      exact q
    | op s a b =>
      obtain ⟨p, x, y, z, rfl, hp, hx, hy, hz⟩ := dp3 hv
      cases dp_str hx
      have hn : 1 ≤ n := by have : Nat.max a.dep b.dep + 1 ≤ n := hd; omega
      obtain ⟨m, rfl⟩ : ∃ m, n = m + 1 := ⟨n - 1, by omega⟩
      have hd' : Nat.max a.dep b.dep + 1 ≤ m + 1 := hd
      have h6' : deep + (Nat.max a.dep b.dep + 1) ≤ 6 := h6
      have ha : a.dep ≤ Nat.max a.dep b.dep := Nat.le_max_left ..
      have hb : b.dep ≤ Nat.max a.dep b.dep := Nat.le_max_right ..
      refine ⟨_, rfl, _, _, rfl, .tuple hp, _, rfl, iteF ?_⟩
      refine ⟨_, rfl, _, _, rfl, .tuple hp, _, rfl, iteF ?_⟩
      refine ⟨_, rfl, p, _, _, rfl, hp, _, rfl, iteF ?_⟩
      refine ⟨_, rfl, rfl, _, rfl, ?_⟩
      rw [decide_eq_false (show ¬ V.int (deep : Int) = V.int 6 from fun e => by have := V.int.inj e; omega)]
      refine iteF ?_
      refine ⟨_, rfl, p, _, rfl, hp, rfl, _, _, rfl, _, _, rfl, _, _, rfl, rfl, ?_⟩
      refine ⟨_, rfl, _, _, rfl, .inr (sq_SIGNS T H), rfl, by decide +kernel, _, rfl, ?_⟩
      rw [show inV (.str s) (signs.map V.str) = true from in_signs s ok.1]
      refine iteT ?_
      refine ⟨_, rfl, _, rfl, _, _, rfl, rfl, y, a, deep + 1, by simp, hy, ok.2.1, by omega, by omega, _, rfl, iteT ?_⟩
      exact ⟨_, rfl, _, rfl, _, _, rfl, rfl, z, b, deep + 1, by simp, hz, ok.2.2, by omega, by omega, q⟩
end

end M

set_option Elab.async false
set_option linter.all false
set_option maxRecDepth 100000
set_option maxHeartbeats 2000000
namespace M
open PySem PySem.Spec PyProof.Rows L2

theorem at0 {a : V} {xs : List V} : atI (a :: xs) 0 = some a := atI_nat (xs := a :: xs) (j := 0) rfl
theorem at1 {a b : V} {xs : List V} : atI (a :: b :: xs) 1 = some b := atI_nat (xs := a :: b :: xs) (j := 1) rfl
theorem at2 {a b c : V} {xs : List V} : atI (a :: b :: c :: xs) 2 = some c := atI_nat (xs := a :: b :: c :: xs) (j := 2) rfl
theorem at3 {a b c d : V} {xs : List V} : atI (a :: b :: c :: d :: xs) 3 = some d := atI_nat (xs := a :: b :: c :: d :: xs) (j := 3) rfl
theorem at4 {a b c d e : V} {xs : List V} : atI (a :: b :: c :: d :: e :: xs) 4 = some e := atI_nat (xs := a :: b :: c :: d :: e :: xs) (j := 4) rfl
/-! ### d.get(x) of a written dict -/
section
variable {X : Cx} {d : Addr} {es : Array DictEntry} {n : Nat} {o e : Expr} {apos cpos : Pos} {to te : TE}
/-- what d.get(x) gives: what is written at x -/
def tKGet (K : PySem.W.Frag) (d : Addr) (to te : TE) : TE := fun σ H Q => to σ H fun x H1 => x = .ref d ∧ te σ H1 fun y H2 => ∃ (z : Str) (u0 : Value) (v0 : V), y = .str z ∧ PySem.W.nsIn K d z = some (some u0) ∧ RelV v0 u0 ∧ Q v0 H2
theorem pe_kget (D : KDict X.K X.w d es n) (ho : PE X o to) (he : PE X e te) (m : M1 X o "get" apos e cpos) : PE X (.Call (.Attribute o "get" apos) [e] [] cpos) (tKGet X.K d to te) := by
  refine ⟨fun pins s σ H Q I h => ?_⟩
  refine wpAny_Call_method m.base m.few m.line PySem.F.plainAttrs_dict PySem.F.slot_dict_get PySem.F.type_dict_get (thn (ho.run pins s σ H _ I h) fun u s1 hu => ?_)
  obtain ⟨x, H1, I1, rx, ex, q1⟩ := hu
  subst ex
  cases rx
  have M1 : s1.heap.MapOf (strKind X.prog X.w) d _ := PySem.W.mapOf_K (prog := X.prog) I1.kIn D.at_ D.lit
  refine ⟨M1.typeIs, M1.noDict, ?_⟩
  rw [m.trees]
  refine Calls.callWith_builtin rfl (Calls.evalArgs_plain (Calls.spliced_cons (thn (he.run pins s1 σ H1 _ I1 q1) fun iv s2 hv => Calls.spliced_nil ?_)))
  obtain ⟨y, H2, I2, ry, z, u0, v0, ey, hz, r0, q2⟩ := hv
  subst ey
  obtain ⟨t, et⟩ := ry
  subst et
  have M2 : s2.heap.MapOf (strKind X.prog X.w) d _ := PySem.W.mapOf_K (prog := X.prog) I2.kIn D.at_ D.lit
  refine call_meetsIn PySem.F.slot_dict_get M2.typeIs PySem.F.entry_dict_get (PySem.F.args_dict_get_2 _ _) (meets_dict_get (strKind X.prog X.w) d (PySem.strKind_is X.prog X.w z t) D.low) ⟨_, M2, ?_⟩
  rw [PySem.W.find_K D.at_ hz]
  exact ⟨v0, H2, I2.tok _, r0, q2⟩
end
/-! ### the tally of a body -/
def tfl (c co li : Int) : List (Str × V) := putF "lines" (.int li) (putF "coins" (.int co) (putF "cells" (.int c) []))
theorem t1 : ¬ (("cells" : Str) = "coins") := by decide +kernel
theorem t2 : ¬ (("cells" : Str) = "lines") := by decide +kernel
theorem t3 : ¬ (("coins" : Str) = "lines") := by decide +kernel
theorem tfl_eq (c co li : Int) : tfl c co li = ([("cells", V.int c), ("coins", V.int co), ("lines", V.int li)] : List (Str × V)) := by
  unfold tfl
  simp only [putF, if_neg t1, if_neg t2, if_neg t3]
theorem tf_cells (c co li : Int) : (tfl c co li).lookup ("cells" : Str) = some (.int c) := by
  unfold tfl
  rw [lookup_putF, if_neg t2, lookup_putF, if_neg t1, lookup_putF, if_pos rfl]
theorem tf_coins (c co li : Int) : (tfl c co li).lookup ("coins" : Str) = some (.int co) := by
  unfold tfl
  rw [lookup_putF, if_neg t3, lookup_putF, if_pos rfl]
theorem tf_lines (c co li : Int) : (tfl c co li).lookup ("lines" : Str) = some (.int li) := by
  unfold tfl
  rw [lookup_putF, if_pos rfl]
theorem tf_putL (c co li y : Int) : putF "lines" (.int y) (tfl c co li) = tfl c co y := by
  rw [tfl_eq, tfl_eq]
  simp only [putF]
  rw [if_neg t2, if_neg t3, if_pos trivial]
theorem tf_putC (c co li y : Int) : putF "coins" (.int y) (tfl c co li) = tfl c y li := by
  rw [tfl_eq, tfl_eq]
  simp only [putF]
  rw [if_neg t1, if_pos trivial]
def TallyAt (K : PySem.W.Frag) (H : Hp) (t : Addr) (c co li : Int) : Prop := ∃ dx, H t = some (.ins (He.ga K "Tally") dx (tfl c co li))
theorem forms_of {K : PySem.W.Frag} {a : Addr} {kvs : List (Str × List Str)} (h : formsB K a kvs = true) {q : Str × List Str} (hq : q ∈ kvs) (H : Hp) : ∃ t, PySem.W.nsIn K a q.1 = some (some (.ref t)) ∧ SqT K H t (q.2.map V.str) := by
  have z := List.all_eq_true.mp h q hq
  split at z
  · rename_i t e
    split at z
    · rename_i c its n sl e2
      obtain ⟨h1, z⟩ := He.ba z
      obtain ⟨h2, h3⟩ := He.ba z
      have h1 := of_decide_eq_true h1
      subst h1
      refine ⟨t, e, .inr ⟨_, its, n, e2, rfl, rfl, of_decide_eq_true h2, He.relAll_ok h3⟩⟩
    · cases z
  · cases z
/-- the forms as the module has written them -/
def forms : List (Str × List Str) := [("read", ["REG", "CELL"]), ("set", ["CELL", "E"]), ("swap", ["REG", "CELL", "E", "E"]), ("keep", ["REG", "E"]), ("coin", ["REG"]), ("if", ["E", "ROWS", "ROWS"]), ("times", ["E", "ROWS"]), ("answer", ["E"])]
theorem row_form (r : Row) : (r.word, r.prts.map Prt.kind) ∈ forms := by
  unfold forms
  cases r <;> simp [Row.word, Row.prts, Prt.kind]
section
variable {P : Program} {w : World} {K : PySem.W.Frag} {mg : Str → Option Value} {base : Heap}
theorem form_at (T : Txt w K mg) (r : Row) (H : Hp) : ∃ t, PySem.W.nsIn K (He.ga K "FORMS") r.word = some (some (.ref t)) ∧ SqT K H t ((r.prts.map Prt.kind).map V.str) := forms_of (kvs := forms) T.e_FORMS (row_form r) H
def spTally (K : PySem.W.Frag) : Sp := fun vs H Q _ => ∃ (p dx : Addr) (c : Int), vs = [.ref p, .int c] ∧ H p = some (.ins (He.ga K "Tally") dx []) ∧ Q .non (upd H p (.ins (He.ga K "Tally") dx (tfl c 0 0)))
theorem ma_Tally (T : Txt w K mg) : Ma P w K mg base 1 "Tally" (He.ga K "Tally") (spTally K) := by
  refine ma_of (N := ["self", "cells"]) (ps := ["self", "cells"]) T.f_Tally_init T.g_Tally T.k_Tally ⟨rfl, rfl, rfl, by decide +kernel, rfl, by decide +kernel, by decide +kernel⟩ (fun _ _ _ _ _ _ us hl => match us, hl with | [_, _], _ => rfl)
    (fun vs H Q E h => by obtain ⟨p, dx, c, rfl, hp, q⟩ := h; rfl) (fun cdv A outer s H vs Q E hr h => ?_)
  have nd : (["self", "cells"] : List Str).Nodup := by decide +kernel
  obtain ⟨p, dx, c, rfl, hp, q⟩ := h
  refine ⟨_, pss_cons (ps_fld (pv 0) (pv 1) rfl) (pss_cons (ps_fld (pv 0) pe_int rfl) (pss_one (ps_fld (pv 0) pe_int rfl))), ?_⟩
  refine ⟨_, rfl, _, rfl, p, _, dx, _, rfl, hp, T.c_Tally, T.n_Tally_cells, (by show 0 < 1000; decide), ?_⟩
  refine ⟨_, rfl, p, _, dx, _, rfl, upd_same, T.c_Tally, T.n_Tally_coins, (by show 1 < 1000; decide), ?_⟩
  refine ⟨_, rfl, p, _, dx, _, rfl, upd_same, T.c_Tally, T.n_Tally_lines, (by show 2 < 1000; decide), ?_⟩
  rw [upd_upd, upd_upd]
  exact q
/-! ### the rows of a body, n ifs and times deep at most but one -/
def spRows (K : PySem.W.Frag) : Nat → Sp
  | 0 => fun _ _ _ _ => False
  | n + 1 => fun vs H Q _ => ∃ (v : V) (rs : List Row) (deep loops : Nat) (t : Addr) (c : Int) (co li : Nat), vs = [v, .int deep, .int loops, .ref t] ∧ Dp K H v (.tuple (rowsD rs)) ∧ TallyAt K H t c co li ∧ rowsOk c deep loops rs ∧ 14 ≤ deep + (n + 1) ∧ co + rowsCc rs ≤ 4 ∧ li + rowsCl rs ≤ 2000 ∧
    ∀ H', But t H H' → TallyAt K H' t c ((co + rowsCc rs : Nat) : Int) ((li + rowsCl rs : Nat) : Int) → Q (.bl true) H'
def spPart (K : PySem.W.Frag) (n : Nat) : Sp := fun vs H Q _ => ∃ (v : V) (p : Prt) (deep loops : Nat) (t : Addr) (c : Int) (co li : Nat), vs = [.str p.kind, v, .int deep, .int loops, .ref t] ∧ Dp K H v p.d ∧ TallyAt K H t c co li ∧ p.ok c deep loops ∧ (14 ≤ deep + (n + 1) ∧ deep ≤ 12) ∧ co + p.cc ≤ 4 ∧ li + p.cl ≤ 2000 ∧
    ∀ H', But t H H' → TallyAt K H' t c ((co + p.cc : Nat) : Int) ((li + p.cl : Nat) : Int) → Q (.bl true) H'
theorem ca_is_part {n : Nat} (R : Ca P w K mg base (3 * n + 10) "are_body_rows" (spRows K n)) (T : Txt w K mg) : Ca P w K mg base (3 * n + 11) "is_part" (spPart K n) := by
    refine ca_of (N := ["kind", "value", "deep", "loops", "tally"]) (ps := ["kind", "value", "deep", "loops", "tally"]) T.f_is_part T.g_is_part ⟨rfl, rfl, rfl, by decide +kernel, rfl, by decide +kernel, by decide +kernel⟩ (fun _ _ _ _ _ _ us hl => match us, hl with | [_, _, _, _, _], _ => rfl)
      (fun vs H Q E h => by obtain ⟨v, p, deep, loops, t, c, co, li, rfl, hv, ht, ok, hd, hc, hl, q⟩ := h; rfl) (fun cdv A outer s H vs Q E hr h => ?_)
    have nd : (["kind", "value", "deep", "loops", "tally"] : List Str).Nodup := by decide +kernel
    obtain ⟨v, p, deep, loops, t, c, co, li, rfl, hv, ht, ok, hd, hc, hl, q⟩ := h
    refine ⟨_, pss_cons (ps_if (pt_cmpR op_eq (pv 0) pe_str (nomark _)) (pss_one (ps_ret (pe_cmpR op_in_seq (pv 1) (pe_gr T.g_CHANGED) (by rfl)))) pss_nil)
      (pss_cons (ps_if (pt_cmpR op_eq (pv 0) pe_str (nomark _)) (pss_one (ps_ret (pe_ca (ca_is_within T) hr (pa_cons (pv 1) (pa_cons pe_int (pa_cons (pe_op op_sub (pe_fld (pv 4) rfl) pe_int) pa_nil))) (by omega)))) pss_nil)
      (pss_cons (ps_if (pt_cmpR op_eq (pv 0) pe_str (nomark _)) (pss_one (ps_ret (pe_ca (ca_is_expression T 7) hr (pa_cons (pv 1) (pa_cons pe_int pa_nil)) (by omega)))) pss_nil)
      (pss_one (ps_ret (pe_ca R hr (pa_cons (pv 1) (pa_cons (pe_op op_add (pv 2) pe_int) (pa_cons (pv 3) (pa_cons (pv 4) pa_nil)))) (by omega)))))), ?_⟩
    obtain ⟨dx, ht'⟩ := id ht
    cases p with
    | reg r =>
      cases dp_str hv
      refine ⟨_, rfl, rfl, _, rfl, iteT ?_⟩
      refine ⟨_, rfl, _, _, rfl, .inr (sq_CHANGED T H), rfl, by decide +kernel, ?_⟩
      show Q (.bl (inV (.str r) (regs4.map V.str))) H
      rw [in_regs4 r ok]
      exact q H (fun b o _ e => e) ht
    | cell k =>
      cases dp_int hv
      refine ⟨_, rfl, rfl, _, rfl, iteF ?_⟩
      refine ⟨_, rfl, rfl, _, rfl, iteT ?_⟩
      refine ⟨_, rfl, _, rfl, t, _, dx, _, _, rfl, ht', T.c_Tally, T.n_Tally_cells, tf_cells .., _, _, rfl, rfl, k, 0, c - 1, rfl, ?_⟩
      rw [within_t ⟨ok.1, by have := ok.2; omega⟩]
      exact q H (fun b o _ e => e) ht
    | ex e =>
      refine ⟨_, rfl, rfl, _, rfl, iteF ?_⟩
      refine ⟨_, rfl, rfl, _, rfl, iteF ?_⟩
      refine ⟨_, rfl, rfl, _, rfl, iteT ?_⟩
      exact ⟨_, rfl, v, e, 0, rfl, hv, ok.1, ok.2, by have := ok.2; omega, q H (fun b o _ e => e) ht⟩
    | rows rs =>
      refine ⟨_, rfl, rfl, _, rfl, iteF ?_⟩
      refine ⟨_, rfl, rfl, _, rfl, iteF ?_⟩
      refine ⟨_, rfl, rfl, _, rfl, iteF ?_⟩
      obtain ⟨m, rfl⟩ : ∃ m, n = m + 1 := ⟨n - 1, by omega⟩
      exact ⟨_, rfl, _, rfl, _, _, rfl, rfl, _, rfl, _, rfl, v, rs, deep + 1, loops, t, c, co, li, by simp, hv, ht, ok, by omega, hc, hl, q⟩
end

end M

set_option Elab.async false
set_option linter.all false
set_option maxRecDepth 100000
set_option maxHeartbeats 2000000
namespace M
open PySem PySem.Spec PyProof.Rows L2

theorem cut1 (x : V) (xs : List V) : cutV (x :: xs) (some 1) none = xs := by
  unfold cutV
  rw [show (some (1 : Int)) = some ((1 : Nat) : Int) from rfl, HT.sIx_nat, HT.sIx_none, show min 1 (x :: xs).length = 1 from by simp]
  simp
theorem cut1_not (x : V) (xs : List V) : ¬ (HT.sIx (x :: xs).length 0 (some 1) = 0 ∧ HT.sIx (x :: xs).length (x :: xs).length none = (x :: xs).length) := by
  rw [show (some (1 : Int)) = some ((1 : Nat) : Int) from rfl, HT.sIx_nat, show min 1 (x :: xs).length = 1 from by simp]
  intro h
  exact absurd h.1 (by decide)
theorem word_coin {r : Row} (h : r.word = "coin") : ∃ x, r = .coin x := by
  cases r with
  | read r c => exact absurd (show ("read" : Str) = "coin" from h) (by decide +kernel)
  | set c e => exact absurd (show ("set" : Str) = "coin" from h) (by decide +kernel)
  | swap r c e f => exact absurd (show ("swap" : Str) = "coin" from h) (by decide +kernel)
  | keep r e => exact absurd (show ("keep" : Str) = "coin" from h) (by decide +kernel)
  | coin r => exact ⟨r, rfl⟩
  | iff e a b => exact absurd (show ("if" : Str) = "coin" from h) (by decide +kernel)
  | times e a => exact absurd (show ("times" : Str) = "coin" from h) (by decide +kernel)
  | ans e => exact absurd (show ("answer" : Str) = "coin" from h) (by decide +kernel)
theorem word_times {r : Row} (h : r.word = "times") : ∃ e a, r = .times e a := by
  cases r with
  | read r c => exact absurd (show ("read" : Str) = "times" from h) (by decide +kernel)
  | set c e => exact absurd (show ("set" : Str) = "times" from h) (by decide +kernel)
  | swap r c e f => exact absurd (show ("swap" : Str) = "times" from h) (by decide +kernel)
  | keep r e => exact absurd (show ("keep" : Str) = "times" from h) (by decide +kernel)
  | coin r => exact absurd (show ("coin" : Str) = "times" from h) (by decide +kernel)
  | iff e a b => exact absurd (show ("if" : Str) = "times" from h) (by decide +kernel)
  | times e a => exact ⟨e, a, rfl⟩
  | ans e => exact absurd (show ("answer" : Str) = "times" from h) (by decide +kernel)
theorem lp_eq {loops : Nat} {r : Row} (h : r.word ≠ "times") : r.lp loops = loops := by
  cases r <;> first | rfl | exact absurd rfl h
theorem co_eq {r : Row} (h : r.word ≠ "coin") : r.co = 0 := by
  cases r <;> first | rfl | exact absurd rfl h
section
variable {P : Program} {w : World} {K : PySem.W.Frag} {mg : Str → Option Value} {base : Heap}
def spRow (K : PySem.W.Frag) (n : Nat) : Sp := fun vs H Q _ => ∃ (v : V) (r : Row) (deep loops : Nat) (t : Addr) (c : Int) (co li : Nat), vs = [v, .int deep, .int loops, .ref t] ∧ Dp K H v r.d ∧ TallyAt K H t c co li ∧ r.ok c deep loops ∧ (14 ≤ deep + (n + 1) ∧ deep ≤ 12) ∧ co + r.cc ≤ 4 ∧ li + sumN (r.prts.map Prt.cl) ≤ 2000 ∧
    ∀ H', But t H H' → TallyAt K H' t c ((co + r.cc : Nat) : Int) ((li + sumN (r.prts.map Prt.cl) : Nat) : Int) → Q (.bl true) H'
theorem ca_is_body_row {n : Nat} (R : Ca P w K mg base (3 * n + 11) "is_part" (spPart K n)) (T : Txt w K mg) : Ca P w K mg base (3 * n + 12) "is_body_row" (spRow K n) := by
    refine ca_of (N := ["row", "deep", "loops", "tally", "form", "kind", "part"]) (ps := ["row", "deep", "loops", "tally"]) T.f_is_body_row T.g_is_body_row ⟨rfl, rfl, rfl, by decide +kernel, rfl, by decide +kernel, by decide +kernel⟩ (fun _ _ _ _ _ _ us hl => match us, hl with | [_, _, _, _], _ => rfl)
      (fun vs H Q E h => by obtain ⟨v, r, deep, loops, t, c, co, li, rfl, hv, ht, ok, hd, hc, hl, q⟩ := h; rfl) (fun cdv A outer s H vs Q E hr h => ?_)
    have nd : (["row", "deep", "loops", "tally", "form", "kind", "part"] : List Str).Nodup := by decide +kernel
    obtain ⟨v, r, deep, loops, t, c, co, li, rfl, hv, ht, ok, hd, hc, hl, q⟩ := h
    obtain ⟨es, nn, D⟩ := T.t_FORMS
    rw [row_d] at hv
    obtain ⟨a, xs, rfl, ha, hxs⟩ := dp_tup hv
    obtain ⟨y, ys, rfl, hy, hys⟩ : ∃ y ys, xs = y :: ys ∧ Dp K H y (.str r.word) ∧ DpAll K H ys (r.prts.map Prt.d) := by
      cases hxs with | cons h1 h2 => exact ⟨_, _, rfl, h1, h2⟩
    cases dp_str hy
    obtain ⟨f, hf, hfs⟩ := form_at T r H
    refine ⟨_, pss_cons (ps_if (PW.pt (pw_or (pt_not (pt_val (pe_is .tuple T.b_isinstance (pv 0) T.b_tuple boot_tuple))) (pw_or (pt_cmpR op_eq (pe_callB call_len_seq (by rfl) T.b_len PySem.boot_len (pa_cons (pv 0) pa_nil)) pe_int (nomark _)) (pw_or1 (pt_not (pt_val (pe_is .str T.b_isinstance (pe_ix ix_tup (pv 0) pe_int (fun _ _ => rfl)) T.b_str boot_str))))))) (pss_one (ps_ret pe_bl)) pss_nil)
      (pss_cons (ps_set (i := 4) nd rfl (.inl rfl) (pe_kget D (pe_gr T.g_FORMS) (pe_ix ix_tup (pv 0) pe_int (fun _ _ => rfl)) ⟨rfl, rfl, rfl, rfl⟩))
      (pss_cons (ps_if (PW.pt (pw_or (pt_cmp (pc_isN (pv 4))) (pw_or1 (pt_cmpR op_ne (pe_callB call_len_seq (by rfl) T.b_len PySem.boot_len (pa_cons (pv 0) pa_nil)) (pe_op op_add pe_int (pe_callB call_len_seq (by rfl) T.b_len PySem.boot_len (pa_cons (pv 4) pa_nil))) (nomark _))))) (pss_one (ps_ret pe_bl)) pss_nil)
      (C8.pss_cut (ps_if (pt_cmpR op_eq (pe_ix ix_tup (pv 0) pe_int (fun _ _ => rfl)) pe_str (nomark _)) (pss_cons (ps_fldaug (pv 3) pe_int in_add) (pss_one (ps_if (PW.pt (pw_or (pt_cmpR op_gt (pv 2) pe_int (nomark _)) (pw_or1 (pt_cmpR op_gt (pe_fld (pv 3) rfl) (pe_gi T.i_MOST_COINS) (nomark _))))) (pss_one (ps_ret pe_bl)) pss_nil))) pss_nil)
      (C8.pss_cut (ps_if (pt_cmpR op_eq (pe_ix ix_tup (pv 0) pe_int (fun _ _ => rfl)) pe_str (nomark _)) (pss_cons (ps_aug (i := 2) nd rfl (.inl rfl) pe_int ip_add) (pss_one (ps_if (pt_cmpR op_gt (pv 2) (pe_gi T.i_DEEPEST_TIMES) (nomark _)) (pss_one (ps_ret pe_bl)) pss_nil))) pss_nil)
      (pss_cons (ps_for PassesOwn.never rfl (RZ.pi_zipA (by rfl) T.b_zip (pa_cons (pv 4) (pa_cons (pe_slice sl_tup (pv 0) (po_some pe_int) po_none) pa_nil))) (pg_two K 5 6 rfl rfl nd rfl rfl (.inl rfl) (.inl rfl) (.inr rfl) (.inr rfl))
        (pss_one (ps_if (pt_not (pt_val (pe_ca R hr (pa_cons (pv 5) (pa_cons (pv 6) (pa_cons (pv 1) (pa_cons (pv 2) (pa_cons (pv 3) pa_nil)))))  (by omega)))) (pss_one (ps_ret pe_bl)) pss_nil)))
      (pss_one (ps_ret pe_bl))))))), ?_⟩
    have lxs : ys.length = r.prts.length := by rw [dps_len hys, List.length_map]
    -- a tuple of a word and more
    refine ⟨_, rfl, _, _, rfl, .tuple ha, _, rfl, iteF ?_⟩
    refine ⟨_, rfl, _, _, rfl, .inr ha, rfl, _, rfl, ?_⟩
    rw [decide_eq_false (show ¬ V.int (((.str r.word :: ys : List V).length : Nat) : Int) = V.int 0 from fun e => by have := V.int.inj e; simp at this; omega)]
    refine iteF ?_
    refine ⟨_, rfl, _, _, _, _, rfl, rfl, ha, at0, _, _, rfl, .str _, _, rfl, iteF ?_⟩
    -- its form
    refine ⟨rfl, _, rfl, _, _, _, _, rfl, rfl, ha, at0, r.word, _, .ref f, rfl, hf, rfl, ?_⟩
    refine ⟨_, rfl, _, rfl, iteF ?_⟩
    refine ⟨_, rfl, _, _, rfl, .inr ha, _, rfl, _, _, rfl, .inr hfs, _, _, rfl, rfl, rfl, _, rfl, ?_⟩
    refine iteNS (by rw [List.length_cons, lxs, List.length_map, List.length_map]; congr 1; omega) ?_
    -- the coins
    refine ⟨fun σ' H' => σ' = [some (.ref a), some (.int deep), some (.int loops), some (.ref t), some (.ref f), none, none] ∧ But t H H' ∧ TallyAt K H' t c ((co + r.co : Nat) : Int) li, ?_, ?_⟩
    · refine ⟨_, rfl, _, _, _, _, rfl, rfl, ha, at0, rfl, _, rfl, ?_⟩
      by_cases e : r.word = "coin"
      · rw [e]
        refine iteT ?_
        obtain ⟨dx, ht'⟩ := ht
        refine ⟨_, rfl, t, _, dx, _, _, rfl, ht', T.c_Tally, T.n_Tally_coins, tf_coins .., _, _, rfl, rfl, dx, _, ht', (by rw [tfl_eq]; show 3 < 1000; decide), ?_⟩
        rw [tf_putC]
        obtain ⟨x, rfl⟩ := word_coin e
        have e1 : (Row.coin x).co = 1 := rfl
        have e2 : loops = 0 := ok.2
        have e3 := row_cc (.coin x)
        refine ⟨_, rfl, _, _, rfl, rfl, _, rfl, ?_⟩
        rw [decide_eq_false (show ¬ (0 : Int) < (loops : Int) from by omega)]
        refine iteF ⟨_, rfl, t, _, dx, _, _, rfl, upd_same, T.c_Tally, T.n_Tally_coins, tf_coins .., _, _, rfl, rfl, _, rfl, ?_⟩
        rw [decide_eq_false (show ¬ (4 : Int) < (co : Int) + 1 from by omega)]
        refine iteF ⟨rfl, But.upd, dx, ?_⟩
        rw [upd_same, e1]
        rfl
      · rw [decide_eq_false (show ¬ V.str r.word = V.str "coin" from fun z => e (V.str.inj z))]
        refine iteF ⟨rfl, fun b o _ z => z, ?_⟩
        rw [co_eq e]
        exact ht
    rintro σ1 H1 ⟨rfl, b1, ht1⟩
    -- the times
    have ch : Ch H t := by obtain ⟨dx, z⟩ := ht; exact .ins z
    have ch1 : Ch H1 t := by obtain ⟨dx, z⟩ := ht1; exact .ins z
    have ha1 := sqT_but ch b1 ha
    refine ⟨fun σ' H' => σ' = [some (.ref a), some (.int deep), some (.int ((r.lp loops : Nat) : Int)), some (.ref t), some (.ref f), none, none] ∧ H' = H1, ?_, ?_⟩
    · refine ⟨_, rfl, _, _, _, _, rfl, rfl, ha1, at0, rfl, _, rfl, ?_⟩
      by_cases e : r.word = "times"
      · rw [e]
        refine iteT ?_
        have ⟨e1, e2⟩ : r.lp loops = loops + 1 ∧ loops < 2 := by
          obtain ⟨x, y, rfl⟩ := word_times e
          exact ⟨rfl, ok.2.1⟩
        refine ⟨_, rfl, _, _, rfl, rfl, ?_⟩
        refine ⟨_, rfl, _, _, rfl, rfl, _, rfl, ?_⟩
        rw [decide_eq_false (show ¬ (2 : Int) < (loops : Int) + 1 from by omega)]
        refine iteF ⟨?_, rfl⟩
        rw [e1]
        rfl
      · rw [decide_eq_false (show ¬ V.str r.word = V.str "times" from fun z => e (V.str.inj z))]
        refine iteF ⟨?_, rfl⟩
        rw [lp_eq e]
    rintro σ2 H2 ⟨rfl, rfl⟩
    -- the parts
    refine ⟨_, rfl, _, rfl, _, rfl, a, _, rfl, ha1, cut1_not _ _, fun p np => ?_⟩
    rw [cut1]
    have hfs1 : SqT K H2 f ((r.prts.map Prt.kind).map V.str) := sqT_but ch b1 hfs
    have ntp : t ≠ p := fun z => by obtain ⟨dx, y⟩ := ht1; rw [z, np] at y; cases y
    have sn : Same H2 (upd H2 p (.tup ys)) := same_new np
    refine ⟨f, p, _, _, rfl, .inr ⟨same_t sn hfs1, .of upd_same, RZ.for_zipT (xs := (r.prts.map Prt.kind).map V.str) (ys := ys) (by simp [lxs]) (fun i σ' H' => ∃ x y, σ' = [some (.ref a), some (.int deep), some (.int ((r.lp loops : Nat) : Int)), some (.ref t), some (.ref f), x, y] ∧ But t (upd H2 p (.tup ys)) H' ∧ TallyAt K H' t c ((co + r.co + sumN ((r.prts.map Prt.cc).take i) : Nat) : Int) ((li + sumN ((r.prts.map Prt.cl).take i) : Nat) : Int))
      ⟨none, none, rfl, fun b o _ z => z, by obtain ⟨dx, y⟩ := ht1; exact ⟨dx, sn _ _ y⟩⟩ (fun i σ' H' ⟨_, _, _, bt, _⟩ => ⟨sqT_but (H := upd H2 p (.tup ys)) (by obtain ⟨dx, y⟩ := ht1; exact .ins (sn _ _ y)) bt (same_t sn hfs1), sqT_but (H := upd H2 p (.tup ys)) (by obtain ⟨dx, y⟩ := ht1; exact .ins (sn _ _ y)) bt (.of upd_same)⟩) ?_ ?_⟩⟩
    · rintro i x y tt σ' H' hx hy' ⟨_, _, rfl, bt, hta⟩ ntt
      obtain ⟨kk, hk, rfl⟩ := get_mapA hx
      obtain ⟨pp, hp, rfl⟩ := get_mapA hk
      obtain ⟨dd, hdd, hyd⟩ := dps_get hys hy'
      obtain ⟨pp', hp', rfl⟩ := get_mapA hdd
      rw [hp] at hp'
      cases hp'
      have okp := row_prts ok pp (List.mem_of_getElem? hp)
      have nl : NoL pp.d := by
        have := r.noL
        rw [row_d] at this
        cases this with
        | tup h => exact h _ (List.mem_cons_of_mem _ (List.mem_map.mpr ⟨pp, List.mem_of_getElem? hp, rfl⟩))
      have chp : Ch (upd H2 p (.tup ys)) t := by obtain ⟨dx, y⟩ := ht1; exact .ins (sn _ _ y)
      have hy2 : Dp K H' y pp.d := dp_but chp bt (dp_same sn (dp_but ch b1 hyd nl)) nl
      have sn2 : Same H' (upd H' tt (.tup [.str pp.kind, y])) := same_new ntt
      have ntt' : t ≠ tt := fun z => by obtain ⟨dx, y⟩ := hta; rw [z, ntt] at y; cases y
      have ec : ((r.prts.map Prt.cc)[i]?) = some pp.cc := by rw [List.getElem?_map, hp]; rfl
      have el : ((r.prts.map Prt.cl)[i]?) = some pp.cl := by rw [List.getElem?_map, hp]; rfl
      have sc := sumN_take ec
      have sl := sumN_take el
      have lc := sumN_le (r.prts.map Prt.cc) (i + 1)
      have ll := sumN_le (r.prts.map Prt.cl) (i + 1)
      have rc := row_cc r
      refine ⟨tt, _, rfl, SqT.of upd_same, rfl, _, _, rfl, _, _, rfl, rfl, ?_⟩
      refine ⟨_, rfl, _, rfl, _, rfl, _, rfl, _, rfl, y, pp, deep, r.lp loops, t, c, co + r.co + sumN ((r.prts.map Prt.cc).take i), li + sumN ((r.prts.map Prt.cl).take i), rfl, dp_same sn2 hy2, by obtain ⟨dx, z⟩ := hta; exact ⟨dx, sn2 _ _ z⟩, okp, hd, by omega, by omega, fun H3 b3 ht3 => ⟨_, rfl, iteF ⟨_, _, rfl, ?_, ?_⟩⟩⟩
      · exact fun b o hb z => b3 b o hb (sn2 b o (bt b o hb z))
      · rw [sc, sl, ← Nat.add_assoc, ← Nat.add_assoc]
        exact ht3
    · rintro σ' H' ⟨_, _, rfl, bt, hta⟩
      have rc := row_cc r
      refine q H' (fun b o hb z => bt b o hb (sn b o (b1 b o hb z))) ?_
      rw [List.length_map, List.length_map, List.take_of_length_le (by simp), List.take_of_length_le (by simp)] at hta
      rw [rc, ← Nat.add_assoc]
      exact hta
end

end M

set_option Elab.async false
set_option linter.all false
set_option maxRecDepth 100000
set_option maxHeartbeats 2000000
namespace M
open PySem PySem.Spec PyProof.Rows L2

def rowsOkAt {c : Int} {deep loops : Nat} : ∀ {rs : List Row}, rowsOk c deep loops rs → ∀ r ∈ rs, deep ≤ 12 ∧ r.ok c deep loops
  | [], _, r, h => by cases h
  | a :: rs, h, r, hr => by
    have h : deep ≤ 12 ∧ a.ok c deep loops ∧ rowsOk c deep loops rs := h
    rcases List.mem_cons.mp hr with rfl | hr
    · exact ⟨h.1, h.2.1⟩
    · exact rowsOkAt h.2.2 r hr
theorem rowsCl_sum : ∀ rs : List Row, rowsCl rs = sumN (rs.map Row.cl)
  | [] => rfl
  | r :: rs => by rw [rowsCl, rowsCl_sum rs]; rfl
theorem rowsCc_sum : ∀ rs : List Row, rowsCc rs = sumN (rs.map Row.cc)
  | [] => rfl
  | r :: rs => by rw [rowsCc, rowsCc_sum rs]; rfl
section
variable {P : Program} {w : World} {K : PySem.W.Frag} {mg : Str → Option Value} {base : Heap}
theorem ca_are_body_rows {n : Nat} (R : Ca P w K mg base (3 * n + 12) "is_body_row" (spRow K n)) (T : Txt w K mg) : Ca P w K mg base (3 * n + 13) "are_body_rows" (spRows K (n + 1)) := by
    refine ca_of (N := ["rows", "deep", "loops", "tally", "row"]) (ps := ["rows", "deep", "loops", "tally"]) T.f_are_body_rows T.g_are_body_rows ⟨rfl, rfl, rfl, by decide +kernel, rfl, by decide +kernel, by decide +kernel⟩ (fun _ _ _ _ _ _ us hl => match us, hl with | [_, _, _, _], _ => rfl)
      (fun vs H Q E h => by obtain ⟨v, rs, deep, loops, t, c, co, li, rfl, hv, ht, ok, hd, hc, hl, q⟩ := h; rfl) (fun cdv A outer s H vs Q E hr h => ?_)
    have nd : (["rows", "deep", "loops", "tally", "row"] : List Str).Nodup := by decide +kernel
    obtain ⟨v, rs, deep, loops, t, c, co, li, rfl, hv, ht, ok, hd, hc, hl, q⟩ := h
    obtain ⟨a, xs, rfl, ha, hxs⟩ := dp_tup hv
    have lxs : xs.length = rs.length := by rw [dps_len hxs, rowsD_map, List.length_map]
    have ch : Ch H t := by obtain ⟨dx, z⟩ := ht; exact .ins z
    refine ⟨_, (pss_cons (ps_if (pt_not (pt_val (pe_is .tuple T.b_isinstance (pv 0) T.b_tuple boot_tuple))) (pss_one (ps_ret pe_bl)) pss_nil)
      (pss_cons (ps_for PassesOwn.never rfl (pi_tup (pv 0)) (pg_name (i := 4) nd rfl (.inl rfl)) (pss_cons (ps_fldaug (pv 3) pe_int in_add)
      (pss_one (ps_if (PW.pt (pw_or (pt_cmpR op_gt (pv 1) (pe_gi T.i_DEEPEST_ROW) (nomark _)) (pw_or (pt_cmpR op_gt (pe_fld (pv 3) rfl) (pe_gi T.i_MOST_ROWS) (nomark _)) (pw_or1 (pt_not (pt_val (pe_ca R hr (pa_cons (pv 4) (pa_cons (pv 1) (pa_cons (pv 2) (pa_cons (pv 3) pa_nil)))) (by omega)))))))) (pss_one (ps_ret pe_bl)) pss_nil))))
      (pss_one (ps_ret pe_bl)))), ?_⟩
    refine ⟨_, rfl, _, _, rfl, .tuple ha, _, rfl, iteF ?_⟩
    refine ⟨_, rfl, a, rfl, ⟨_, ha⟩, for_tup (xs := xs) (fun i σ' H' => ∃ x, σ' = [some (.ref a), some (.int deep), some (.int loops), some (.ref t), x] ∧ But t H H' ∧ TallyAt K H' t c ((co + sumN ((rs.map Row.cc).take i) : Nat) : Int) ((li + sumN ((rs.map Row.cl).take i) : Nat) : Int))
      ⟨none, rfl, fun b o _ z => z, ht⟩ (fun i σ' H' _ ⟨_, _, bt, _⟩ => sqT_but ch bt ha) ?_ ?_⟩
    · rintro i x σ' H' hx ⟨_, rfl, bt, hta⟩
      obtain ⟨dd, hdd, hxd⟩ := dps_get hxs hx
      rw [rowsD_map] at hdd
      obtain ⟨r, hr', rfl⟩ := get_mapA hdd
      have okr := rowsOkAt ok r (List.mem_of_getElem? hr')
      have ec : ((rs.map Row.cc)[i]?) = some r.cc := by rw [List.getElem?_map, hr']; rfl
      have el : ((rs.map Row.cl)[i]?) = some r.cl := by rw [List.getElem?_map, hr']; rfl
      have sc := sumN_take ec
      have sl := sumN_take el
      have lc := sumN_le (rs.map Row.cc) (i + 1)
      have ll := sumN_le (rs.map Row.cl) (i + 1)
      have rl := row_cl r
      have s1 := rowsCl_sum rs
      have s2 := rowsCc_sum rs
      have hx2 : Dp K H' x r.d := dp_but ch bt hxd r.noL
      obtain ⟨dx, hta'⟩ := id hta
      refine ⟨_, rfl, t, _, dx, _, _, rfl, hta', T.c_Tally, T.n_Tally_lines, tf_lines .., _, _, rfl, rfl, dx, _, hta', (by rw [tfl_eq]; show 3 < 1000; decide), ?_⟩
      rw [tf_putL]
      refine ⟨_, rfl, _, _, rfl, rfl, _, rfl, ?_⟩
      rw [decide_eq_false (show ¬ (12 : Int) < (deep : Int) from by omega)]
      refine iteF ⟨_, rfl, t, _, dx, _, _, rfl, upd_same, T.c_Tally, T.n_Tally_lines, tf_lines .., _, _, rfl, rfl, _, rfl, ?_⟩
      rw [decide_eq_false (show ¬ (2000 : Int) < ((li + sumN ((rs.map Row.cl).take i) : Nat) : Int) + 1 from by omega)]
      have ch' : Ch H' t := .ins hta'
      refine iteF ⟨_, rfl, _, rfl, _, rfl, _, rfl, x, r, deep, loops, t, c, co + sumN ((rs.map Row.cc).take i), li + sumN ((rs.map Row.cl).take i) + 1, rfl, dp_but ch' But.upd hx2 r.noL, ⟨dx, by rw [upd_same]; rfl⟩, okr.2, ⟨by omega, okr.1⟩, by omega, by omega, fun H3 b3 ht3 => ⟨_, rfl, iteF ⟨_, rfl, ?_, ?_⟩⟩⟩
      · exact fun b o hb z => b3 b o hb (by rw [upd_ne hb]; exact bt b o hb z)
      · rw [sc, sl, ← Nat.add_assoc, show li + (sumN ((rs.map Row.cl).take i) + r.cl) = li + sumN ((rs.map Row.cl).take i) + 1 + sumN (r.prts.map Prt.cl) from by omega]
        exact ht3
    · rintro σ' H' ⟨_, rfl, bt, hta⟩
      refine q H' bt ?_
      rw [lxs, List.take_of_length_le (by simp), List.take_of_length_le (by simp)] at hta
      rw [rowsCl_sum, rowsCc_sum]
      exact hta
theorem ca_rows (T : Txt w K mg) : ∀ n, Ca P w K mg base (3 * n + 10) "are_body_rows" (spRows K n)
  | 0 => ca_false (ps := ["rows", "deep", "loops", "tally"]) T.f_are_body_rows T.g_are_body_rows (fun _ _ _ _ _ _ us hl => match us, hl with | [_, _, _, _], _ => rfl)
  | n + 1 => ca_are_body_rows (ca_is_body_row (ca_is_part (ca_rows T n) T) T) T
def spBody (K : PySem.W.Frag) : Sp := fun vs H Q _ => ∃ (v : V) (rs : List Row) (c : Int), vs = [v, .int c] ∧ Dp K H v (.tuple (rowsD rs)) ∧ rowsOk c 1 0 rs ∧ rowsCc rs ≤ 4 ∧ rowsCl rs ≤ 2000 ∧ ∀ H', Same H H' → Q (.bl true) H'
theorem ca_is_body (T : Txt w K mg) : Ca P w K mg base 50 "is_body" (spBody K) := by
  refine ca_of (N := ["rows", "cells"]) (ps := ["rows", "cells"]) T.f_is_body T.g_is_body ⟨rfl, rfl, rfl, by decide +kernel, rfl, by decide +kernel, by decide +kernel⟩ (fun _ _ _ _ _ _ us hl => match us, hl with | [_, _], _ => rfl)
    (fun vs H Q E h => by obtain ⟨v, rs, c, rfl, hv, ok, hc, hl, q⟩ := h; rfl) (fun cdv A outer s H vs Q E hr h => ?_)
  have nd : (["rows", "cells"] : List Str).Nodup := by decide +kernel
  obtain ⟨v, rs, c, rfl, hv, ok, hc, hl, q⟩ := h
  refine ⟨_, pss_one (ps_ret (pe_ca (ca_rows T 13) hr (pa_cons (pv 0) (pa_cons pe_int (pa_cons pe_int (pa_cons (pe_ma (ma_Tally T) hr (pa_cons (pv 1) pa_nil)) pa_nil)))))), ?_⟩
  refine ⟨_, rfl, _, rfl, fun t dx nt nd ndt => ?_⟩
  have s0 : ∀ o : HO, Same H (upd (upd H dx (.own t)) t o) := fun o b u e => by
    rw [upd_ne (ne_of_none e nt), upd_ne (ne_of_none e nd)]
    exact e
  refine ⟨t, dx, c, rfl, upd_same, rfl, v, rs, 1, 0, t, c, 0, 0, rfl, ?_, ⟨dx, upd_same⟩, ok, (by decide), by omega, by omega, fun H' bt _ => ?_⟩
  · rw [upd_upd]
    exact dp_same (s0 _) hv
  · rw [upd_upd] at bt
    exact q H' fun b o e => bt b o (ne_of_none e nt) (s0 _ b o e)
end

end M

set_option Elab.async false
set_option linter.all false
set_option maxRecDepth 100000
set_option maxHeartbeats 2000000
namespace M
open PySem PySem.Spec PyProof.Rows L2

def CellOk (c : Int × Int) : Prop := 1 ≤ c.1 ∧ c.1 ≤ 9 ∧ 0 ≤ c.2 ∧ c.2 < c.1
def NameOk (s : Str) : Prop := 1 ≤ s.length ∧ s.length ≤ 8 ∧ ∀ c ∈ s.cps.toList, 97 ≤ c ∧ c ≤ 122
def DeedOk (c : Int) (d : Str × Int × List Row) : Prop := NameOk d.1 ∧ (1 ≤ d.2.1 ∧ d.2.1 ≤ 9) ∧ rowsOk c 1 0 d.2.2 ∧ rowsCc d.2.2 ≤ 4 ∧ rowsCl d.2.2 ≤ 2000
/-- what a vault is -/
structure VGood (v : Vlt) : Prop where
  c0 : 1 ≤ v.cells.length
  c1 : v.cells.length ≤ 6
  cs : ∀ c ∈ v.cells, CellOk c
  d0 : 1 ≤ v.deeds.length
  d1 : v.deeds.length ≤ 8
  ds : ∀ d ∈ v.deeds, DeedOk v.cells.length d
  nd : (v.deeds.map (·.1)).Nodup
theorem VGood.ok {v : Vlt} (g : VGood v) : VOk v := ⟨g.c1, g.d1, fun d hd => (g.ds d hd).2.1, g.nd⟩
theorem deed_noL (d : Str × Int × List Row) : NoL (deedD d) := .tup (by
  intro e h
  simp at h
  rcases h with rfl | rfl | rfl
  · exact .str _
  · exact .int _
  · exact .tup (rows_noL _))
theorem cell_noL (c : Int × Int) : NoL (cellD c) := .tup (by
  intro e h
  simp at h
  rcases h with rfl | rfl <;> constructor)
theorem sign_le {a c : Nat} (h : a ≤ c) : (!decide (([c] : List Nat) < [a])) = true := by
  have : ¬ (([c] : List Nat) < [a]) := by
    rw [List.cons_lt_cons_iff]
    rintro (h1 | ⟨_, h2⟩)
    · omega
    · exact absurd h2 (by simp)
  rw [decide_eq_false this]
  rfl
theorem Ch.ext {H : Hp} {D : Addr} {φ : Heap → Prop} (h : H D = some (.ext φ)) : Ch H D := ⟨fun _ e => (by rw [h] at e; cases e), fun _ _ e => (by rw [h] at e; cases e)⟩
theorem if_true_of {c : Bool} {A B : Prop} (hc : c = true) (h : A) : if c = true then A else B := by
  rw [if_pos hc]
  exact h
theorem if_not_of {c : Bool} {A B : Prop} (hc : c = true) (h : B) : if (!c) = true then A else B := by
  rw [hc]
  exact iteF h
section
variable {P : Program} {w : World} {K : PySem.W.Frag} {mg : Str → Option Value} {base : Heap}
def spCell (K : PySem.W.Frag) : Sp := fun vs H Q _ => ∃ (v : V) (c : Int × Int), vs = [v] ∧ Dp K H v (cellD c) ∧ CellOk c ∧ Q (.bl true) H
theorem ca_is_cell (T : Txt w K mg) : Ca P w K mg base 3 "is_cell" (spCell K) := by
  refine ca_of (N := ["value"]) (ps := ["value"]) T.f_is_cell T.g_is_cell ⟨rfl, rfl, rfl, by decide +kernel, rfl, by decide +kernel, by decide +kernel⟩ (fun _ _ _ _ _ _ us hl => match us, hl with | [_], _ => rfl)
    (fun vs H Q E h => by obtain ⟨v, c, rfl, hv, ok, q⟩ := h; rfl) (fun cdv A outer s H vs Q E hr h => ?_)
  have nd : (["value"] : List Str).Nodup := by decide +kernel
  obtain ⟨v, c, rfl, hv, ok, q⟩ := h
  refine ⟨_, (pss_one (ps_ret (pe_and (pe_ca (ca_is_tuple T) hr (pa_cons (pv 0) (pa_cons pe_int pa_nil))) (pe_and (pe_ca (ca_is_within T) hr (pa_cons (pe_ix ix_tup (pv 0) pe_int (fun _ _ => rfl)) (pa_cons pe_int (pa_cons (pe_gi T.i_GREATEST_SIZE) pa_nil)))) (pe_one (pe_ca (ca_is_within T) hr (pa_cons (pe_ix ix_tup (pv 0) pe_int (fun _ _ => rfl)) (pa_cons pe_int (pa_cons (pe_op op_sub (pe_ix ix_tup (pv 0) pe_int (fun _ _ => rfl)) pe_int) pa_nil))))))))), ?_⟩
  obtain ⟨a, x, y, rfl, ha, hx, hy⟩ := dp2 hv
  cases dp_int hx
  cases dp_int hy
  obtain ⟨o1, o2, o3, o4⟩ := ok
  refine ⟨_, rfl, a, _, _, rfl, ha, _, rfl, iteT ?_⟩
  refine ⟨_, rfl, _, _, _, _, rfl, rfl, ha, at0, c.1, 1, 9, rfl, _, rfl, ?_⟩
  rw [within_t ⟨o1, o2⟩]
  refine iteT ⟨_, rfl, _, _, _, _, rfl, rfl, ha, at1, _, rfl, _, _, _, _, rfl, rfl, ha, at0, _, _, rfl, rfl, c.2, 0, c.1 - 1, rfl, ?_⟩
  rw [within_t ⟨o3, by omega⟩]
  exact q
def spCells (K : PySem.W.Frag) : Sp := fun vs H Q _ => ∃ (a : Addr) (xs : List V) (cs : List (Int × Int)), vs = [.ref a] ∧ SqL K H a xs ∧ DpAll K H xs (cs.map cellD) ∧ 1 ≤ cs.length ∧ cs.length ≤ 6 ∧ (∀ c ∈ cs, CellOk c) ∧ Q (.bl true) H
theorem ca_are_cells (T : Txt w K mg) : Ca P w K mg base 4 "are_cells" (spCells K) := by
  refine ca_of (N := ["cells", "cell"]) (ps := ["cells"]) T.f_are_cells T.g_are_cells ⟨rfl, rfl, rfl, by decide +kernel, rfl, by decide +kernel, by decide +kernel⟩ (fun _ _ _ _ _ _ us hl => match us, hl with | [_], _ => rfl)
    (fun vs H Q E h => by obtain ⟨a, xs, cs, rfl, ha, hxs, h1, h6, ok, q⟩ := h; rfl) (fun cdv A outer s H vs Q E hr h => ?_)
  have nd : (["cells", "cell"] : List Str).Nodup := by decide +kernel
  obtain ⟨a, xs, cs, rfl, ha, hxs, h1, h6, ok, q⟩ := h
  have lx : xs.length = cs.length := by rw [dps_len hxs, List.length_map]
  refine ⟨_, (pss_cons (ps_if (pt_not (pt_chain op_le op_le pe_int (pe_callB call_len_seq (by rfl) T.b_len PySem.boot_len (pa_cons (pv 0) pa_nil)) (pe_gi T.i_MOST_CELLS))) (pss_one (ps_ret pe_bl)) pss_nil)
      (pss_cons (ps_for PassesOwn.never rfl (pi_list (pv 0)) (pg_name (i := 1) nd rfl (.inl rfl)) (pss_one (ps_if (pt_not (pt_val (pe_ca (ca_is_cell T) hr (pa_cons (pv 1) pa_nil)))) (pss_one (ps_ret pe_bl)) pss_nil)))
      (pss_one (ps_ret pe_bl)))), ?_⟩
  refine ⟨_, rfl, _, _, rfl, .inl ha, _, _, rfl, rfl, _, rfl, ?_⟩
  rw [lx, decide_eq_true (show (1 : Int) ≤ (cs.length : Int) from by omega)]
  refine iteT ⟨_, _, rfl, rfl, _, rfl, ?_⟩
  rw [decide_eq_true (show (cs.length : Int) ≤ 6 from by omega)]
  refine iteF ⟨_, rfl, a, rfl, ⟨_, ha⟩, for_list (xs := xs) (fun i σ' H' => ∃ x, σ' = [some (.ref a), x] ∧ H' = H) ⟨none, rfl, rfl⟩ (fun i σ' H' _ ⟨_, _, e⟩ => e ▸ ha) ?_ ?_⟩
  · rintro i x σ' H' hx ⟨_, rfl, rfl⟩
    obtain ⟨d, hd, hxd⟩ := dps_get hxs hx
    obtain ⟨c, hc, rfl⟩ := get_mapA hd
    exact ⟨_, rfl, x, c, rfl, hxd, ok c (List.mem_of_getElem? hc), _, rfl, iteF ⟨_, rfl, rfl⟩⟩
  · rintro σ' H' ⟨_, rfl, rfl⟩
    exact q
def spName : Sp := fun vs H Q _ => ∃ (s : Str), vs = [.str s] ∧ NameOk s ∧ Q (.bl true) H
theorem ca_is_name (T : Txt w K mg) : Ca P w K mg base 1 "is_name" (spName) := by
  refine ca_of (N := ["value", "letter"]) (ps := ["value"]) T.f_is_name T.g_is_name ⟨rfl, rfl, rfl, by decide +kernel, rfl, by decide +kernel, by decide +kernel⟩ (fun _ _ _ _ _ _ us hl => match us, hl with | [_], _ => rfl)
    (fun vs H Q E h => by obtain ⟨s, rfl, ok, q⟩ := h; rfl) (fun cdv A outer s H vs Q E hr h => ?_)
  have nd : (["value", "letter"] : List Str).Nodup := by decide +kernel
  obtain ⟨s, rfl, ok, q⟩ := h
  refine ⟨_, (pss_cons (ps_if (PW.pt (pw_or (pt_not (pt_val (pe_is .str T.b_isinstance (pv 0) T.b_str boot_str))) (pw_or1 (pt_not (pt_chain op_le op_le pe_int (pe_callB call_len_str (by rfl) T.b_len PySem.boot_len (pa_cons (pv 0) pa_nil)) (pe_gi T.i_LONGEST_NAME)))))) (pss_one (ps_ret pe_bl)) pss_nil)
      (pss_cons (ps_for PassesOwn.never rfl (pi_str (pv 0)) (pg_name (i := 1) nd rfl (.inl rfl)) (pss_one (ps_if (pt_not (pt_chain op_le_str op_le_str pe_str (pv 1) pe_str)) (pss_one (ps_ret pe_bl)) pss_nil)))
      (pss_one (ps_ret pe_bl)))), ?_⟩
  refine ⟨_, rfl, _, _, rfl, .str s, _, rfl, iteF ?_⟩
  have l8 := ok.2.1
  refine ⟨_, rfl, _, rfl, by rw [sizeLine_eq]; omega, _, _, rfl, rfl, _, rfl, ?_⟩
  rw [decide_eq_true (show (1 : Int) ≤ (s.length : Int) from by have := ok.1; omega)]
  refine iteT ⟨_, _, rfl, rfl, _, rfl, ?_⟩
  rw [decide_eq_true (show (s.length : Int) ≤ 8 from by omega)]
  refine iteF ⟨_, rfl, _, rfl, for_it (n := s.cps.size) walk_str (fun i σ' H' => ∃ x, σ' = [some (.str s), x] ∧ H' = H) ⟨none, rfl, rfl⟩ (fun _ _ _ _ _ => trivial) ?_ ?_⟩
  · rintro i x σ' H' H2 hi ⟨_, rfl, rfl⟩ ⟨rfl, c, hc, rfl⟩
    have hm : c ∈ s.cps.toList := by
      rw [← Array.getElem?_toList] at hc
      exact List.mem_of_getElem? hc
    have b := ok.2.2 c hm
    refine ⟨_, rfl, _, _, rfl, rfl, _, rfl, ?_⟩
    refine (if_true_of (sign_le b.1) ?_)
    refine ⟨_, _, rfl, rfl, _, rfl, ?_⟩
    refine if_not_of (sign_le b.2) ⟨_, rfl, rfl⟩
  · rintro σ' H' ⟨_, rfl, rfl⟩
    exact q
theorem cut2 (x y z : V) : cutV [x, y, z] none (some 2) = [x, y] := by
  unfold cutV
  rw [show (some (2 : Int)) = some ((2 : Nat) : Int) from rfl, HT.sIx_nat, HT.sIx_none]
  rfl
theorem cut2_not (x y z : V) : ¬ (HT.sIx [x, y, z].length 0 none = 0 ∧ HT.sIx [x, y, z].length [x, y, z].length (some 2) = [x, y, z].length) := by
  rw [show (some (2 : Int)) = some ((2 : Nat) : Int) from rfl, HT.sIx_nat]
  intro h
  exact absurd h.2 (by show ¬ (min 2 3 = 3); decide)
def spHead (K : PySem.W.Frag) : Sp := fun vs H Q _ => ∃ (v : V) (nm : Str) (ch : Int), vs = [v] ∧ Dp K H v (.tuple [.str nm, .int ch]) ∧ NameOk nm ∧ (1 ≤ ch ∧ ch ≤ 9) ∧ Q (.bl true) H
theorem ca_is_deed_head (T : Txt w K mg) : Ca P w K mg base 3 "is_deed_head" (spHead K) := by
  refine ca_of (N := ["value"]) (ps := ["value"]) T.f_is_deed_head T.g_is_deed_head ⟨rfl, rfl, rfl, by decide +kernel, rfl, by decide +kernel, by decide +kernel⟩ (fun _ _ _ _ _ _ us hl => match us, hl with | [_], _ => rfl)
    (fun vs H Q E h => by obtain ⟨v, nm, ch, rfl, hv, o1, o2, q⟩ := h; rfl) (fun cdv A outer s H vs Q E hr h => ?_)
  have nd : (["value"] : List Str).Nodup := by decide +kernel
  obtain ⟨v, nm, ch, rfl, hv, o1, o2, q⟩ := h
  refine ⟨_, (pss_one (ps_ret (pe_and (pe_ca (ca_is_tuple T) hr (pa_cons (pv 0) (pa_cons pe_int pa_nil))) (pe_and (pe_ca (ca_is_name T) hr (pa_cons (pe_ix ix_tup (pv 0) pe_int (fun _ _ => rfl)) pa_nil)) (pe_one (pe_ca (ca_is_within T) hr (pa_cons (pe_ix ix_tup (pv 0) pe_int (fun _ _ => rfl)) (pa_cons pe_int (pa_cons (pe_gi T.i_MOST_CHOICES) pa_nil))))))))), ?_⟩
  obtain ⟨a, x, y, rfl, ha, hx, hy⟩ := dp2 hv
  cases dp_str hx
  cases dp_int hy
  refine ⟨_, rfl, a, _, _, rfl, ha, _, rfl, iteT ?_⟩
  refine ⟨_, rfl, _, _, _, _, rfl, rfl, ha, at0, nm, rfl, o1, _, rfl, iteT ?_⟩
  refine ⟨_, rfl, _, _, _, _, rfl, rfl, ha, at1, ch, 1, 9, rfl, ?_⟩
  rw [within_t o2]
  exact q
def spDeed (K : PySem.W.Frag) : Sp := fun vs H Q _ => ∃ (v : V) (d : Str × Int × List Row) (c : Int), vs = [v, .int c] ∧ Dp K H v (deedD d) ∧ DeedOk c d ∧ ∀ H', Same H H' → Q (.bl true) H'
theorem ca_is_deed (T : Txt w K mg) : Ca P w K mg base 51 "is_deed" (spDeed K) := by
  refine ca_of (N := ["value", "cells"]) (ps := ["value", "cells"]) T.f_is_deed T.g_is_deed ⟨rfl, rfl, rfl, by decide +kernel, rfl, by decide +kernel, by decide +kernel⟩ (fun _ _ _ _ _ _ us hl => match us, hl with | [_, _], _ => rfl)
    (fun vs H Q E h => by obtain ⟨v, d, c, rfl, hv, ok, q⟩ := h; rfl) (fun cdv A outer s H vs Q E hr h => ?_)
  have nd : (["value", "cells"] : List Str).Nodup := by decide +kernel
  obtain ⟨v, d, c, rfl, hv, ok, q⟩ := h
  refine ⟨_, (pss_one (ps_ret (pe_and (pe_ca (ca_is_tuple T) hr (pa_cons (pv 0) (pa_cons pe_int pa_nil))) (pe_and (pe_ca (ca_is_deed_head T) hr (pa_cons (pe_slice sl_tup (pv 0) po_none (po_some pe_int)) pa_nil)) (pe_one (pe_ca (ca_is_body T) hr (pa_cons (pe_ix ix_tup (pv 0) pe_int (fun _ _ => rfl)) (pa_cons (pv 1) pa_nil)))))))), ?_⟩
  obtain ⟨a, x, y, z, rfl, ha, hx, hy, hz⟩ := dp3 hv
  cases dp_str hx
  cases dp_int hy
  obtain ⟨o1, o2, o3, o4, o5⟩ := ok
  refine ⟨_, rfl, a, _, _, rfl, ha, _, rfl, iteT ?_⟩
  refine ⟨_, rfl, _, rfl, a, _, rfl, ha, cut2_not _ _ _, fun p np => ?_⟩
  rw [cut2]
  have s1 := same_new (o := .tup [.str d.1, .int d.2.1]) np
  refine ⟨_, d.1, d.2.1, rfl, .tup (.of upd_same) (.cons (.str _) (.cons (.int _) .nil)), o1, o2, _, rfl, iteT ?_⟩
  exact ⟨_, rfl, _, _, _, _, rfl, rfl, same_t s1 ha, at2, _, rfl, z, d.2.2, c, rfl, dp_same s1 hz, o3, o4, o5, fun H2 s2 => q H2 (s1.trans s2)⟩
def spDeeds (K : PySem.W.Frag) : Sp := fun vs H Q _ => ∃ (a : Addr) (xs : List V) (ds : List (Str × Int × List Row)) (c : Int), vs = [.ref a, .int c] ∧ SqL K H a xs ∧ DpAll K H xs (ds.map deedD) ∧ 1 ≤ ds.length ∧ ds.length ≤ 8 ∧ (∀ d ∈ ds, DeedOk c d) ∧ (ds.map (·.1)).Nodup ∧ ∀ H', Same H H' → Q (.bl true) H'
theorem ca_are_deeds (T : Txt w K mg) : Ca P w K mg base 52 "are_deeds" (spDeeds K) := by
  refine ca_of (N := ["deeds", "cells", "taken", "deed"]) (ps := ["deeds", "cells"]) T.f_are_deeds T.g_are_deeds ⟨rfl, rfl, rfl, by decide +kernel, rfl, by decide +kernel, by decide +kernel⟩ (fun _ _ _ _ _ _ us hl => match us, hl with | [_, _], _ => rfl)
    (fun vs H Q E h => by obtain ⟨a, xs, ds, c, rfl, ha, hxs, h1, h8, ok, nds, q⟩ := h; rfl) (fun cdv A outer s H vs Q E hr h => ?_)
  have nd : (["deeds", "cells", "taken", "deed"] : List Str).Nodup := by decide +kernel
  obtain ⟨a, xs, ds, c, rfl, ha, hxs, h1, h8, ok, nds, q⟩ := h
  have lx : xs.length = ds.length := by rw [dps_len hxs, List.length_map]
  refine ⟨_, (pss_cons (ps_if (pt_not (pt_chain op_le op_le pe_int (pe_callB call_len_seq (by rfl) T.b_len PySem.boot_len (pa_cons (pv 0) pa_nil)) (pe_gi T.i_MOST_DEEDS))) (pss_one (ps_ret pe_bl)) pss_nil)
      (pss_cons (ps_set (i := 2) nd rfl (.inl rfl) (pe_callTy0 cr_set0K (by rfl) T.b_set boot_set))
      (pss_cons (ps_for PassesOwn.never rfl (pi_list (pv 0)) (pg_name (i := 3) nd rfl (.inl rfl)) (pss_cons (ps_if (PW.pt (pw_or (pt_not (pt_val (pe_ca (ca_is_deed T) hr (pa_cons (pv 3) (pa_cons (pv 1) pa_nil))))) (pw_or1 (pt_cmpR or_sinK (pe_ix ix_tup (pv 3) pe_int (fun _ _ => rfl)) (pv 2) (by rfl))))) (pss_one (ps_ret pe_bl)) pss_nil)
      (pss_one (ps_expr (pe_saddK (pv 2) (pa_cons (pe_ix ix_tup (pv 3) pe_int (fun _ _ => rfl)) pa_nil))))))
      (pss_one (ps_ret pe_bl))))), ?_⟩
  refine ⟨_, rfl, _, _, rfl, .inl ha, _, _, rfl, rfl, _, rfl, ?_⟩
  rw [lx, decide_eq_true (show (1 : Int) ≤ (ds.length : Int) from by omega)]
  refine iteT ⟨_, _, rfl, rfl, _, rfl, ?_⟩
  rw [decide_eq_true (show (ds.length : Int) ≤ 8 from by omega)]
  refine iteF ⟨rfl, fun p np => ?_⟩
  have s0 : Same H (upd H p (SetK P w p (fun _ => false) 0)) := same_new np
  have mem : ∀ (i : Nat) (H' : Hp), But p (upd H p (SetK P w p (fun _ => false) 0)) H' → SqL K H' a xs := fun i H' bt => (show Same H H' from fun b o e => bt b o (ne_of_none e np) (s0 b o e)).seq ha
  refine ⟨_, rfl, a, rfl, ⟨_, s0.seq ha⟩, for_list (xs := xs) (fun i σ' H' => ∃ (x : Option V) (S : L2.Key → Bool) (n : Nat), σ' = [some (.ref a), some (.int c), some (.ref p), x] ∧ But p (upd H p (SetK P w p (fun _ => false) 0)) H' ∧ H' p = some (SetK P w p S n) ∧ n ≤ i ∧ ∀ k, S k = true → ∃ d ∈ ds.take i, k = Sum.inr d.1)
    ⟨none, fun _ => false, 0, rfl, fun b o _ z => z, upd_same, Nat.le_refl _, fun k e => by cases e⟩ (fun i σ' H' _ ⟨_, _, _, _, bt, _⟩ => mem i H' bt) ?_ ?_⟩
  · rintro i x σ' H' hx ⟨_, S, n, rfl, bt, hp, hn, hS⟩
    have sH : Same H H' := fun b o e => bt b o (ne_of_none e np) (s0 b o e)
    obtain ⟨d, hd, hxd⟩ := dps_get hxs hx
    obtain ⟨dd, hdd, rfl⟩ := get_mapA hd
    have hi : i < ds.length := (List.getElem?_eq_some_iff.mp hdd).1
    refine ⟨_, rfl, _, rfl, x, dd, c, rfl, dp_same sH hxd, ok dd (List.mem_of_getElem? hdd), fun H2 s2 => ⟨_, rfl, iteF ?_⟩⟩
    obtain ⟨t, y1, y2, y3, rfl, ht, e1, e2, e3⟩ := dp3 (dp_same (sH.trans s2) hxd)
    cases dp_str e1
    have hSf : S (Sum.inr dd.1) = false := by
      cases e : S (Sum.inr dd.1) with
      | false => rfl
      | true =>
        obtain ⟨d', hd', ed⟩ := hS _ e
        obtain ⟨j, hj, ej⟩ := List.mem_iff_getElem.mp hd'
        rw [List.length_take] at hj
        rw [List.getElem_take] at ej
        have n1 : (ds.map (·.1))[i]? = some dd.1 := by rw [List.getElem?_map, hdd]; rfl
        have n2 : (ds.map (·.1))[j]? = some dd.1 := by
          rw [List.getElem?_map, List.getElem?_eq_getElem (by omega : j < ds.length), ej]
          exact congrArg some (Sum.inr.inj ed).symm
        have := nd_ix nds n1 n2
        omega
    refine ⟨_, rfl, _, _, _, _, rfl, rfl, ht, at0, _, rfl, Sum.inr dd.1, p, S, n, rfl, rfl, s2 _ _ hp, _, rfl, ?_⟩
    rw [hSf]
    refine iteF ⟨_, rfl, ⟨p, S, n, rfl, s2 _ _ hp⟩, _, rfl, _, _, _, _, rfl, rfl, ht, at0, p, Sum.inr dd.1, S, n, rfl, rfl, s2 _ _ hp, (by show n + 1 < 4096; omega), ?_⟩
    refine ⟨_, _, _, rfl, fun b o hb z => ?_, upd_same, ?_, fun k e => ?_⟩
    · rw [upd_ne hb]
      exact s2 b o (bt b o hb z)
    · rw [hSf]
      show n + 1 ≤ i + 1
      omega
    · rw [take_more hdd]
      rcases Bool.or_eq_true_iff.mp e with h | h
      · obtain ⟨d', hd', e'⟩ := hS k h
        exact ⟨d', List.mem_append_left _ hd', e'⟩
      · exact ⟨dd, List.mem_append_right _ List.mem_cons_self, of_decide_eq_true h⟩
  · rintro σ' H' ⟨_, S, n, rfl, bt, hp, _⟩
    exact q H' fun b o e => bt b o (ne_of_none e np) (s0 b o e)
end

end M

set_option Elab.async false
set_option linter.all false
set_option maxRecDepth 100000
set_option maxHeartbeats 2000000
namespace M
open PySem PySem.Spec PyProof.Rows L2

/-! ### codes: no hole is left, their size -/
def FR.hd : FR → Option Str
  | .row r => some r.word
  | .unless _ _ => some "unless"
  | .on _ => some "on"
  | .rounds _ => some "rounds"
  | .round _ => some "round"
  | .hole => none
def FR.tl : FR → List PyData
  | .row r => r.prts.map Prt.d
  | .unless e p => [e.d, .int p]
  | .on p => [.int p]
  | .rounds e => [e.d]
  | .round p => [.int p]
  | .hole => []
theorem fr_d : ∀ {f : FR} {s : Str}, f.hd = some s → f.d = .tuple (.str s :: f.tl)
  | .row r, s, h => by
    cases (Option.some.inj h)
    exact row_d r
  | .hole, s, h => by cases h
  | .unless e p, s, h => by
    cases (Option.some.inj h)
    rfl
  | .on p, s, h => by
    cases (Option.some.inj h)
    rfl
  | .rounds e, s, h => by
    cases (Option.some.inj h)
    rfl
  | .round p, s, h => by
    cases (Option.some.inj h)
    rfl
/-- c' goes on from c, nothing new is a hole, n more at most -/
structure Goes (c c' : List FR) (n : Nat) : Prop where
  le : c.length ≤ c'.length
  old : ∀ i, i < c.length → c'[i]? = c[i]?
  new : ∀ i f, c.length ≤ i → c'[i]? = some f → f.hd ≠ none
  sz : c'.length ≤ c.length + n
theorem goes_one {c : List FR} {f : FR} {n : Nat} (h : f.hd ≠ none) (hn : 1 ≤ n) : Goes c (c ++ [f]) n := by
  refine ⟨by simp, fun i hi => List.getElem?_append_left hi, fun i g hi e => ?_, by simp; omega⟩
  rw [List.getElem?_append_right hi] at e
  cases q : i - c.length with
  | zero =>
    rw [q] at e
    cases (Option.some.inj e)
    exact h
  | succ m =>
    rw [q] at e
    simp at e
mutual
theorem putRow_goes : ∀ (r : Row) (c : List FR), Goes c (putRow r c) (3 * r.cl)
  | .read r k, c => goes_one (by simp [FR.hd]) (by simp [Row.cl])
  | .set k e, c => goes_one (by simp [FR.hd]) (by simp [Row.cl])
  | .swap r k e f, c => goes_one (by simp [FR.hd]) (by simp [Row.cl])
  | .keep r e, c => goes_one (by simp [FR.hd]) (by simp [Row.cl])
  | .coin r, c => goes_one (by simp [FR.hd]) (by simp [Row.cl])
  | .ans e, c => goes_one (by simp [FR.hd]) (by simp [Row.cl])
  | .iff e a b, c => by
    have g1 := putRows_goes a (c ++ [FR.hole])
    generalize h1 : putRows a (c ++ [FR.hole]) = c1 at g1
    have g2 := putRows_goes b ((c1 ++ [FR.hole]).set c.length (FR.unless e (c1.length + 1)))
    generalize h2 : putRows b ((c1 ++ [FR.hole]).set c.length (FR.unless e (c1.length + 1))) = c2 at g2
    have e0 : putRow (.iff e a b) c = c2.set c1.length (FR.on c2.length) := by
      show (putRows b (((putRows a (c ++ [FR.hole])) ++ [FR.hole]).set c.length (FR.unless e ((putRows a (c ++ [FR.hole])).length + 1)))).set (putRows a (c ++ [FR.hole])).length (FR.on (putRows b (((putRows a (c ++ [FR.hole])) ++ [FR.hole]).set c.length (FR.unless e ((putRows a (c ++ [FR.hole])).length + 1)))).length) = _
      rw [h1, h2]
    rw [e0]
    have l1 := g1.le
    have z1 := g1.sz
    have l2 := g2.le
    have z2 := g2.sz
    simp only [List.length_append, List.length_set, List.length_cons, List.length_nil] at l1 z1 l2 z2
    have ecl : Row.cl (.iff e a b) = 1 + (rowsCl a + rowsCl b) := rfl
    refine ⟨by rw [List.length_set]; omega, fun i hi => ?_, fun i f hi ef => ?_, by rw [List.length_set, ecl]; omega⟩
    · rw [List.getElem?_set_ne (by omega), g2.old i (by simp; omega), List.getElem?_set_ne (by omega), List.getElem?_append_left (by omega), g1.old i (by simp; omega), List.getElem?_append_left hi]
    · by_cases q : i = c1.length
      · subst q
        rw [List.getElem?_set_self (by omega)] at ef
        cases (Option.some.inj ef)
        simp [FR.hd]
      · rw [List.getElem?_set_ne (by omega)] at ef
        by_cases q2 : i < c1.length + 1
        · rw [g2.old i (by simp; omega)] at ef
          by_cases q3 : i = c.length
          · subst q3
            rw [List.getElem?_set_self (by simp; omega)] at ef
            cases (Option.some.inj ef)
            simp [FR.hd]
          · rw [List.getElem?_set_ne (by omega), List.getElem?_append_left (by omega)] at ef
            exact g1.new i f (by simp; omega) ef
        · exact g2.new i f (by simp; omega) ef
  | .times e a, c => by
    have g1 := putRows_goes a (c ++ [FR.rounds e, FR.hole])
    generalize h1 : putRows a (c ++ [FR.rounds e, FR.hole]) = c1 at g1
    have e0 : putRow (.times e a) c = (c1 ++ [FR.on (c.length + 1)]).set (c.length + 1) (FR.round (c1.length + 1)) := by
      show ((putRows a (c ++ [FR.rounds e, FR.hole])) ++ [FR.on (c.length + 1)]).set (c.length + 1) (FR.round ((putRows a (c ++ [FR.rounds e, FR.hole])).length + 1)) = _
      rw [h1]
    rw [e0]
    have l1 := g1.le
    have z1 := g1.sz
    simp only [List.length_append, List.length_set, List.length_cons, List.length_nil] at l1 z1
    have ecl : Row.cl (.times e a) = 1 + rowsCl a := rfl
    refine ⟨by simp; omega, fun i hi => ?_, fun i f hi ef => ?_, by simp [ecl]; omega⟩
    · rw [List.getElem?_set_ne (by omega), List.getElem?_append_left (by omega), g1.old i (by simp; omega), List.getElem?_append_left hi]
    · by_cases q : i = c.length + 1
      · subst q
        rw [List.getElem?_set_self (by simp; omega)] at ef
        cases (Option.some.inj ef)
        simp [FR.hd]
      · rw [List.getElem?_set_ne (by omega)] at ef
        by_cases q2 : i < c1.length
        · rw [List.getElem?_append_left q2] at ef
          by_cases q3 : i = c.length
          · subst q3
            rw [g1.old _ (by simp), List.getElem?_append_right (Nat.le_refl _), Nat.sub_self] at ef
            cases (Option.some.inj ef)
            simp [FR.hd]
          · exact g1.new i f (by simp; omega) ef
        · rw [List.getElem?_append_right (by omega)] at ef
          cases q4 : i - c1.length with
          | zero =>
            rw [q4] at ef
            cases (Option.some.inj ef)
            simp [FR.hd]
          | succ m =>
            rw [q4] at ef
            simp at ef
theorem putRows_goes : ∀ (rs : List Row) (c : List FR), Goes c (putRows rs c) (3 * rowsCl rs)
  | [], c => ⟨Nat.le_refl _, fun _ _ => rfl, fun i f hi e => by
    have := (List.getElem?_eq_some_iff.mp e).1
    change i < c.length at this
    omega, Nat.le_add_right _ _⟩
  | r :: rs, c => by
    have g1 := putRow_goes r c
    have g2 := putRows_goes rs (putRow r c)
    have ecl : rowsCl (r :: rs) = r.cl + rowsCl rs := rfl
    have l1 := g1.le
    have z1 := g1.sz
    have l2 := g2.le
    have z2 := g2.sz
    refine ⟨by show c.length ≤ (putRows rs (putRow r c)).length; omega, fun i hi => ?_, fun i f hi e => ?_, by show (putRows rs (putRow r c)).length ≤ _; rw [ecl]; omega⟩
    · show (putRows rs (putRow r c))[i]? = _
      rw [g2.old i (by omega), g1.old i hi]
    · change (putRows rs (putRow r c))[i]? = some f at e
      by_cases q : i < (putRow r c).length
      · rw [g2.old i q] at e
        exact g1.new i f hi e
      · exact g2.new i f (by omega) e
end
theorem code_hd {rows : List Row} {f : FR} (h : f ∈ codeOf rows) : ∃ s, f.hd = some s := by
  have g := putRows_goes rows []
  have : f.hd ≠ none := by
    rcases List.mem_append.mp h with h | h
    · obtain ⟨i, hi, e⟩ := List.mem_iff_getElem.mp h
      exact g.new i f (Nat.zero_le _) (by rw [List.getElem?_eq_getElem hi, e])
    · rw [List.mem_singleton.mp h]
      simp [FR.hd]
  cases q : f.hd with
  | none => exact absurd q this
  | some s => exact ⟨s, rfl⟩
theorem code_len (rows : List Row) : (codeOf rows).length ≤ 3 * rowsCl rows + 1 := by
  have g := (putRows_goes rows []).sz
  simp [codeOf] at g ⊢
  omega

end M

set_option Elab.async false
set_option linter.all false
set_option maxRecDepth 100000
set_option maxHeartbeats 2000000
namespace M
open PySem PySem.Spec PyProof.Rows L2

theorem putRows_snoc : ∀ (as : List Row) (r : Row) (c : List FR), putRows (as ++ [r]) c = putRow r (putRows as c)
  | [], r, c => rfl
  | a :: as, r, c => putRows_snoc as r (putRow a c)
theorem frs_noL (c : List FR) : ∀ d ∈ c.map FR.d, NoL d := fun d h => by
  obtain ⟨f, _, rfl⟩ := List.mem_map.mp h
  exact f.noL
theorem rowsCl_take {rs : List Row} {i : Nat} {r : Row} (h : rs[i]? = some r) : rowsCl (rs.take i) + r.cl ≤ rowsCl rs := by
  rw [rowsCl_sum, rowsCl_sum, List.map_take]
  have e : ((rs.map Row.cl)[i]?) = some r.cl := by rw [List.getElem?_map, h]; rfl
  have := sumN_take e
  have := sumN_le (rs.map Row.cl) (i + 1)
  omega
theorem word_if {r : Row} (h : r.word = "if") : ∃ e a b, r = .iff e a b := by
  cases r with
  | read r c => exact absurd (show ("read" : Str) = "if" from h) (by decide +kernel)
  | set c e => exact absurd (show ("set" : Str) = "if" from h) (by decide +kernel)
  | swap r c e f => exact absurd (show ("swap" : Str) = "if" from h) (by decide +kernel)
  | keep r e => exact absurd (show ("keep" : Str) = "if" from h) (by decide +kernel)
  | coin r => exact absurd (show ("coin" : Str) = "if" from h) (by decide +kernel)
  | iff e a b => exact ⟨e, a, b, rfl⟩
  | times e a => exact absurd (show ("times" : Str) = "if" from h) (by decide +kernel)
  | ans e => exact absurd (show ("answer" : Str) = "if" from h) (by decide +kernel)
theorem putRow_plain {r : Row} (c : List FR) (h1 : r.word ≠ "if") (h2 : r.word ≠ "times") : putRow r c = c ++ [.row r] := by
  cases r <;> first | rfl | exact absurd rfl h1 | exact absurd rfl h2
section
variable {P : Program} {w : World} {K : PySem.W.Frag} {mg : Str → Option Value} {base : Heap}
/-- what put_rows and its kin leave: the list goes on -/
abbrev PutQ (K : PySem.W.Frag) (H : Hp) (l : Addr) (c' : List FR) (Q : VK) : Prop := ∀ H' ys', But l H H' → H' l = some (.lst ys') → DpAll K H' ys' (c'.map FR.d) → Q .non H'
def spPuts (K : PySem.W.Frag) : Nat → Sp
  | 0 => fun _ _ _ _ => False
  | n + 1 => fun vs H Q _ => ∃ (l : Addr) (v : V) (ys : List V) (c : List FR) (rs : List Row) (k : Int) (deep loops : Nat), vs = [.ref l, v] ∧ H l = some (.lst ys) ∧ DpAll K H ys (c.map FR.d) ∧ Dp K H v (.tuple (rowsD rs)) ∧ rowsOk k deep loops rs ∧ 14 ≤ deep + (n + 1) ∧ c.length + 3 * rowsCl rs ≤ 90000 ∧ PutQ K H l (putRows rs c) Q
def spPut1 (K : PySem.W.Frag) (n : Nat) (wd : Str) : Sp := fun vs H Q _ => ∃ (l : Addr) (v : V) (ys : List V) (c : List FR) (r : Row) (k : Int) (deep loops : Nat), vs = [.ref l, v] ∧ H l = some (.lst ys) ∧ DpAll K H ys (c.map FR.d) ∧ Dp K H v r.d ∧ r.word = wd ∧ (r.ok k deep loops ∧ deep ≤ 12) ∧ 14 ≤ deep + (n + 1) ∧ c.length + 3 * r.cl ≤ 90000 ∧ PutQ K H l (putRow r c) Q
theorem ca_put_if {n : Nat} (R : Ca P w K mg base (2 * n + 1) "put_rows" (spPuts K n)) (T : Txt w K mg) : Ca P w K mg base (2 * n + 2) "put_if" (spPut1 K n "if") := by
    refine ca_of (N := ["code", "row", "test", "over"]) (ps := ["code", "row"]) T.f_put_if T.g_put_if ⟨rfl, rfl, rfl, by decide +kernel, rfl, by decide +kernel, by decide +kernel⟩ (fun _ _ _ _ _ _ us hl => match us, hl with | [_, _], _ => rfl)
      (fun vs H Q E h => by obtain ⟨l, v, ys, c, r, k, deep, loops, rfl, hl, hys, hv, hw, ⟨ok, hd⟩, hn, hz, q⟩ := h; rfl) (fun cdv A outer s H vs Q E hr h => ?_)
    have nd : (["code", "row", "test", "over"] : List Str).Nodup := by decide +kernel
    obtain ⟨l, v, ys, c, r, k, deep, loops, rfl, hl, hys, hv, hw, ⟨ok, hd⟩, hn, hz, q⟩ := h
    obtain ⟨e, a, b, rfl⟩ := word_if hw
    obtain ⟨m, rfl⟩ : ∃ m, n = m + 1 := ⟨n - 1, by omega⟩
    have ok : e.good ∧ rowsOk k (deep + 1) loops a ∧ rowsOk k (deep + 1) loops b := ok
    have hz : c.length + 3 * (1 + (rowsCl a + rowsCl b)) ≤ 90000 := hz
    have nl : NoL (Row.iff e a b).d := Row.noL _
    obtain ⟨ra, xs, rfl, hra, hxs⟩ := dp_tup hv
    obtain ⟨x0, x1, x2, x3, rfl, h0, h1, h2, h3⟩ : ∃ x0 x1 x2 x3, xs = [x0, x1, x2, x3] ∧ Dp K H x0 (.str "if") ∧ Dp K H x1 e.d ∧ Dp K H x2 (.tuple (rowsD a)) ∧ Dp K H x3 (.tuple (rowsD b)) := by
      cases hxs with | cons h0 hr => cases hr with | cons h1 hr => cases hr with | cons h2 hr => cases hr with | cons h3 hr => cases hr with | nil => exact ⟨_, _, _, _, rfl, h0, h1, h2, h3⟩
    refine ⟨_, (pss_cons (ps_set (i := 2) nd rfl (.inl rfl) (pe_callB call_len_seq (by rfl) T.b_len PySem.boot_len (pa_cons (pv 0) pa_nil)))
      (pss_cons (ps_expr (pe_bm PySem.F.plainAttrs_list PySem.F.slot_list_append PySem.F.type_list_append mt_append (pv 0) (pa_cons (pe_tup pa_nil) pa_nil)))
      (pss_cons (ps_expr (pe_ca R hr (pa_cons (pv 0) (pa_cons (pe_ix ix_tup (pv 1) pe_int (fun _ _ => rfl)) pa_nil)) (by omega)))
      (pss_cons (ps_set (i := 3) nd rfl (.inl rfl) (pe_callB call_len_seq (by rfl) T.b_len PySem.boot_len (pa_cons (pv 0) pa_nil)))
      (pss_cons (ps_expr (pe_bm PySem.F.plainAttrs_list PySem.F.slot_list_append PySem.F.type_list_append mt_append (pv 0) (pa_cons (pe_tup pa_nil) pa_nil)))
      (pss_cons (ps_asg (pe_tup (pa_cons pe_str (pa_cons (pe_ix ix_tup (pv 1) pe_int (fun _ _ => rfl)) (pa_cons (pe_callB call_len_seq (by rfl) T.b_len PySem.boot_len (pa_cons (pv 0) pa_nil)) pa_nil)))) (pg_sub (pv 0) (pv 2) set_list))
      (pss_cons (ps_expr (pe_ca R hr (pa_cons (pv 0) (pa_cons (pe_ix ix_tup (pv 1) pe_int (fun _ _ => rfl)) pa_nil)) (by omega)))
      (pss_one (ps_asg (pe_tup (pa_cons pe_str (pa_cons (pe_callB call_len_seq (by rfl) T.b_len PySem.boot_len (pa_cons (pv 0) pa_nil)) pa_nil))) (pg_sub (pv 0) (pv 3) set_list)))))))))), ?_⟩
    have lys : ys.length = c.length := by rw [dps_len hys, List.length_map]
    have g1 := putRows_goes a (c ++ [FR.hole])
    have z1 := g1.sz
    simp only [List.length_append, List.length_cons, List.length_nil] at z1
    -- test = len(code); code.append(())
    refine ⟨_, rfl, _, _, rfl, .inl (.of hl), _, rfl, .inl ⟨rfl, _, .of hl⟩, (by show 0 ≤ sizeLine; exact Nat.zero_le _), fun t nt => ?_⟩
    have nlt : l ≠ t := ne_of_none hl nt
    have s1 : Same H (upd H t (.tup [])) := same_new nt
    refine ⟨l, ys, _, rfl, rfl, s1 _ _ hl, by rw [sizeLine_eq]; omega, ?_⟩
    -- put_rows(code, row[2])
    have b1 : But l H (upd (upd H t (.tup [])) l (.lst (ys ++ [.ref t]))) := (same_but s1).trans But.upd
    have ch : Ch H l := .lst hl
    have d1 : DpAll K (upd (upd H t (.tup [])) l (.lst (ys ++ [.ref t]))) (ys ++ [.ref t]) ((c ++ [FR.hole]).map FR.d) := by
      rw [List.map_append]
      exact dps_app (dps_but ch b1 hys (frs_noL c)) (.cons (.tup (SqT.of (by rw [upd_ne (Ne.symm nlt), upd_same])) .nil) .nil)
    refine ⟨_, rfl, _, rfl, _, _, _, _, rfl, rfl, sqT_but ch b1 hra, at2, l, x2, _, c ++ [FR.hole], a, k, deep + 1, loops, rfl, upd_same, d1, dp_but ch b1 h2 (.tup (rows_noL a)), ok.2.1, by omega, by simp; omega, fun H2 y2 b2 hl2 d2 => ?_⟩
    generalize ec1 : putRows a (c ++ [FR.hole]) = c1 at g1 z1 d2
    have l1 := g1.le
    simp only [List.length_append, List.length_cons, List.length_nil] at l1
    have ly2 : y2.length = c1.length := by rw [dps_len d2, List.length_map]
    have b02 : But l H H2 := b1.trans b2
    -- over = len(code); code.append(())
    refine ⟨_, rfl, _, _, rfl, .inl (.of hl2), _, rfl, .inl ⟨rfl, _, .of hl2⟩, (by show 0 ≤ sizeLine; exact Nat.zero_le _), fun t2 nt2 => ?_⟩
    have nlt2 : l ≠ t2 := ne_of_none hl2 nt2
    have s3 : Same H2 (upd H2 t2 (.tup [])) := same_new nt2
    refine ⟨l, y2, _, rfl, rfl, s3 _ _ hl2, by rw [sizeLine_eq]; omega, ?_⟩
    have b3 : But l H2 (upd (upd H2 t2 (.tup [])) l (.lst (y2 ++ [.ref t2]))) := (same_but s3).trans But.upd
    have ch2 : Ch H2 l := .lst hl2
    have d3 : DpAll K (upd (upd H2 t2 (.tup [])) l (.lst (y2 ++ [.ref t2]))) (y2 ++ [.ref t2]) ((c1 ++ [FR.hole]).map FR.d) := by
      rw [List.map_append]
      exact dps_app (dps_but ch2 b3 d2 (frs_noL c1)) (.cons (.tup (SqT.of (by rw [upd_ne (Ne.symm nlt2), upd_same])) .nil) .nil)
    have b03 := b02.trans b3
    generalize eH3 : upd (upd H2 t2 (.tup [])) l (.lst (y2 ++ [.ref t2])) = H3 at b3 d3 b03
    have hl3 : H3 l = some (.lst (y2 ++ [.ref t2])) := by rw [← eH3, upd_same]
    -- code[test] = ("unless", row[1], len(code))
    refine ⟨_, rfl, _, _, _, _, rfl, rfl, sqT_but ch b03 hra, at1, _, rfl, _, _, rfl, .inl (.of hl3), (by show 3 ≤ sizeLine; decide), fun t4 nt4 => ?_⟩
    have nlt4 : l ≠ t4 := ne_of_none hl3 nt4
    have s4 : Same H3 (upd H3 t4 (.tup [.str "unless", x1, .int ((y2 ++ [V.ref t2]).length : Nat)])) := same_new nt4
    refine ⟨_, rfl, _, rfl, l, _, _, c.length, rfl, rfl, s4 _ _ hl3, by rw [lys]; exact Evl.ixN_nat (by simp; omega), ?_⟩
    have ch3 : Ch H3 l := .lst hl3
    have b4 := (same_but s4 (D := l)).trans (But.upd (H := upd H3 t4 (.tup [.str "unless", x1, .int ((y2 ++ [V.ref t2]).length : Nat)])) (o := .lst ((y2 ++ [V.ref t2]).set c.length (V.ref t4))))
    have d4 : DpAll K (upd (upd H3 t4 (.tup [.str "unless", x1, .int ((y2 ++ [V.ref t2]).length : Nat)])) l (.lst ((y2 ++ [V.ref t2]).set c.length (V.ref t4)))) ((y2 ++ [V.ref t2]).set c.length (V.ref t4)) (((c1 ++ [FR.hole]).set c.length (FR.unless e (c1.length + 1))).map FR.d) := by
      rw [List.map_set]
      refine dps_set (dps_but ch3 b4 d3 (frs_noL _)) (.tup (SqT.of (by rw [upd_ne (Ne.symm nlt4), upd_same])) (.cons (.str _) (.cons (dp_but ch (b03.trans b4) h1 e.noL) (.cons ?_ .nil))))
      rw [show ((y2 ++ [V.ref t2]).length : Nat) = c1.length + 1 from by simp [ly2]]
      exact .int _
    have b04 := b03.trans b4
    -- put_rows(code, row[3])
    have g2 := putRows_goes b ((c1 ++ [FR.hole]).set c.length (FR.unless e (c1.length + 1)))
    have z2 := g2.sz
    simp only [List.length_append, List.length_set, List.length_cons, List.length_nil] at z2
    refine ⟨_, rfl, _, rfl, _, _, _, _, rfl, rfl, sqT_but ch b04 hra, at3, l, x3, _, (c1 ++ [FR.hole]).set c.length (FR.unless e (c1.length + 1)), b, k, deep + 1, loops, rfl, upd_same, d4, dp_but ch b04 h3 (.tup (rows_noL b)), ok.2.2, by omega, by simp; omega, fun H5 y5 b5 hl5 d5 => ?_⟩
    generalize ec2 : putRows b ((c1 ++ [FR.hole]).set c.length (FR.unless e (c1.length + 1))) = c2 at g2 z2 d5
    have l2 := g2.le
    simp only [List.length_append, List.length_set, List.length_cons, List.length_nil] at l2
    have ly5 : y5.length = c2.length := by rw [dps_len d5, List.length_map]
    have b05 := b04.trans b5
    -- code[over] = ("on", len(code))
    refine ⟨_, rfl, _, _, rfl, .inl (.of hl5), (by show 2 ≤ sizeLine; decide), fun t6 nt6 => ?_⟩
    have nlt6 : l ≠ t6 := ne_of_none hl5 nt6
    have s6 : Same H5 (upd H5 t6 (.tup [.str "on", .int (y5.length : Nat)])) := same_new nt6
    refine ⟨_, rfl, _, rfl, l, _, _, c1.length, rfl, rfl, s6 _ _ hl5, by rw [ly2]; exact Evl.ixN_nat (by omega), ?_⟩
    have b6 := (same_but s6 (D := l)).trans (But.upd (H := upd H5 t6 (.tup [.str "on", .int (y5.length : Nat)])) (o := .lst (y5.set c1.length (.ref t6))))
    refine q _ _ (b05.trans b6) upd_same ?_
    have e0 : putRow (.iff e a b) c = c2.set c1.length (FR.on c2.length) := by
      show (putRows b (((putRows a (c ++ [FR.hole])) ++ [FR.hole]).set c.length (FR.unless e ((putRows a (c ++ [FR.hole])).length + 1)))).set (putRows a (c ++ [FR.hole])).length (FR.on (putRows b (((putRows a (c ++ [FR.hole])) ++ [FR.hole]).set c.length (FR.unless e ((putRows a (c ++ [FR.hole])).length + 1)))).length) = _
      rw [ec1, ec2]
    rw [e0, List.map_set]
    refine dps_set (dps_but (.lst hl5) b6 d5 (frs_noL _)) (.tup (SqT.of (by rw [upd_ne (Ne.symm nlt6), upd_same])) (.cons (.str _) (.cons ?_ .nil)))
    rw [ly5]
    exact .int _
end

end M

set_option Elab.async false
set_option linter.all false
set_option maxRecDepth 100000
set_option maxHeartbeats 2000000
namespace M
open PySem PySem.Spec PyProof.Rows L2

section
variable {P : Program} {w : World} {K : PySem.W.Frag} {mg : Str → Option Value} {base : Heap}
theorem ca_put_times {n : Nat} (R : Ca P w K mg base (2 * n + 1) "put_rows" (spPuts K n)) (T : Txt w K mg) : Ca P w K mg base (2 * n + 2) "put_times" (spPut1 K n "times") := by
    refine ca_of (N := ["code", "row", "top"]) (ps := ["code", "row"]) T.f_put_times T.g_put_times ⟨rfl, rfl, rfl, by decide +kernel, rfl, by decide +kernel, by decide +kernel⟩ (fun _ _ _ _ _ _ us hl => match us, hl with | [_, _], _ => rfl)
      (fun vs H Q E h => by obtain ⟨l, v, ys, c, r, k, deep, loops, rfl, hl, hys, hv, hw, ⟨ok, hd⟩, hn, hz, q⟩ := h; rfl) (fun cdv A outer s H vs Q E hr h => ?_)
    have nd : (["code", "row", "top"] : List Str).Nodup := by decide +kernel
    obtain ⟨l, v, ys, c, r, k, deep, loops, rfl, hl, hys, hv, hw, ⟨ok, hd⟩, hn, hz, q⟩ := h
    obtain ⟨e, a, rfl⟩ := word_times hw
    obtain ⟨m, rfl⟩ : ∃ m, n = m + 1 := ⟨n - 1, by omega⟩
    have ok : e.good ∧ loops < 2 ∧ rowsOk k (deep + 1) (loops + 1) a := ok
    have hz : c.length + 3 * (1 + rowsCl a) ≤ 90000 := hz
    obtain ⟨ra, x0, x1, x2, rfl, hra, h0, h1, h2⟩ := dp3 hv
    refine ⟨_, (pss_cons (ps_expr (pe_bm PySem.F.plainAttrs_list PySem.F.slot_list_append PySem.F.type_list_append mt_append (pv 0) (pa_cons (pe_tup (pa_cons pe_str (pa_cons (pe_ix ix_tup (pv 1) pe_int (fun _ _ => rfl)) pa_nil))) pa_nil)))
      (pss_cons (ps_set (i := 2) nd rfl (.inl rfl) (pe_callB call_len_seq (by rfl) T.b_len PySem.boot_len (pa_cons (pv 0) pa_nil)))
      (pss_cons (ps_expr (pe_bm PySem.F.plainAttrs_list PySem.F.slot_list_append PySem.F.type_list_append mt_append (pv 0) (pa_cons (pe_tup pa_nil) pa_nil)))
      (pss_cons (ps_expr (pe_ca R hr (pa_cons (pv 0) (pa_cons (pe_ix ix_tup (pv 1) pe_int (fun _ _ => rfl)) pa_nil)) (by omega)))
      (pss_cons (ps_expr (pe_bm PySem.F.plainAttrs_list PySem.F.slot_list_append PySem.F.type_list_append mt_append (pv 0) (pa_cons (pe_tup (pa_cons pe_str (pa_cons (pv 2) pa_nil))) pa_nil)))
      (pss_one (ps_asg (pe_tup (pa_cons pe_str (pa_cons (pe_callB call_len_seq (by rfl) T.b_len PySem.boot_len (pa_cons (pv 0) pa_nil)) pa_nil))) (pg_sub (pv 0) (pv 2) set_list)))))))), ?_⟩
    have lys : ys.length = c.length := by rw [dps_len hys, List.length_map]
    have g1 := putRows_goes a (c ++ [FR.rounds e, FR.hole])
    have z1 := g1.sz
    simp only [List.length_append, List.length_cons, List.length_nil] at z1
    have ch : Ch H l := .lst hl
    -- code.append(("rounds", row[1]))
    refine ⟨_, rfl, .inl ⟨rfl, _, .of hl⟩, _, rfl, _, _, _, _, rfl, rfl, hra, at1, (by show 2 ≤ sizeLine; decide), fun t nt => ?_⟩
    have nlt : l ≠ t := ne_of_none hl nt
    have s1 : Same H (upd H t (.tup [.str "rounds", x1])) := same_new nt
    refine ⟨l, ys, _, rfl, rfl, s1 _ _ hl, by rw [sizeLine_eq]; omega, ?_⟩
    have b1 := (same_but s1 (D := l)).trans (But.upd (H := upd H t (.tup [.str "rounds", x1])) (o := .lst (ys ++ [V.ref t])))
    have d1 : DpAll K (upd (upd H t (.tup [.str "rounds", x1])) l (.lst (ys ++ [V.ref t]))) (ys ++ [V.ref t]) ((c ++ [FR.rounds e]).map FR.d) := by
      rw [List.map_append]
      exact dps_app (dps_but ch b1 hys (frs_noL c)) (.cons (.tup (SqT.of (by rw [upd_ne (Ne.symm nlt), upd_same])) (.cons (.str _) (.cons (dp_but ch b1 h1 e.noL) .nil))) .nil)
    generalize eH1 : upd (upd H t (.tup [.str "rounds", x1])) l (.lst (ys ++ [V.ref t])) = H1 at b1 d1
    have hl1 : H1 l = some (.lst (ys ++ [V.ref t])) := by rw [← eH1, upd_same]
    -- top = len(code); code.append(())
    refine ⟨_, rfl, _, _, rfl, .inl (.of hl1), _, rfl, .inl ⟨rfl, _, .of hl1⟩, (by show 0 ≤ sizeLine; exact Nat.zero_le _), fun t2 nt2 => ?_⟩
    have nlt2 : l ≠ t2 := ne_of_none hl1 nt2
    have s2 : Same H1 (upd H1 t2 (.tup [])) := same_new nt2
    refine ⟨l, _, _, rfl, rfl, s2 _ _ hl1, by rw [sizeLine_eq]; simp; omega, ?_⟩
    have b2 := (same_but s2 (D := l)).trans (But.upd (H := upd H1 t2 (.tup [])) (o := .lst (ys ++ [V.ref t] ++ [V.ref t2])))
    have d2 : DpAll K (upd (upd H1 t2 (.tup [])) l (.lst (ys ++ [V.ref t] ++ [V.ref t2]))) (ys ++ [V.ref t] ++ [V.ref t2]) ((c ++ [FR.rounds e, FR.hole]).map FR.d) := by
      rw [show c ++ [FR.rounds e, FR.hole] = (c ++ [FR.rounds e]) ++ [FR.hole] from by simp, List.map_append]
      exact dps_app (dps_but (.lst hl1) b2 d1 (frs_noL _)) (.cons (.tup (SqT.of (by rw [upd_ne (Ne.symm nlt2), upd_same])) .nil) .nil)
    have b02 := b1.trans b2
    -- put_rows(code, row[2])
    refine ⟨_, rfl, _, rfl, _, _, _, _, rfl, rfl, sqT_but ch b02 hra, at2, l, x2, _, c ++ [FR.rounds e, FR.hole], a, k, deep + 1, loops + 1, rfl, upd_same, d2, dp_but ch b02 h2 (.tup (rows_noL a)), ok.2.2, by omega, by simp; omega, fun H3 y3 b3 hl3 d3 => ?_⟩
    generalize ec1 : putRows a (c ++ [FR.rounds e, FR.hole]) = c1 at g1 z1 d3
    have l1 := g1.le
    simp only [List.length_append, List.length_cons, List.length_nil] at l1
    have ly3 : y3.length = c1.length := by rw [dps_len d3, List.length_map]
    have b03 := b02.trans b3
    -- code.append(("on", top))
    refine ⟨_, rfl, .inl ⟨rfl, _, .of hl3⟩, _, rfl, (by show 2 ≤ sizeLine; decide), fun t4 nt4 => ?_⟩
    have nlt4 : l ≠ t4 := ne_of_none hl3 nt4
    have s4 : Same H3 (upd H3 t4 (.tup [.str "on", .int ((ys ++ [V.ref t]).length : Nat)])) := same_new nt4
    refine ⟨l, y3, _, rfl, rfl, s4 _ _ hl3, by rw [sizeLine_eq]; omega, ?_⟩
    have b4 := (same_but s4 (D := l)).trans (But.upd (H := upd H3 t4 (.tup [.str "on", .int ((ys ++ [V.ref t]).length : Nat)])) (o := .lst (y3 ++ [V.ref t4])))
    have d4 : DpAll K (upd (upd H3 t4 (.tup [.str "on", .int ((ys ++ [V.ref t]).length : Nat)])) l (.lst (y3 ++ [V.ref t4]))) (y3 ++ [V.ref t4]) ((c1 ++ [FR.on (c.length + 1)]).map FR.d) := by
      rw [List.map_append]
      refine dps_app (dps_but (.lst hl3) b4 d3 (frs_noL _)) (.cons (.tup (SqT.of (by rw [upd_ne (Ne.symm nlt4), upd_same])) (.cons (.str _) (.cons ?_ .nil))) .nil)
      rw [show ((ys ++ [V.ref t]).length : Nat) = c.length + 1 from by simp [lys]]
      exact .int _
    generalize eH4 : upd (upd H3 t4 (.tup [.str "on", .int ((ys ++ [V.ref t]).length : Nat)])) l (.lst (y3 ++ [V.ref t4])) = H4 at b4 d4
    have hl4 : H4 l = some (.lst (y3 ++ [V.ref t4])) := by rw [← eH4, upd_same]
    have b04 := b03.trans b4
    -- code[top] = ("round", len(code))
    refine ⟨_, rfl, _, _, rfl, .inl (.of hl4), (by show 2 ≤ sizeLine; decide), fun t6 nt6 => ?_⟩
    have nlt6 : l ≠ t6 := ne_of_none hl4 nt6
    have s6 : Same H4 (upd H4 t6 (.tup [.str "round", .int ((y3 ++ [V.ref t4]).length : Nat)])) := same_new nt6
    refine ⟨_, rfl, _, rfl, l, _, _, c.length + 1, rfl, rfl, s6 _ _ hl4, by rw [show ((ys ++ [V.ref t]).length : Nat) = c.length + 1 from by simp [lys]]; exact Evl.ixN_nat (by simp; omega), ?_⟩
    have b6 := (same_but s6 (D := l)).trans (But.upd (H := upd H4 t6 (.tup [.str "round", .int ((y3 ++ [V.ref t4]).length : Nat)])) (o := .lst ((y3 ++ [V.ref t4]).set (c.length + 1) (V.ref t6))))
    refine q _ _ (b04.trans b6) upd_same ?_
    have e0 : putRow (.times e a) c = (c1 ++ [FR.on (c.length + 1)]).set (c.length + 1) (FR.round (c1.length + 1)) := by
      show ((putRows a (c ++ [FR.rounds e, FR.hole])) ++ [FR.on (c.length + 1)]).set (c.length + 1) (FR.round ((putRows a (c ++ [FR.rounds e, FR.hole])).length + 1)) = _
      rw [ec1]
    rw [e0, List.map_set]
    refine dps_set (dps_but (.lst hl4) b6 d4 (frs_noL _)) (.tup (SqT.of (by rw [upd_ne (Ne.symm nlt6), upd_same])) (.cons (.str _) (.cons ?_ .nil)))
    rw [show ((y3 ++ [V.ref t4]).length : Nat) = c1.length + 1 from by simp [ly3]]
    exact .int _
theorem ca_put_rows1 {n : Nat} (RI : Ca P w K mg base (2 * n + 2) "put_if" (spPut1 K n "if")) (RT : Ca P w K mg base (2 * n + 2) "put_times" (spPut1 K n "times")) (T : Txt w K mg) : Ca P w K mg base (2 * n + 3) "put_rows" (spPuts K (n + 1)) := by
    refine ca_of (N := ["code", "rows", "row"]) (ps := ["code", "rows"]) T.f_put_rows T.g_put_rows ⟨rfl, rfl, rfl, by decide +kernel, rfl, by decide +kernel, by decide +kernel⟩ (fun _ _ _ _ _ _ us hl => match us, hl with | [_, _], _ => rfl)
      (fun vs H Q E h => by obtain ⟨l, v, ys, c, rs, k, deep, loops, rfl, hl, hys, hv, ok, hn, hz, q⟩ := h; rfl) (fun cdv A outer s H vs Q E hr h => ?_)
    have nd : (["code", "rows", "row"] : List Str).Nodup := by decide +kernel
    obtain ⟨l, v, ys, c, rs, k, deep, loops, rfl, hl, hys, hv, ok, hn, hz, q⟩ := h
    obtain ⟨a, xs, rfl, ha, hxs⟩ := dp_tup hv
    have lxs : xs.length = rs.length := by rw [dps_len hxs, rowsD_map, List.length_map]
    refine ⟨_, (pss_one (ps_for PassesOwn.never rfl (pi_tup (pv 1)) (pg_name (i := 2) nd rfl (.inl rfl)) (pss_one (ps_if (pt_cmpR op_eq (pe_ix ix_tup (pv 2) pe_int (fun _ _ => rfl)) pe_str (nomark _)) (pss_one (ps_expr (pe_ca RI hr (pa_cons (pv 0) (pa_cons (pv 2) pa_nil)) (by omega)))) (pss_one (ps_if (pt_cmpR op_eq (pe_ix ix_tup (pv 2) pe_int (fun _ _ => rfl)) pe_str (nomark _)) (pss_one (ps_expr (pe_ca RT hr (pa_cons (pv 0) (pa_cons (pv 2) pa_nil)) (by omega)))) (pss_one (ps_expr (pe_bm PySem.F.plainAttrs_list PySem.F.slot_list_append PySem.F.type_list_append mt_append (pv 0) (pa_cons (pv 2) pa_nil)))))))))), ?_⟩
    have ch : Ch H l := .lst hl
    refine ⟨_, rfl, a, rfl, ⟨_, ha⟩, for_tup (xs := xs) (fun i σ' H' => ∃ x y', σ' = [some (.ref l), some (.ref a), x] ∧ But l H H' ∧ H' l = some (.lst y') ∧ DpAll K H' y' ((putRows (rs.take i) c).map FR.d)) ⟨none, ys, rfl, fun b o _ z => z, hl, hys⟩ (fun i σ' H' _ ⟨_, _, _, bt, _⟩ => sqT_but ch bt ha) ?_ ?_⟩
    · rintro i x σ' H' hx ⟨_, y', rfl, bt, hl', hy'⟩
      obtain ⟨dd, hdd, hxd⟩ := dps_get hxs hx
      rw [rowsD_map] at hdd
      obtain ⟨r, hr', rfl⟩ := get_mapA hdd
      have okr := rowsOkAt ok r (List.mem_of_getElem? hr')
      have szt := rowsCl_take hr'
      have gz := (putRows_goes (rs.take i) c).sz
      have ly' : y'.length = (putRows (rs.take i) c).length := by rw [dps_len hy', List.length_map]
      have hx2 : Dp K H' x r.d := dp_but ch bt hxd r.noL
      have r1 : 1 ≤ r.cl := by rw [row_cl]; omega
      have nxt : ∀ H3 y3, But l H' H3 → H3 l = some (.lst y3) → DpAll K H3 y3 ((putRow r (putRows (rs.take i) c)).map FR.d) → ∃ x' y', [some (.ref l), some (.ref a), some x] = [some (.ref l), some (.ref a), x'] ∧ But l H H3 ∧ H3 l = some (.lst y') ∧ DpAll K H3 y' ((putRows (rs.take (i + 1)) c).map FR.d) := fun H3 y3 b3 h3 d3 => ⟨_, y3, rfl, bt.trans b3, h3, by rw [take_more hr', putRows_snoc]; exact d3⟩
      have hv' := hx2
      rw [row_d] at hx2
      obtain ⟨ra, zs, rfl, hra, hzs⟩ := dp_tup hx2
      obtain ⟨z0, zr, rfl, h0, hzr⟩ : ∃ y ys, zs = y :: ys ∧ Dp K H' y (.str r.word) ∧ DpAll K H' ys (r.prts.map Prt.d) := by
        cases hzs with | cons h1 h2 => exact ⟨_, _, rfl, h1, h2⟩
      cases dp_str h0
      refine ⟨_, rfl, _, _, _, _, rfl, rfl, hra, at0, rfl, _, rfl, ?_⟩
      by_cases e1 : r.word = "if"
      · rw [e1]
        exact iteT ⟨_, rfl, _, rfl, l, _, y', _, r, k, deep, loops, rfl, hl', hy', hv', e1, ⟨okr.2, okr.1⟩, hn, by omega, fun H3 y3 b3 h3 d3 => nxt H3 y3 b3 h3 d3⟩
      · rw [decide_eq_false (show ¬ V.str r.word = V.str "if" from fun z => e1 (V.str.inj z))]
        refine iteF ⟨_, rfl, _, _, _, _, rfl, rfl, hra, at0, rfl, _, rfl, ?_⟩
        by_cases e2 : r.word = "times"
        · rw [e2]
          exact iteT ⟨_, rfl, _, rfl, l, _, y', _, r, k, deep, loops, rfl, hl', hy', hv', e2, ⟨okr.2, okr.1⟩, hn, by omega, fun H3 y3 b3 h3 d3 => nxt H3 y3 b3 h3 d3⟩
        · rw [decide_eq_false (show ¬ V.str r.word = V.str "times" from fun z => e2 (V.str.inj z))]
          refine iteF ⟨_, rfl, .inl ⟨rfl, _, .of hl'⟩, _, rfl, l, y', _, rfl, rfl, hl', by rw [sizeLine_eq]; omega, ?_⟩
          refine nxt _ _ But.upd upd_same ?_
          rw [putRow_plain _ e1 e2, List.map_append]
          exact dps_app (dps_but (.lst hl') But.upd hy' (frs_noL _)) (.cons (dp_but (.lst hl') But.upd hv' r.noL) .nil)
    · rintro σ' H' ⟨_, y', rfl, bt, hl', hy'⟩
      rw [lxs, List.take_length] at hy'
      exact q H' y' bt hl' hy'
theorem ca_put_rows (T : Txt w K mg) : ∀ n, Ca P w K mg base (2 * n + 1) "put_rows" (spPuts K n)
  | 0 => ca_false (ps := ["code", "rows"]) T.f_put_rows T.g_put_rows (fun _ _ _ _ _ _ us hl => match us, hl with | [_, _], _ => rfl)
  | n + 1 => ca_put_rows1 (ca_put_if (ca_put_rows T n) T) (ca_put_times (ca_put_rows T n) T) T
def spCode (K : PySem.W.Frag) : Sp := fun vs H Q _ => ∃ (v : V) (rs : List Row) (k : Int), vs = [v] ∧ Dp K H v (.tuple (rowsD rs)) ∧ rowsOk k 1 0 rs ∧ rowsCl rs ≤ 2000 ∧ ∀ H' u, Same H H' → Dp K H' u (codeD rs) → Q u H'
theorem ca_code_of (T : Txt w K mg) : Ca P w K mg base 30 "code_of" (spCode K) := by
  refine ca_of (N := ["body", "code"]) (ps := ["body"]) T.f_code_of T.g_code_of ⟨rfl, rfl, rfl, by decide +kernel, rfl, by decide +kernel, by decide +kernel⟩ (fun _ _ _ _ _ _ us hl => match us, hl with | [_], _ => rfl)
    (fun vs H Q E h => by obtain ⟨v, rs, k, rfl, hv, ok, hc, q⟩ := h; rfl) (fun cdv A outer s H vs Q E hr h => ?_)
  have nd : (["body", "code"] : List Str).Nodup := by decide +kernel
  obtain ⟨v, rs, k, rfl, hv, ok, hc, q⟩ := h
  refine ⟨_, (pss_cons (ps_set (i := 1) nd rfl (.inl rfl) (pe_lst pa_nil))
      (pss_cons (ps_expr (pe_ca (ca_put_rows T 13) hr (pa_cons (pv 1) (pa_cons (pv 0) pa_nil))))
      (pss_cons (ps_expr (pe_bm PySem.F.plainAttrs_list PySem.F.slot_list_append PySem.F.type_list_append mt_append (pv 1) (pa_cons (pe_tup (pa_cons pe_str (pa_cons pe_int pa_nil))) pa_nil)))
      (pss_one (ps_ret (pe_tupleOf (by rfl) T.b_tuple (pv 1))))))), ?_⟩
  refine ⟨(by show 0 ≤ sizeLine; exact Nat.zero_le _), fun l nl => ?_⟩
  have s0 : Same H (upd H l (.lst [])) := same_new nl
  refine ⟨_, rfl, _, rfl, l, v, [], [], rs, k, 1, 0, rfl, upd_same, .nil, dp_same s0 hv, ok, (by decide), by simp; omega, fun H1 y1 b1 h1 d1 => ?_⟩
  have gz := (putRows_goes rs []).sz
  have ly : y1.length = (putRows rs []).length := by rw [dps_len d1, List.length_map]
  refine ⟨_, rfl, .inl ⟨rfl, _, .of h1⟩, (by show 2 ≤ sizeLine; decide), fun t nt => ?_⟩
  have nlt : l ≠ t := ne_of_none h1 nt
  have s1 : Same H1 (upd H1 t (.tup [.str "answer", .int 0])) := same_new nt
  refine ⟨l, y1, _, rfl, rfl, s1 _ _ h1, by rw [sizeLine_eq]; simp at gz; omega, ?_⟩
  have b2 := (same_but s1 (D := l)).trans (But.upd (H := upd H1 t (.tup [.str "answer", .int 0])) (o := .lst (y1 ++ [V.ref t])))
  have d2 : DpAll K (upd (upd H1 t (.tup [.str "answer", .int 0])) l (.lst (y1 ++ [V.ref t]))) (y1 ++ [V.ref t]) ((codeOf rs).map FR.d) := by
    show DpAll _ _ _ ((putRows rs [] ++ [FR.row (.ans (.num 0))]).map FR.d)
    rw [List.map_append]
    exact dps_app (dps_but (.lst h1) b2 d1 (frs_noL _)) (.cons (.tup (SqT.of (by rw [upd_ne (Ne.symm nlt), upd_same])) (.cons (.str _) (.cons (.int 0) .nil))) .nil)
  refine ⟨_, rfl, .inl ⟨l, _, rfl, .of upd_same, fun p np => ?_⟩⟩
  have s3 := same_new (o := .tup (y1 ++ [V.ref t])) np
  refine q _ _ (fun b o e => ?_) (.tup (SqT.of upd_same) (dps_same s3 d2))
  refine s3 b o ?_
  have hb := ne_of_none e nl
  exact b2 b o hb (b1 b o hb (s0 b o e))
end

end M

set_option Elab.async false
set_option linter.all false
set_option maxRecDepth 100000
set_option maxHeartbeats 2000000
namespace M
open PySem PySem.Spec PyProof.Rows L2

theorem upd_id {H : Hp} {d : Addr} {u : HO} (h : H d = some u) : upd H d u = H := by
  funext b
  by_cases e : b = d
  · rw [e, upd_same, h]
  · rw [upd_ne e]
theorem codes_but {K : PySem.W.Frag} {H H' : Hp} {D : Addr} (hD : Ch H D) (s : But D H H') : ∀ {kvs : List (Key × V)} {ds : List (Str × Int × List Row)}, CodesR K H kvs ds → CodesR K H' kvs ds
  | [], [], _ => trivial
  | (_, _) :: _, _ :: _, h => ⟨h.1, dp_but hD s h.2.1 (code_noL _), codes_but hD s h.2.2⟩
  | [], _ :: _, h => h.elim
  | _ :: _, [], h => h.elim
theorem codes_at {K : PySem.W.Frag} {H : Hp} : ∀ {kvs : List (Key × V)} {ds : List (Str × Int × List Row)} {i : Nat} {p : Key × V}, CodesR K H kvs ds → kvs[i]? = some p → ∃ d, ds[i]? = some d ∧ p.1 = Sum.inr d.1 ∧ Dp K H p.2 (codeD d.2.2)
  | [], [], i, p, _, e => by simp at e
  | (k, v) :: r, d :: ds, 0, p, h, e => by
    cases (Option.some.inj e)
    exact ⟨d, rfl, h.1, h.2.1⟩
  | (k, v) :: r, d :: ds, i + 1, p, h, e => codes_at (i := i) h.2.2 e
  | [], _ :: _, _, _, h, _ => h.elim
  | _ :: _, [], _, _, h, _ => h.elim
theorem codes_len {K : PySem.W.Frag} {H : Hp} : ∀ {kvs : List (Key × V)} {ds : List (Str × Int × List Row)}, CodesR K H kvs ds → kvs.length = ds.length
  | [], [], _ => rfl
  | (_, _) :: _, _ :: _, h => congrArg (· + 1) (codes_len h.2.2)
  | [], _ :: _, h => h.elim
  | _ :: _, [], h => h.elim
theorem codes_snoc {K : PySem.W.Frag} {H : Hp} {v : V} {d : Str × Int × List Row} (hv : Dp K H v (codeD d.2.2)) : ∀ {kvs : List (Key × V)} {ds : List (Str × Int × List Row)}, CodesR K H kvs ds → CodesR K H (kvs ++ [(Sum.inr d.1, v)]) (ds ++ [d])
  | [], [], _ => ⟨rfl, hv, trivial⟩
  | (_, _) :: _, _ :: _, h => ⟨h.1, h.2.1, codes_snoc hv h.2.2⟩
  | [], _ :: _, h => h.elim
  | _ :: _, [], h => h.elim
theorem codes_no {K : PySem.W.Frag} {H : Hp} {s : Str} : ∀ {kvs : List (Key × V)} {ds : List (Str × Int × List Row)}, CodesR K H kvs ds → s ∉ ds.map (·.1) → valV kvs (Sum.inr s : Key) = none
  | [], [], _, _ => rfl
  | (k, v) :: r, d :: ds, h, n => by
    obtain ⟨rfl, _, hr⟩ := h
    rw [List.map_cons, List.mem_cons, not_or] at n
    have := codes_no hr n.2
    unfold valV at this ⊢
    rw [List.find?_cons_of_neg (by simp; exact fun e => n.1 e.symm)]
    exact this
  | [], _ :: _, h, _ => h.elim
  | _ :: _, [], h, _ => h.elim
/-- whether a row with this word stands in one of the codes -/
def hasW (ds : List (Str × Int × List Row)) (s : Str) : Bool := ds.any fun d => (codeOf d.2.2).any fun f => decide (f.hd = some s)
section
variable {P : Program} {w : World} {K : PySem.W.Frag} {mg : Str → Option Value} {base : Heap}
def spHasRow (K : PySem.W.Frag) : Sp := fun vs H Q _ => ∃ (d : Addr) (kvs : List (Key × V)) (ds : List (Str × Int × List Row)) (s : Str), vs = [.ref d, .str s] ∧ H d = some (.dK kvs) ∧ CodesR K H kvs ds ∧ Q (.bl (hasW ds s)) H
theorem ca_has_row (T : Txt w K mg) : Ca P w K mg base 1 "has_row" (spHasRow K) := by
  refine ca_of (N := ["codes", "word", "code", "row"]) (ps := ["codes", "word"]) T.f_has_row T.g_has_row ⟨rfl, rfl, rfl, by decide +kernel, rfl, by decide +kernel, by decide +kernel⟩ (fun _ _ _ _ _ _ us hl => match us, hl with | [_, _], _ => rfl)
    (fun vs H Q E h => by obtain ⟨d, kvs, ds, s, rfl, hd, hc, q⟩ := h; rfl) (fun cdv A outer s H vs Q E hr h => ?_)
  have nd : (["codes", "word", "code", "row"] : List Str).Nodup := by decide +kernel
  obtain ⟨d, kvs, ds, s, rfl, hd, hc, q⟩ := h
  refine ⟨_, pss_cons (ps_lock (ps_for PassesOwn.never rfl (pi_values (pv 0)) (pg_name (i := 2) nd rfl (.inl rfl))
    (pss_one (ps_for PassesOwn.never rfl (pi_tup (pv 2)) (pg_name (i := 3) nd rfl (.inl rfl)) (pss_one (ps_if (pt_cmpR op_eq (pe_ix ix_tup (pv 3) pe_int (fun _ _ => rfl)) (pv 1) (nomark _)) (pss_one (ps_ret pe_bl)) pss_nil))))))
    (pss_one (ps_ret pe_bl)), ?_⟩
  refine ⟨d, _, hd, True.intro, fun od => ?_⟩
  have ch : Ch H d := .dK hd
  have hcf : CodesR K (upd H d (.frz od (.dK kvs))) kvs ds := codes_but ch But.upd hc
  have back : upd (upd H d (.frz od (.dK kvs))) d (.dK kvs) = H := by rw [upd_upd, upd_id hd]
  have ret : ∀ b, b = hasW ds s → Q (.bl b) (upd (upd H d (.frz od (.dK kvs))) d (.dK kvs)) := fun b e => by rw [back, e]; exact q
  refine ⟨_, rfl, d, od, kvs, rfl, upd_same, for_it (n := kvs.length) walk_values (fun i σ' H' => ∃ x y, σ' = [some (.ref d), some (.str s), x, y] ∧ H' = upd H d (.frz od (.dK kvs)) ∧ hasW (ds.take i) s = false) ⟨none, none, rfl, rfl, rfl⟩ (fun i σ' H' _ ⟨_, _, _, e, _⟩ => by rw [e, upd_same]) ?_ ?_⟩
  · rintro i x σ' H' H2 hi ⟨_, _, rfl, rfl, hw⟩ ⟨rfl, k, hk⟩
    obtain ⟨dd, hdd, _, hcode⟩ := codes_at hcf hk
    obtain ⟨ra, xs, e0, hra, hxs⟩ := dp_tup hcode
    have e0 : x = .ref ra := e0
    subst e0
    have hin : dd ∈ ds := List.mem_of_getElem? hdd
    refine ⟨_, rfl, ra, rfl, ⟨_, hra⟩, for_tup (xs := xs) (fun j σ' H' => ∃ y, σ' = [some (.ref d), some (.str s), some (.ref ra), y] ∧ H' = upd H d (.frz od (.dK kvs)) ∧ ((codeOf dd.2.2).take j).any (fun f => decide (f.hd = some s)) = false) ⟨_, rfl, rfl, rfl⟩ (fun j σ' H' _ ⟨_, _, e, _⟩ => by rw [e]; exact hra) ?_ ?_⟩
    · rintro j y σ' H' hy ⟨_, rfl, rfl, hf⟩
      obtain ⟨de, hde, hyd⟩ := dps_get hxs hy
      obtain ⟨f, hf', rfl⟩ := get_mapA hde
      obtain ⟨wd, hwd⟩ := code_hd (List.mem_of_getElem? hf')
      rw [fr_d hwd] at hyd
      obtain ⟨rb, zs, rfl, hrb, hzs⟩ := dp_tup hyd
      obtain ⟨z0, zr, rfl, hz0⟩ : ∃ z0 zr, zs = z0 :: zr ∧ Dp K (upd H d (.frz od (.dK kvs))) z0 (.str wd) := by
        cases hzs with | cons h1 h2 => exact ⟨_, _, rfl, h1⟩
      cases dp_str hz0
      refine ⟨_, rfl, _, _, _, _, rfl, rfl, hrb, at0, _, rfl, rfl, _, rfl, ?_⟩
      by_cases e : wd = s
      · rw [decide_eq_true (show V.str wd = V.str s from congrArg V.str e)]
        refine iteT ⟨upd_same, ret _ ?_⟩
        refine (List.any_eq_true.mpr ⟨dd, hin, List.any_eq_true.mpr ⟨f, List.mem_of_getElem? hf', ?_⟩⟩).symm
        rw [hwd, e]
        exact decide_eq_true rfl
      · rw [decide_eq_false (show ¬ V.str wd = V.str s from fun z => e (V.str.inj z))]
        refine iteF ⟨_, rfl, rfl, ?_⟩
        rw [take_more hf', List.any_append, hf]
        simp [hwd, e]
    · rintro σ' H' ⟨_, rfl, rfl, hf⟩
      refine ⟨_, _, rfl, rfl, ?_⟩
      have lx : xs.length = (codeOf dd.2.2).length := by rw [dps_len hxs, List.length_map]
      rw [lx, List.take_length] at hf
      rw [take_more hdd]
      unfold hasW at hw ⊢
      rw [List.any_append, hw]
      simp [hf]
  · rintro σ' H' ⟨_, _, rfl, rfl, hw⟩
    rw [codes_len hc, List.take_length] at hw
    exact ⟨upd_same, ret _ hw.symm⟩
end

end M

set_option Elab.async false
set_option linter.all false
set_option maxRecDepth 100000
set_option maxHeartbeats 2000000
namespace M
open PySem PySem.Spec PyProof.Rows L2

/-- what stands at D is no list -/
def NoLst (H : Hp) (D : Addr) : Prop := (∀ xs, H D ≠ some (.lst xs)) ∧ ∀ o u, H D ≠ some (.frz o u)
theorem NoLst.ins {H : Hp} {D C dx : Addr} {l : List (Str × V)} (h : H D = some (.ins C dx l)) : NoLst H D := ⟨fun _ e => (by rw [h] at e; cases e), fun _ _ e => (by rw [h] at e; cases e)⟩
theorem NoLst.dT {H : Hp} {D : Addr} {l : List (List Key × V)} (h : H D = some (.dT l)) : NoLst H D := ⟨fun _ e => (by rw [h] at e; cases e), fun _ _ e => (by rw [h] at e; cases e)⟩
theorem NoLst.dK {H : Hp} {D : Addr} {l : List (Key × V)} (h : H D = some (.dK l)) : NoLst H D := ⟨fun _ e => (by rw [h] at e; cases e), fun _ _ e => (by rw [h] at e; cases e)⟩
theorem sqL_but {K : PySem.W.Frag} {H H' : Hp} {D : Addr} (hD : NoLst H D) (s : But D H H') {a : Addr} {xs : List V} (h : SqL K H a xs) : SqL K H' a xs := by
  rcases h with (h | ⟨o, h⟩) | h
  · exact .inl (.inl (s _ _ (fun e => hD.1 _ (e ▸ h)) h))
  · exact .inl (.inr ⟨o, s _ _ (fun e => hD.2 _ _ (e ▸ h)) h⟩)
  · exact .inr h
theorem cells_but {K : PySem.W.Frag} {H H' : Hp} {D : Addr} (hD : Ch H D) (s : But D H H') {xs : List V} {cs : List (Int × Int)} (h : DpAll K H xs (cs.map cellD)) : DpAll K H' xs (cs.map cellD) :=
  dps_but hD s h fun d hd => by
    obtain ⟨c, _, rfl⟩ := List.mem_map.mp hd
    exact cell_noL c
theorem deeds_but {K : PySem.W.Frag} {H H' : Hp} {D : Addr} (hD : Ch H D) (s : But D H H') {xs : List V} {cs : List (Str × Int × List Row)} (h : DpAll K H xs (cs.map deedD)) : DpAll K H' xs (cs.map deedD) :=
  dps_but hD s h fun d hd => by
    obtain ⟨c, _, rfl⟩ := List.mem_map.mp hd
    exact deed_noL c
theorem vf_codes0 (a d c : Addr) : (putF "_codes" (V.ref c) (putF "_deeds" (.ref d) (putF "_cells" (.ref a) []))).lookup ("_codes" : Str) = some (.ref c) := by
  rw [lookup_putF, if_pos rfl]
section
variable {P : Program} {w : World} {K : PySem.W.Frag} {mg : Str → Option Value} {base : Heap}
def spVault (K : PySem.W.Frag) : Sp := fun vs H Q _ => ∃ (p dx a b : Addr) (xs ys : List V) (v : Vlt), vs = [.ref p, .ref a, .ref b] ∧ H p = some (.ins (He.ga K "Vault") dx []) ∧ SqL K H a xs ∧ DpAll K H xs (v.cells.map cellD) ∧ SqL K H b ys ∧ DpAll K H ys (v.deeds.map deedD) ∧ VGood v ∧ ∀ H', But p H H' → VaultAt K H' p v → Q .non H'
theorem ma_Vault (T : Txt w K mg) : Ma P w K mg base 53 "Vault" (He.ga K "Vault") (spVault K) := by
  refine ma_of (N := ["self", "cells", "deeds", "name", "_", "body"]) (ps := ["self", "cells", "deeds"]) T.f_Vault_init T.g_Vault T.k_Vault ⟨rfl, rfl, rfl, by decide +kernel, rfl, by decide +kernel, by decide +kernel⟩ (fun _ _ _ _ _ _ us hl => match us, hl with | [_, _, _], _ => rfl)
    (fun vs H Q E h => by obtain ⟨p, dx, a, b, xs, ys, v, rfl, hp, ha, hxs, hb, hys, g, q⟩ := h; rfl) (fun cdv A outer s H vs Q E hr h => ?_)
  have nd : (["self", "cells", "deeds", "name", "_", "body"] : List Str).Nodup := by decide +kernel
  obtain ⟨p, dx, a, b, xs, ys, v, rfl, hp, ha, hxs, hb, hys, g, q⟩ := h
  refine ⟨_, (pss_cons (ps_if (PW.pt (pw_or (pt_not (pt_val (pe_is .list T.b_isinstance (pv 1) T.b_list boot_list))) (pw_or1 (pt_not (pt_val (pe_ca (ca_are_cells T) hr (pa_cons (pv 1) pa_nil))))))) (pss_one ps_never) pss_nil)
      (pss_cons (ps_if (PW.pt (pw_or (pt_not (pt_val (pe_is .list T.b_isinstance (pv 2) T.b_list boot_list))) (pw_or1 (pt_not (pt_val (pe_ca (ca_are_deeds T) hr (pa_cons (pv 2) (pa_cons (pe_callB call_len_seq (by rfl) T.b_len PySem.boot_len (pa_cons (pv 1) pa_nil)) pa_nil)))))))) (pss_one ps_never) pss_nil)
      (pss_cons (ps_fld (pv 0) (pe_tupleOf (by rfl) T.b_tuple (pv 1)) rfl)
      (pss_cons (ps_fld (pv 0) (pe_tupleOf (by rfl) T.b_tuple (pv 2)) rfl)
      (pss_cons (ps_fld (pv 0) (pe_dc (own := [("name", 3), ("_", 4), ("body", 5)]) (tt := tYes) rfl nd (pi_list (pv 2)) (blkOk_by (N := ["self", "cells", "deeds", "name", "_", "body"]) (sc := defScope s_Vault_init) (by decide +kernel)) (fun _ _ _ _ _ => pg_three K 3 4 5 rfl rfl nd rfl rfl rfl (.inl rfl) (.inl rfl) (.inl rfl) (.inr rfl) (.inr rfl) (.inr rfl)) (fun _ _ _ _ _ => pts_nil) (fun _ _ _ _ _ => pv 3) (fun _ _ _ _ _ => pe_ca (ca_code_of T) hr (pa_cons (pv 5) pa_nil))) rfl)
      (pss_one (ps_fld (pv 0) (pe_ca (ca_has_row T) hr (pa_cons (pe_fld (pv 0) rfl) (pa_cons pe_str pa_nil))) rfl))))))), ?_⟩
  refine ⟨_, rfl, _, _, rfl, .list ha, _, rfl, iteF ?_⟩
  refine ⟨_, rfl, a, xs, v.cells, rfl, ha, hxs, g.c0, g.c1, g.cs, _, rfl, iteF ?_⟩
  refine ⟨_, rfl, _, _, rfl, .list hb, _, rfl, iteF ?_⟩
  have lx : xs.length = v.cells.length := by rw [dps_len hxs, List.length_map]
  have ly : ys.length = v.deeds.length := by rw [dps_len hys, List.length_map]
  refine ⟨_, rfl, _, rfl, _, _, rfl, .inl ha, b, ys, v.deeds, v.cells.length, by rw [lx]; rfl, hb, hys, g.d0, g.d1, g.ds, g.nd, fun H1 s1 => ⟨_, rfl, iteF ?_⟩⟩
  refine ⟨_, rfl, .inl ⟨a, xs, rfl, s1.seq ha, fun t1 nt1 => ?_⟩⟩
  have hp1 := s1 _ _ hp
  have nt1p : t1 ≠ p := fun e => by rw [e, hp1] at nt1; cases nt1
  have s2 : Same H (upd H1 t1 (.tup xs)) := s1.trans (same_new nt1)
  refine ⟨_, rfl, p, _, dx, _, rfl, s2 _ _ hp, T.c_Vault, T.n_Vault_cells, (by show 0 < 1000; decide), ?_⟩
  have np2 : NoLst (upd H1 t1 (.tup xs)) p := .ins (s2 _ _ hp)
  have cp2 : Ch (upd H1 t1 (.tup xs)) p := .ins (s2 _ _ hp)
  generalize eH2 : upd H1 t1 (.tup xs) = H2 at s2 np2 cp2
  have at2 : H2 t1 = some (.tup xs) := by rw [← eH2, upd_same]
  generalize eH3 : upd H2 p (.ins (He.ga K "Vault") dx (putF "_cells" (.ref t1) [])) = H3
  have b3 : But p H2 H3 := eH3 ▸ But.upd
  have hp3 : H3 p = some (.ins (He.ga K "Vault") dx (putF "_cells" (.ref t1) [])) := by rw [← eH3, upd_same]
  have hb3 : SqL K H3 b ys := sqL_but np2 b3 (s2.seq hb)
  refine ⟨_, rfl, .inl ⟨b, ys, rfl, hb3, fun t2 nt2 => ?_⟩⟩
  have s4 : Same H3 (upd H3 t2 (.tup ys)) := same_new nt2
  refine ⟨_, rfl, p, _, dx, _, rfl, s4 _ _ hp3, T.c_Vault, T.n_Vault_deeds, (by show 1 < 1000; decide), ?_⟩
  generalize eH4 : upd H3 t2 (.tup ys) = H4 at s4
  have at4 : H4 t2 = some (.tup ys) := by rw [← eH4, upd_same]
  have hp4 := s4 _ _ hp3
  have np4 : NoLst H4 p := .ins hp4
  have cp4 : Ch H4 p := .ins hp4
  generalize eH5 : upd H4 p (.ins (He.ga K "Vault") dx (putF "_deeds" (.ref t2) (putF "_cells" (.ref t1) []))) = H5
  have b5 : But p H4 H5 := eH5 ▸ But.upd
  have hp5 : H5 p = some (.ins (He.ga K "Vault") dx (putF "_deeds" (.ref t2) (putF "_cells" (.ref t1) []))) := by rw [← eH5, upd_same]
  have hb5 : SqL K H5 b ys := sqL_but np4 b5 (s4.seq hb3)
  have b25 : But p H2 H5 := (b3.trans (same_but s4)).trans b5
  have at5 : H5 t1 = some (.tup xs) := b25 _ _ nt1p at2
  have nt2p : t2 ≠ p := fun e => by rw [e, hp3] at nt2; cases nt2
  have at52 : H5 t2 = some (.tup ys) := b5 _ _ nt2p at4
  have hxs5 : DpAll K H5 xs (v.cells.map cellD) := cells_but cp2 b25 (dps_same s2 hxs)
  have hys5 : DpAll K H5 ys (v.deeds.map deedD) := deeds_but cp2 b25 (dps_same s2 hys)
  refine ⟨_, rfl, b, rfl, ⟨_, hb5⟩, fun D hD => ?_⟩
  refine it_any (n := ys.length) walk_list (fun i H' => ∃ kvs, Same H5 H' ∧ H' D = some (.dK kvs) ∧ CodesR K H' kvs (v.deeds.take i)) ⟨[], same_new hD, upd_same, trivial⟩ (fun i H' _ ⟨_, s, _⟩ => s.seq hb5) ?_ ?_
  · rintro i x H' H6 hi ⟨kvs, s, eD, hc⟩ ⟨rfl, ex⟩
    obtain ⟨dd, ed, hdd⟩ := dps_get hys5 ex
    obtain ⟨d, ec, rfl⟩ := get_mapA ed
    obtain ⟨t, x1, x2, x3, rfl, ht, e1, e2, e3⟩ := dp3 (dp_same s hdd)
    cases dp_str e1
    have ok := g.ds d (List.mem_of_getElem? ec)
    refine ⟨t, _, rfl, ht, rfl, _, _, rfl, _, _, rfl, _, _, rfl, rfl, rfl, ?_⟩
    refine ⟨_, rfl, _, rfl, x3, d.2.2, v.cells.length, rfl, e3, ok.2.2.1, ok.2.2.2.2, fun H7 u s7 hu => ?_⟩
    have nn : d.1 ∉ (v.deeds.take i).map (·.1) := fun hm => by
      obtain ⟨d', hd', ed'⟩ := List.mem_map.mp hm
      obtain ⟨j, hj, ej⟩ := List.mem_iff_getElem.mp hd'
      rw [List.length_take] at hj
      rw [List.getElem_take] at ej
      have n1 : (v.deeds.map (·.1))[i]? = some d.1 := by rw [List.getElem?_map, ec]; rfl
      have n2 : (v.deeds.map (·.1))[j]? = some d.1 := by
        rw [List.getElem?_map, List.getElem?_eq_getElem (by omega : j < v.deeds.length), ej]
        exact congrArg some ed'
      have := nd_ix g.nd n1 n2
      omega
    have hl : kvs.length = (v.deeds.take i).length := codes_len hc
    have hl8 : (v.deeds.take i).length ≤ 8 := by rw [List.length_take]; have := g.d1; omega
    refine ⟨kvs, Sum.inr d.1, rfl, s7 _ _ eD, by rw [sizeLine_eq]; omega, _, ?_, upd_same, ?_⟩
    · exact fun b' o e => by
        rw [upd_ne (ne_of_none e hD)]
        exact s7 _ _ (s _ _ e)
    · rw [putK_new u (codes_no hc nn), take_more ec]
      exact codes_snoc (dp_but (.dK (s7 _ _ eD)) But.upd hu (code_noL _)) (codes_but (.dK (s7 _ _ eD)) But.upd (codes_same s7 hc))
  · rintro H6 ⟨kvs, s6, eD, hc⟩
    rw [ly, List.take_length] at hc
    have hp6 := s6 _ _ hp5
    refine ⟨_, rfl, p, _, dx, _, rfl, hp6, T.c_Vault, T.n_Vault_codes, (by show 2 < 1000; decide), ?_⟩
    have cp6 : Ch H6 p := .ins hp6
    have nDp : D ≠ p := fun e => by rw [e, hp5] at hD; cases hD
    generalize eH7 : upd H6 p (.ins (He.ga K "Vault") dx (putF "_codes" (.ref D) (putF "_deeds" (.ref t2) (putF "_cells" (.ref t1) [])))) = H7
    have b7 : But p H6 H7 := eH7 ▸ But.upd
    have hp7 : H7 p = some (.ins (He.ga K "Vault") dx (putF "_codes" (.ref D) (putF "_deeds" (.ref t2) (putF "_cells" (.ref t1) [])))) := by rw [← eH7, upd_same]
    have eD7 := b7 _ _ nDp eD
    have hc7 := codes_but cp6 b7 hc
    refine ⟨_, rfl, p, _, dx, _, _, rfl, hp7, T.c_Vault, T.n_Vault_codes, vf_codes0 .., D, kvs, v.deeds, "coin", rfl, eD7, hc7, ?_⟩
    refine ⟨_, rfl, p, _, dx, _, rfl, hp7, T.c_Vault, T.n_Vault_coins, (by show 3 < 1000; decide), ?_⟩
    generalize eH8 : upd H7 p (.ins (He.ga K "Vault") dx (putF "_coins" (.bl (hasW v.deeds "coin")) (putF "_codes" (.ref D) (putF "_deeds" (.ref t2) (putF "_cells" (.ref t1) []))))) = H8
    have b8 : But p H7 H8 := eH8 ▸ But.upd
    have hp8 : H8 p = some (.ins (He.ga K "Vault") dx (putF "_coins" (.bl (hasW v.deeds "coin")) (putF "_codes" (.ref D) (putF "_deeds" (.ref t2) (putF "_cells" (.ref t1) []))))) := by rw [← eH8, upd_same]
    have b58 : But p H5 H8 := ((same_but s6).trans b7).trans b8
    have cp5 : Ch H5 p := .ins hp5
    refine q H8 ((same_but s2).trans (b25.trans b58)) ⟨dx, t1, t2, D, hasW v.deeds "coin", kvs, hp8, ?_, ?_, b8 _ _ nDp eD7, codes_but (.ins hp7) b8 hc7⟩
    · exact .tup (.of (b58 _ _ nt1p at5)) (cells_but cp5 b58 hxs5)
    · exact .tup (.of (b58 _ _ nt2p at52)) (deeds_but cp5 b58 hys5)
end

end M

set_option Elab.async false
set_option linter.all false
set_option maxRecDepth 100000
set_option maxHeartbeats 2000000
namespace M
open PySem PySem.Spec PyProof.Rows L2

/-! ### a dict comprehension whose keys are tuples -/
/-- the new pair is put -/
theorem set_t {X : Cx} {pins : List (Addr × Obj)} {σ : L2.St} {H : Hp} {s : Shared} {E : Value → Shared → Prop} {D b : Addr} {kvs : List (List Key × V)} {k : List Key} {v : V} {r : Value} {Q : Unit → Shared → Prop} (hu : X.A.units + 1 < cLine) (I : Inv X pins σ H s) (e : H D = some (.dT kvs)) (eb : H b = some (.tup (k.map kV))) (lt : kvs.length < sizeLine)
    (rv : RelV v r) (go : ∀ s', Inv X pins σ (upd H D (.dT (putK kvs k v))) s' → Q () s') : wpAny (model X.prog X.w) X.A (dictSet D (.ref b) r) Q E s := by
  obtain ⟨z0, nd, zs, kt, dd⟩ := dt_of I.hok e
  have zl : zs.length ≤ sizeLine := (Paired.length kt) ▸ z0
  refine wpAny_dictSet_heap (show X.A.units < cLine from by omega) (key_of I.hok eb) dd (fun g' ⟨u0, es, ep, g1, g2, g3, g4, _, g5⟩ same => go _ ?_) zl
  refine d_write I (by rw [e]; exact True.intro) same ⟨u0, g1⟩ ⟨by have := length_putK kvs k v; omega, nd, _, (kt.put k eb rv).keeps fun c ys ec => ?_, u0, es, ep, g1, g2, g3, g4, g5⟩
  rw [upd_ne (ne_of ec e (fun j => nomatch j))]; exact ec
/-- D the new dict, its keys tuples -/
def tDcT (wi : TI) (g : TG) (tk tv : TE) (vs : List Nat) : TE := fun σ H Q => wi σ H fun J H1 => ∀ D, H1 D = none → ∃ W : Nat → Nat → Hp → Prop, (∃ m, W 0 m (upd H1 D (.dT []))) ∧ ∀ i m H', W i m H' → (J.stop i H' ∧ Q (.ref D) H') ∨
  (J.go i H' ∧ ∃ Nx : Hp → Prop, (∀ G, Nx G → ∃ m', m' < m ∧ W (i + 1) m' G) ∧ ∀ x G, J.yld i H' x G → g x (wipe σ vs) G fun σ2 G2 => wipe σ2 vs = wipe σ vs ∧ tk σ2 G2 fun y G3 => tv σ2 G3 fun z G4 =>
    ∃ kvs k b, y = .ref b ∧ G4 b = some (.tup (List.map kV k)) ∧ G4 D = some (.dT kvs) ∧ kvs.length < sizeLine ∧ Nx (upd G4 D (.dT (putK kvs k z))))
theorem pe_dcT {X : Cx} {kx vx tg iter : Expr} {scope : Scope} {own : List (Str × Nat)} {pos : Pos} {wi : TI} {g : TG} {tk tv : TE} (hu : X.A.units + 1 < cLine) (calm : X.calm = true) (nd : X.N.Nodup) (pi : PI X tg iter wi) (bk : BlkOk X.N X.env.scope scope own)
    (fg : ∀ (s : Shared) (H : Hp) (C : Addr) (cl : List (Str × Addr)) (fp : List Addr), PG (X.blk s H scope (compEnvC scope cl C X.env) fp) tg g)
    (fk : ∀ (s : Shared) (H : Hp) (C : Addr) (cl : List (Str × Addr)) (fp : List Addr), PE (X.blk s H scope (compEnvC scope cl C X.env) fp) kx tk)
    (fv : ∀ (s : Shared) (H : Hp) (C : Addr) (cl : List (Str × Addr)) (fp : List Addr), PE (X.blk s H scope (compEnvC scope cl C X.env) fp) vx tv) (fs : ∀ x, foldedSetIterable iter X.env x = pure x := by intro _; rfl) :
    PE X (.DictComp kx vx [⟨tg, iter, [], 0⟩] scope pos) (tDcT wi g tk tv (own.map (·.2))) := by
  refine ⟨fun pins s σ H Q I h => ?_⟩
  rw [arm_eval_DictComp]
  have fr : ∀ y ∈ scope.names, y.2 = .free → ∃ c, X.env.cells.lookup y.1 = some c := fun y hy e =>
    (bk.free y hy e).elim (fun k => I.ok.has _ (.inl k)) (fun k => I.ok.has _ (.inr k))
  refine wpAny_comprehension_free rfl fs (closure_ok fr) bk.kind (fun y hy e => by rw [bk.uniq y hy, e]) (thn (pi.run pins s σ H _ I h) fun xv s1 hx => thn hx fun itv s2 r2 => ?_)
  obtain ⟨it, fp, tn, J, H2, rfl, I2, T, st2, f2, q⟩ := r2
  refine wpAny_newObj_type (newEnv_comp ?_)
  generalize eD : s2.heap.objs.size = D
  obtain ⟨W, ⟨m0, w0⟩, turn⟩ := q D (I2.hok.fresh (Nat.le_of_eq eD))
  generalize e3 : ({ s2 with heap := s2.heap.push { cls := .type "dict", data := .dict #[] } } : Shared) = s3
  have h3 : s3.heap = s2.heap.push { cls := .type "dict", data := .dict #[] } := e3 ▸ rfl
  have I3 : Inv X pins σ (upd H2 D (.dT [])) s3 := by
    rw [← e3]; exact I2.laid (t' := s2.toks) (fun b o e => Heap.get?_push_of_some _ e) (Nat.le_of_eq eD) (eD ▸ dt_empty s2.heap I2.big)
  have small : ∀ b ∈ fp, b < s2.heap.objs.size := fun b hb => Heap.lt_size (T.obj _ _ st2 b hb).choose_spec.1
  have f3 : ∀ b ∈ fp, FpOk X pins (upd H2 D (.dT [])) b ∧ b < s3.heap.objs.size := fun b hb => by
    have lt := small b hb
    exact ⟨⟨(upd_ne (eD ▸ Nat.ne_of_lt lt)).trans (f2 b hb).1, (f2 b hb).2⟩, by rw [h3, Heap.size_push]; exact Nat.lt_succ_of_lt lt⟩
  have st3 : tn 0 s3.heap := T.keep _ _ _ st2 fun b _ o e => h3 ▸ Heap.get?_push_of_some _ e
  have I4 := block_start I3 bk nd f3
  have a1 := fg s3 (upd H2 D (.dT [])) s3.heap.objs.size (cellsFrom (s3.heap.objs.size + 1) scope.names (cloFrom X.env.cells scope.names [])) fp
  have a2 := fk s3 (upd H2 D (.dT [])) s3.heap.objs.size (cellsFrom (s3.heap.objs.size + 1) scope.names (cloFrom X.env.cells scope.names [])) fp
  have a3 := fv s3 (upd H2 D (.dT [])) s3.heap.objs.size (cellsFrom (s3.heap.objs.size + 1) scope.names (cloFrom X.env.cells scope.names [])) fp
  have nf : ∀ b ∈ fp, (upd H2 D (.dT [])) b = none := fun b hb => (f3 b hb).1.1
  show codeAny _ _ (.compStart (.DictComp kx vx [⟨tg, iter, [], 0⟩] scope pos) 0 (.ref it) (.ref D) (compEnvC scope (cellsFrom (s3.heap.objs.size + 1) scope.names (cloFrom X.env.cells scope.names [])) s3.heap.objs.size X.env)) _ { s3 with heap := pushCells (s3.heap.push { cls := .type "dict", data := .dict #[] }) scope.names }
  generalize ec : compEnvC scope (cellsFrom (s3.heap.objs.size + 1) scope.names (cloFrom X.env.cells scope.names [])) s3.heap.objs.size X.env = ce at I4 a1 a2 a3 ⊢
  have cL : ce.locals = s3.heap.objs.size := ec ▸ rfl
  generalize eH : upd H2 D (.dT []) = H3 at I3 I4 a1 a2 a3 w0 nf f3
  generalize e4 : ({ s3 with heap := pushCells (s3.heap.push { cls := .type "dict", data := .dict #[] }) scope.names } : Shared) = s4 at I4 ⊢
  have st4 : tn 0 s4.heap := T.keep _ _ _ st3 fun b _ o e => e4 ▸ pushCells_keeps _ _ _ _ (Heap.get?_push_of_some _ e)
  have fpk : ∀ {σ' : L2.St} {H' : Hp} {s' : Shared}, Inv (X.blk s3 H3 scope ce fp) [] σ' H' s' → (∀ b ∈ fp, H' b = none) → ∀ b ∈ fp, FpOk (X.blk s3 H3 scope ce fp) [] H' b := fun I' hn b hb =>
    ⟨hn b hb, (I'.ok.exf b hb).1, I'.ok.exfs b hb, .inl hb, fun x c e => (I'.ok.exf b hb).2 x c e, fun p hp => nomatch (show p ∈ ([] : List (Addr × Obj)) from hp)⟩
  refine (fun lp => codeAny_compStart_dict lp (T.self X.A 0 _ _ _ st4 lp)) (compLoop_anyD (fun n s' => ∃ i H', Inv (X.blk s3 H3 scope ce fp) [] (wipe σ (own.map (·.2))) H' s' ∧ tn i s'.heap ∧ (∀ b ∈ fp, H' b = none) ∧ W i n H') ?_ m0 ⟨0, H3, I4, st4, nf, w0⟩)
  rintro n s5 ⟨i, H5, I5, st5, n5, w5⟩
  rcases turn i n H5 w5 with ⟨stop, qq⟩ | ⟨go, Nx, less, step⟩
  · refine thnF (T.done (X.blk s3 H3 scope ce fp) rfl rfl rfl calm i [] s5 _ H5 (fun _ _ => False) I5 (fpk I5 n5) st5 stop) fun r s6 ⟨hr, I6⟩ => ?_
    subst hr
    have I7 : Inv X pins σ H5 s6 := I3.call' (ch := fp) I6.os I6.base I6.hok I6.bare fun b hb => ⟨(f3 b hb).1.2.2.2.1, (f3 b hb).1.2.1, (f3 b hb).1.2.2.2.2.1, (f3 b hb).1.2.2.2.2.2⟩
    have nC : H5 s3.heap.objs.size = none := cL ▸ (show H5 ce.locals = none from I6.free)
    obtain ⟨m, hm, _⟩ := I6.loc
    refine ⟨m, cL ▸ (show s6.heap.Ns ce.locals m from hm), fun h'' sb => ?_⟩
    obtain ⟨p0, p1, p2, p3, p4, p5⟩ := I3.fpOk (Nat.le_refl _) nC
    exact ⟨.ref D, H5, I7.turned (t' := s6.toks) (fun b o hb e => (sb.2 b hb).trans e) p0 p1 p3 p4 p5, rfl, qq⟩
  · refine thnF (T.item (X.blk s3 H3 scope ce fp) rfl rfl rfl calm i [] s5 _ H5 (fun _ _ => False) I5 (fpk I5 n5) st5 go) fun r s6 ⟨u, hr, h6⟩ => ?_
    subst hr
    refine thnF h6 fun _ s7 ⟨x, H7, I7, r7, y7, st7, n7⟩ => thnF (a1.run _ s7 _ H7 x u _ (I7.pinned (fpk I7 n7) (T.obj _ _ st7)) r7 (step x H7 y7)) fun _ s8 ⟨σ8, H8, I8, hw8, q8⟩ => ?_
    refine wpAny_pure (show (if true = true then _ else _) from ?_)
    refine thnF (a2.run _ s8 σ8 H8 _ I8 q8) fun k10 s10 ⟨yk, H10, I10, r10, q10⟩ => thnF (a3.run _ s10 σ8 H10 _ I10 q10) fun z2 s11 ⟨yv, H11, I11, r11, kvs, k, b, ek, eb, eD1, lt, nx⟩ => ?_
    subst ek
    cases (show k10 = Value.ref b from r10)
    refine set_t (X := X.blk s3 H3 scope ce fp) hu I11 eD1 eb lt r11 fun s12 I12 => ?_
    obtain ⟨m', hm, w'⟩ := less _ nx
    have pk : ∀ b ∈ fp, ∀ o, s7.heap.get? b = some o → s12.heap.get? b = some o ∧ (upd H11 D (.dT (putK kvs k yv))) b = none := fun b hb o e =>
      have z := I12.pin (b, o) (List.mem_append_right _ (List.mem_append_right _ (mem_pinsAt hb e)))
      ⟨z.1, z.2.1⟩
    refine ⟨m', hm, i + 1, _, (I12.unpinned (pins := [])).weak (by rw [← hw8, wipe_length]) (fun j v e => (wipe_some (hw8 ▸ e)).1), T.keep _ _ _ st7 fun b hb o e => (pk b hb o e).1, fun b hb => ?_, w'⟩
    obtain ⟨o, e, _⟩ := T.obj _ _ st7 b hb
    exact (pk b hb o e).2

end M

set_option Elab.async false
set_option linter.all false
set_option maxRecDepth 100000
set_option maxHeartbeats 2000000
namespace M
open PySem PySem.Spec PyProof.Rows L2

/-! ### calls by their numbers -/
def ckey (c : Str × Int) : List Key := [Sum.inr c.1, Sum.inl c.2]
theorem ckey_inj {c d : Str × Int} (h : ckey c = ckey d) : c = d := by
  unfold ckey at h
  simp at h
  exact Prod.ext h.1 h.2
theorem ckey_v (c : Str × Int) : (ckey c).map kV = [V.str c.1, V.int c.2] := rfl
def numK (cs : List (Str × Int)) : List (List Key × V) := cs.mapIdx fun i c => (ckey c, V.int (i : Nat))
theorem valV_none {kvs : List (List Key × V)} {k : List Key} (h : ∀ p ∈ kvs, p.1 ≠ k) : valV kvs k = none := by
  unfold valV
  have e : kvs.find? (fun kv => decide (kv.1 = k)) = none := List.find?_eq_none.mpr fun p hp => by simpa using h p hp
  rw [e]
  rfl
theorem valV_at : ∀ {kvs : List (List Key × V)} {i : Nat} {k : List Key} {v : V}, kvs[i]? = some (k, v) → (∀ j p, j < i → kvs[j]? = some p → p.1 ≠ k) → valV kvs k = some v
  | [], i, k, v, h, _ => by simp at h
  | p :: r, 0, k, v, h, _ => by
    cases (Option.some.inj h)
    unfold valV
    rw [List.find?_cons_of_pos (by simp)]
    rfl
  | p :: r, i + 1, k, v, h, n => by
    have := valV_at (kvs := r) (i := i) h fun j q hj e => n (j + 1) q (by omega) e
    unfold valV at this ⊢
    rw [List.find?_cons_of_neg (by simpa using n 0 p (by omega) rfl)]
    exact this
theorem numK_snoc (cs : List (Str × Int)) (c : Str × Int) : numK (cs ++ [c]) = numK cs ++ [(ckey c, V.int (cs.length : Nat))] := by
  unfold numK
  rw [List.mapIdx_concat]
theorem numK_at {cs : List (Str × Int)} {i : Nat} {c : Str × Int} (h : cs[i]? = some c) : (numK cs)[i]? = some (ckey c, V.int (i : Nat)) := by
  unfold numK
  rw [List.getElem?_mapIdx, h]
  rfl
theorem numK_of {cs : List (Str × Int)} {i : Nat} {p : List Key × V} (h : (numK cs)[i]? = some p) : ∃ c, cs[i]? = some c ∧ p = (ckey c, V.int (i : Nat)) := by
  unfold numK at h
  rw [List.getElem?_mapIdx] at h
  cases e : cs[i]? with
  | none => rw [e] at h; cases h
  | some c => rw [e] at h; exact ⟨c, rfl, (Option.some.inj h).symm⟩
theorem nd_ixG {α : Type} {l : List α} (n : l.Nodup) {i j : Nat} {x : α} (hi : l[i]? = some x) (hj : l[j]? = some x) : i = j := by
  obtain ⟨li, ei⟩ := List.getElem?_eq_some_iff.mp hi
  obtain ⟨lj, ej⟩ := List.getElem?_eq_some_iff.mp hj
  have p := List.pairwise_iff_getElem.mp n
  rcases Nat.lt_trichotomy i j with h | h | h
  · exact absurd (ei.trans ej.symm) (p i j li lj h)
  · exact h
  · exact absurd (ej.trans ei.symm) (p j i lj li h)
theorem numK_val {cs : List (Str × Int)} {i : Nat} {c : Str × Int} (n : cs.Nodup) (h : cs[i]? = some c) : valV (numK cs) (ckey c) = some (V.int (i : Nat)) := by
  refine valV_at (numK_at h) fun j p hj e q => ?_
  obtain ⟨d, hd, rfl⟩ := numK_of e
  have := ckey_inj q
  subst this
  have := nd_ixG n hd h
  omega
theorem numK_new {cs : List (Str × Int)} {c : Str × Int} (n : c ∉ cs) : valV (numK cs) (ckey c) = none := by
  refine valV_none fun p hp e => ?_
  obtain ⟨i, hi, ei⟩ := List.mem_iff_getElem.mp hp
  obtain ⟨d, hd, rfl⟩ := numK_of (by rw [List.getElem?_eq_getElem hi, ei])
  have := ckey_inj e
  subst this
  exact n (List.mem_of_getElem? hd)
theorem numK_len (cs : List (Str × Int)) : (numK cs).length = cs.length := by simp [numK]
theorem calls_nd {v : Vlt} (n : (v.deeds.map (·.1)).Nodup) : v.calls.Nodup := by
  unfold Vlt.calls List.Nodup
  rw [List.pairwise_flatMap]
  refine ⟨fun d _ => ?_, ?_⟩
  · rw [List.pairwise_map]
    refine List.Pairwise.imp (fun {a b} h e => h ?_) (List.nodup_range (n := d.2.1.toNat))
    have := (Prod.ext_iff.mp e).2
    simp only [] at this
    exact Int.ofNat.inj this
  · have n := List.pairwise_map.mp n
    refine n.imp fun {a b} h x hx y hy e => ?_
    obtain ⟨_, _, rfl⟩ := List.mem_map.mp hx
    obtain ⟨_, _, rfl⟩ := List.mem_map.mp hy
    exact h (Prod.ext_iff.mp e).1
theorem calls_len {v : Vlt} (ok : VOk v) : v.calls.length ≤ 72 := by
  have : ∀ l : List (Str × Int × List Row), (∀ d ∈ l, d.2.1 ≤ 9) → (l.flatMap fun d => (List.range d.2.1.toNat).map fun (j : Nat) => (d.1, (j : Int))).length ≤ 9 * l.length := by
    intro l
    induction l with
    | nil => intro _; simp
    | cons d r ih =>
      intro h
      rw [List.flatMap_cons, List.length_append, List.length_map, List.length_range, List.length_cons]
      have h1 := h d List.mem_cons_self
      have h2 := ih fun d hd => h d (List.mem_cons_of_mem _ hd)
      omega
  have q := this v.deeds fun d hd => (ok.ch d hd).2
  have := ok.d1
  unfold Vlt.calls
  omega
theorem calls_of {v : Vlt} {c : Str × Int} (h : c ∈ v.calls) : ∃ d ∈ v.deeds, d.1 = c.1 := by
  unfold Vlt.calls at h
  obtain ⟨d, hd, hc⟩ := List.mem_flatMap.mp h
  obtain ⟨_, _, rfl⟩ := List.mem_map.mp hc
  exact ⟨d, hd, rfl⟩
theorem tups_at {H : Hp} : ∀ {ys : List V} {cs : List (Str × Int)} {i : Nat} {y : V}, TupsAt H ys cs → ys[i]? = some y → ∃ c t, cs[i]? = some c ∧ y = .ref t ∧ H t = some (.tup [.str c.1, .int c.2])
  | [], [], i, y, _, h => by simp at h
  | _ :: _, c :: _, 0, y, ⟨⟨t, e, h⟩, _⟩, q => by
    cases (Option.some.inj q)
    exact ⟨c, t, rfl, e, h⟩
  | _ :: _, _ :: _, i + 1, y, ⟨_, r⟩, q => tups_at (i := i) r q
  | [], _ :: _, _, _, h, _ => h.elim
  | _ :: _, [], _, _, h, _ => h.elim
/-- the vault's method m is its class's -/
theorem VaultAt.me {K : PySem.W.Frag} {H : Hp} {p : Addr} {v : Vlt} (h : VaultAt K H p v) (m : Str) (h1 : ¬ m = "_cells" := by decide +kernel) (h2 : ¬ m = "_deeds" := by decide +kernel) (h3 : ¬ m = "_codes" := by decide +kernel) (h4 : ¬ m = "_coins" := by decide +kernel) :
    ∃ dx fs, H p = some (.ins (He.ga K "Vault") dx fs) ∧ fs.lookup m = none := by
  obtain ⟨dx, a, d, c, b, kvs, e1, _⟩ := h.ob
  exact ⟨dx, _, e1, vf_no a d c b h1 h2 h3 h4⟩
section
variable {P : Program} {w : World} {K : PySem.W.Frag} {mg : Str → Option Value} {base : Heap}
def spNumbers (K : PySem.W.Frag) : Sp := fun vs H Q _ => ∃ (p : Addr) (v : Vlt), vs = [.ref p] ∧ VaultAt K H p v ∧ VOk v ∧ ∀ d H', Same H H' → H' d = some (.dT (numK v.calls)) → Q (.ref d) H'
end

end M

set_option Elab.async false
set_option linter.all false
set_option maxRecDepth 100000
set_option maxHeartbeats 2000000
namespace M
open PySem PySem.Spec PyProof.Rows L2

/-- an attribute, the library told -/
theorem pe_fldK {X : Cx} {e : Expr} {ta : TE} {f : Str} {pos : Pos} (K : PySem.W.Frag) (hK : X.K = K) (he : PE X e ta) (hb : attributeBase e f X.env (eval e X.env) = eval e X.env) : PE X (.Attribute e f pos) (tFld K ta f) := hK ▸ pe_fld he hb
section
variable {P : Program} {w : World} {K : PySem.W.Frag} {mg : Str → Option Value} {base : Heap}
def spNumber : Sp := fun vs H Q _ => ∃ (d t : Addr) (kvs : List (List Key × V)) (c : Str × Int) (i : Int), vs = [.ref d, .ref t] ∧ H d = some (.dT kvs) ∧ H t = some (.tup [.str c.1, .int c.2]) ∧ valV kvs (ckey c) = some (.int i) ∧ Q (.int i) H
def spFalls (K : PySem.W.Frag) : Sp := fun vs H Q _ => ∃ (a : Addr) (fs : List Int), vs = [.ref a] ∧ SqL K H a (fs.map .int) ∧ (∀ f ∈ fs, 0 ≤ f ∧ f ≤ 1) ∧ Q (.bl true) H
def spChkState (K : PySem.W.Frag) : Sp := fun vs H Q _ => ∃ (p b : Addr) (v : Vlt) (hs : List Int), vs = [.ref p, .ref b] ∧ VaultAt K H p v ∧ VOk v ∧ SqT K H b (hs.map .int) ∧ StateOk (v.cells.map (·.1)) hs ∧ ∀ H', Same H H' → Q .non H'
theorem ca_check_state (T : Txt w K mg) : Ca P w K mg base 4 "check_state" (spChkState K) := by
  refine ca_of (N := ["vault", "state"]) (ps := ["vault", "state"]) T.f_check_state T.g_check_state ⟨rfl, rfl, rfl, by decide +kernel, rfl, by decide +kernel, by decide +kernel⟩ (fun _ _ _ _ _ _ us hl => match us, hl with | [_, _], _ => rfl)
    (fun vs H Q E h => by obtain ⟨p, b, v, hs, rfl, hv, ok, hb, so, q⟩ := h; rfl) (fun cdv A outer s H vs Q E hr h => ?_)
  have nd : (["vault", "state"] : List Str).Nodup := by decide +kernel
  obtain ⟨p, b, v, hs, rfl, hv, ok, hb, so, q⟩ := h
  refine ⟨_, (pss_one (ps_if (pt_not (pt_val (pe_ca (ca_is_state T) hr (pa_cons (pe_me0 (me_Vault_sizes T) hr (pv 0)) (pa_cons (pv 1) pa_nil))))) (pss_one ps_never) pss_nil)), ?_⟩
  obtain ⟨dx, fs, e1, e2⟩ := hv.me "sizes"
  refine ⟨_, rfl, p, dx, fs, rfl, e1, e2, p, v, rfl, hv, ok.c1, fun a H1 s1 ha => ⟨_, rfl, a, b, _, hs, rfl, .of ha, same_t s1 hb, so, fun H2 s2 => ⟨_, rfl, iteF (q H2 (s1.trans s2))⟩⟩⟩
def spChkCall (K : PySem.W.Frag) : Sp := fun vs H Q _ => ∃ (p t : Addr) (v : Vlt) (i : Nat) (c : Str × Int), vs = [.ref p, .ref t] ∧ VaultAt K H p v ∧ VOk v ∧ H t = some (.tup [.str c.1, .int c.2]) ∧ v.calls[i]? = some c ∧ ∀ H', Same H H' → Q .non H'
/-- what a run of the call c begins with -/
def StartAt (K : PySem.W.Frag) (H : Hp) (v : Vlt) (c : Str × Int) (y : V) : Prop := ∃ d ∈ v.deeds, d.1 = c.1 ∧ Dp K H y (.tuple [codeD d.2.2, .int c.2])
theorem StartAt.but {H H' : Hp} {v : Vlt} {c : Str × Int} {y : V} {D : Addr} (hD : Ch H D) (s : But D H H') (h : StartAt K H v c y) : StartAt K H' v c y := by
  obtain ⟨d, hd, e, h⟩ := h
  refine ⟨d, hd, e, dp_but hD s h (.tup fun x hx => ?_)⟩
  rcases List.mem_cons.mp hx with rfl | hx
  · exact code_noL _
  · rw [List.mem_singleton.mp hx]
    exact .int _
def spStarts (K : PySem.W.Frag) : Sp := fun vs H Q _ => ∃ (p : Addr) (v : Vlt), vs = [.ref p] ∧ VaultAt K H p v ∧ VOk v ∧ ∀ (a : Addr) (ys : List V) (H' : Hp), Same H H' → H a = none → H' a = some (.lst ys) → ys.length = v.calls.length → (∀ (i : Nat) (y : V), ys[i]? = some y → ∃ c, v.calls[i]? = some c ∧ StartAt K H' v c y) → Q (.ref a) H'
theorem me_Vault_starts (T : Txt w K mg) : Me P w K mg base 2 (He.ga K "Vault") "starts" (spStarts K) := by
  refine me_of (N := ["self", "name", "argument"]) (ps := ["self"]) T.f_Vault_starts T.c_Vault T.m_Vault_starts ⟨rfl, rfl, rfl, by decide +kernel, rfl, by decide +kernel, by decide +kernel⟩ (fun _ _ _ _ _ _ us hl => match us, hl with | [_], _ => rfl)
    (fun vs H Q E h => by obtain ⟨p, v, rfl, hv, ok, q⟩ := h; rfl) (fun cdv A outer s H vs Q E hr h => ?_)
  have nd : (["self", "name", "argument"] : List Str).Nodup := by decide +kernel
  obtain ⟨p, v, rfl, hv, ok, q⟩ := h
  obtain ⟨dx, a, d, c, b, kvs, h1, h2, h3, h4, h5⟩ := hv.ob
  refine ⟨_, pss_one (ps_ret (pe_lc (own := [("name", 1), ("argument", 2)]) (tt := tYes) rfl nd (pi_list (pe_me0 (me_Vault_calls T) hr (pv 0))) (blkOk_by (N := ["self", "name", "argument"]) (sc := defScope s_Vault_starts) (by decide +kernel))
    (fun _ _ _ _ _ => pg_two K 1 2 rfl rfl nd rfl rfl (.inl rfl) (.inl rfl) (.inr rfl) (.inr rfl)) (fun _ _ _ _ _ => pts_nil) (fun _ _ _ _ _ => pe_tup (pa_cons (pe_dget (hu_of hr) (pe_fldK K rfl (pv 0) rfl) (pv 1) (fun _ _ => rfl)) (pa_cons (pv 2) pa_nil))))), ?_⟩
  obtain ⟨dx', fs, e1, e2⟩ := hv.me "calls"
  have l72 := calls_len ok
  refine ⟨_, rfl, p, dx', fs, rfl, e1, e2, p, v, rfl, hv, ok, fun l ys H1 s1 hl ht => ⟨l, rfl, ⟨_, .of hl⟩, fun D hD => ?_⟩⟩
  have ly := tups_len ht
  refine lc_out (n := ys.length) walk_list hD (by omega) (fun i y H => ∃ c, v.calls[i]? = some c ∧ StartAt K H v c y) (fun i y H H' hc s ⟨c, e, h⟩ => ⟨c, e, h.but hc s⟩) (fun H' s => s.seq (.of hl)) (fun i x H' H2 N F hi s y k => ?_) (fun H' zs s hD' hl' hr => ?_)
  · obtain ⟨rfl, ex⟩ := y
    obtain ⟨cc, t, hc, rfl, hu⟩ := tups_at ht ex
    obtain ⟨dd, hdd, en⟩ := calls_of (List.mem_of_getElem? hc)
    have sH := s1.trans s
    obtain ⟨u, hu2, hcode⟩ := codes_get (codes_same sH h5) ok.nd hdd
    refine ⟨t, _, rfl, .of (s _ _ hu), rfl, _, _, rfl, _, _, rfl, rfl, rfl, iteT ?_⟩
    refine ⟨_, rfl, p, _, _, _, _, rfl, sH _ _ h1, T.c_Vault, T.n_Vault_codes, vf_codes .., _, rfl, c, u, rfl, ?_, _, rfl, (by show 2 ≤ sizeLine; decide), fun t2 nt2 => k _ _ (same_new nt2) ⟨cc, hc, dd, hdd, en, ?_⟩⟩
    · rw [← en, ← hu2]
      exact DGet.k (k := Sum.inr dd.1) (sH _ _ h4)
    · exact .tup (.of upd_same) (.cons (dp_same (same_new nt2) hcode) (.cons (.int _) .nil))
  · refine q D zs H' (s1.trans s) (by
      cases e : H D with
      | none => rfl
      | some o =>
        rw [s1 _ _ e] at hD
        cases hD) hD' (by omega) hr
end

end M

set_option Elab.async false
set_option linter.all false
set_option maxRecDepth 100000
set_option maxHeartbeats 2000000
namespace M
open PySem PySem.Spec PyProof.Rows L2

/-! ### the registers -/
def heldK (r : Str → Int) : List (Key × V) := regs5.map fun s => (Sum.inr s, V.int (r s))
def rset (r : Str → Int) (s : Str) (i : Int) : Str → Int := fun t => if t = s then i else r t
theorem valV_map {f : Str → V} {s : Str} : ∀ {l : List Str}, s ∈ l → valV (l.map fun t => ((Sum.inr t : Key), f t)) (Sum.inr s) = some (f s)
  | [], h => by cases h
  | t :: l, h => by
    unfold valV
    by_cases e : t = s
    · subst e
      rw [List.map_cons, List.find?_cons_of_pos (by simp)]
      rfl
    · have hs : s ∈ l := by
        rcases List.mem_cons.mp h with z | z
        · exact absurd z.symm e
        · exact z
      have := valV_map (f := f) hs
      unfold valV at this
      rw [List.map_cons, List.find?_cons_of_neg (by simp [e])]
      exact this
theorem held_get {r : Str → Int} {s : Str} (h : s ∈ regs5) : valV (heldK r) (Sum.inr s) = some (.int (r s)) := valV_map (f := fun s => V.int (r s)) h
theorem held_put {r : Str → Int} {s : Str} {i : Int} (h : s ∈ regs5) : putK (heldK r) (Sum.inr s) (.int i) = heldK (rset r s i) := by
  unfold putK
  rw [valV_any, held_get h, if_pos (show (some (V.int (r s))).isSome = true from rfl)]
  unfold heldK
  rw [List.map_map]
  refine List.map_congr_left fun t _ => ?_
  show (if (Sum.inr t : Key) = Sum.inr s then ((Sum.inr t : Key), V.int i) else ((Sum.inr t : Key), V.int (r t))) = _
  unfold rset
  by_cases e : t = s
  · rw [if_pos (by rw [e]), if_pos e]
  · rw [if_neg (fun z => e (Sum.inr.inj z)), if_neg e]
theorem in45 {s : Str} (h : s ∈ regs4) : s ∈ regs5 := by
  unfold regs4 at h
  unfold regs5
  simp at h ⊢
  rcases h with h | h | h | h
  · exact .inl h
  · exact .inr (.inl h)
  · exact .inr (.inr (.inl h))
  · exact .inr (.inr (.inr (.inl h)))
def r0 (x : Int) : Str → Int := fun s => if s = "x" then x else 0
abbrev kS (s : Str) (v : V) : Key × V := (Sum.inr s, v)
theorem held_r0 (x : Int) : heldK (r0 x) = [kS "a" (.int 0), kS "b" (.int 0), kS "c" (.int 0), kS "d" (.int 0), kS "x" (.int x)] := by
  have e1 : ¬ (("a" : Str) = "x") := by decide +kernel
  have e2 : ¬ (("b" : Str) = "x") := by decide +kernel
  have e3 : ¬ (("c" : Str) = "x") := by decide +kernel
  have e4 : ¬ (("d" : Str) = "x") := by decide +kernel
  unfold heldK regs5 r0
  simp only [List.map_cons, List.map_nil]
  rw [if_neg e1, if_neg e2, if_neg e3, if_neg e4, if_pos trivial]
theorem held_disp (x : Int) : mergeK [] [kS "a" (.int 0), kS "b" (.int 0), kS "c" (.int 0), kS "d" (.int 0), kS "x" (.int x)] = heldK (r0 x) := by
  rw [held_r0]
  kernel_rfl
/-! ### the value of an expression -/
def opv (s : Str) (l r : Int) : Int := if s = "+" then (l + r) % 10 else if s = "-" then (l - r) % 10 else if s = "*" then (l * r) % 10 else if s = "=" then (if l = r then 1 else 0) else if l < r then 1 else 0
def Exp.ev (r : Str → Int) : Exp → Int
  | .num n => n
  | .reg s => r s
  | .op s a b => opv s (a.ev r) (b.ev r)
def RegOk (r : Str → Int) : Prop := ∀ s ∈ regs5, 0 ≤ r s ∧ r s ≤ 9
theorem opv_bd (s : Str) (l r : Int) : 0 ≤ opv s l r ∧ opv s l r ≤ 9 := by
  unfold opv
  split
  · omega
  split
  · omega
  split
  · have := Int.emod_nonneg (l * r) (show (10 : Int) ≠ 0 by decide)
    have := Int.emod_lt_of_pos (l * r) (show (0 : Int) < 10 by decide)
    omega
  split
  · split <;> omega
  · split <;> omega
theorem ev_bd {r : Str → Int} (h : RegOk r) : ∀ {e : Exp}, e.ok → 0 ≤ e.ev r ∧ e.ev r ≤ 9
  | .num n, o => o
  | .reg s, o => h s o
  | .op s a b, _ => opv_bd s _ _
theorem rset_ok {r : Str → Int} {s : Str} {i : Int} (h : RegOk r) (hi : 0 ≤ i ∧ i ≤ 9) : RegOk (rset r s i) := fun t ht => by
  unfold rset
  split
  · exact hi
  · exact h t ht
section
variable {P : Program} {w : World} {K : PySem.W.Frag} {mg : Str → Option Value} {base : Heap}
def spValue (K : PySem.W.Frag) (n : Nat) : Sp := fun vs H Q _ => ∃ (v : V) (e : Exp) (h : Addr) (r : Str → Int), vs = [v, .ref h] ∧ Dp K H v e.d ∧ e.ok ∧ e.dep < n ∧ H h = some (.dK (heldK r)) ∧ RegOk r ∧ Q (.int (e.ev r)) H
theorem ca_value_of : ∀ (n : Nat) (T : Txt w K mg), Ca P w K mg base (n + 1) "value_of" (spValue K n)
  | 0, T => by
    refine ca_of (N := ["expression", "held", "sign", "one", "other", "left", "right"]) (ps := ["expression", "held"]) T.f_value_of T.g_value_of ⟨rfl, rfl, rfl, by decide +kernel, rfl, by decide +kernel, by decide +kernel⟩ (fun _ _ _ _ _ _ us hl => match us, hl with | [_, _], _ => rfl)
      (fun vs H Q E h => by obtain ⟨v, e, h, r, rfl, hv, ok, hd, hh, ro, q⟩ := h; rfl) (fun cdv A outer s H vs Q E hr h => ?_)
    have nd : (["expression", "held", "sign", "one", "other", "left", "right"] : List Str).Nodup := by decide +kernel
    obtain ⟨v, e, h, r, rfl, hv, ok, hd, hh, ro, q⟩ := h
    omega
  | n + 1, T => by
    refine ca_of (N := ["expression", "held", "sign", "one", "other", "left", "right"]) (ps := ["expression", "held"]) T.f_value_of T.g_value_of ⟨rfl, rfl, rfl, by decide +kernel, rfl, by decide +kernel, by decide +kernel⟩ (fun _ _ _ _ _ _ us hl => match us, hl with | [_, _], _ => rfl)
      (fun vs H Q E h => by obtain ⟨v, e, h, r, rfl, hv, ok, hd, hh, ro, q⟩ := h; rfl) (fun cdv A outer s H vs Q E hr h => ?_)
    have nd : (["expression", "held", "sign", "one", "other", "left", "right"] : List Str).Nodup := by decide +kernel
    obtain ⟨v, e, h, r, rfl, hv, ok, hd, hh, ro, q⟩ := h
    refine ⟨_, (pss_cons (ps_if (pt_val (pe_is .str T.b_isinstance (pv 0) T.b_str boot_str)) (pss_one (ps_ret (pe_dget (hu_of hr) (pv 1) (pv 0) (fun _ _ => rfl)))) pss_nil)
      (pss_cons (ps_if (pt_val (pe_is .int T.b_isinstance (pv 0) T.b_int boot_int)) (pss_one (ps_ret (pv 0))) pss_nil)
      (pss_cons (ps_asg (pv 0) (pg_three K 2 3 4 rfl rfl nd rfl rfl rfl (.inl rfl) (.inl rfl) (.inl rfl) (.inr rfl) (.inr rfl) (.inr rfl)))
      (pss_cons (ps_set (i := 5) nd rfl (.inl rfl) (pe_ca (ca_value_of n T) hr (pa_cons (pv 3) (pa_cons (pv 1) pa_nil)) (by omega)))
      (pss_cons (ps_set (i := 6) nd rfl (.inl rfl) (pe_ca (ca_value_of n T) hr (pa_cons (pv 4) (pa_cons (pv 1) pa_nil)) (by omega)))
      (pss_cons (ps_if (pt_cmpR op_eq (pv 2) pe_str (nomark _)) (pss_one (ps_ret (pe_op op_mod (pe_op op_add (pv 5) (pv 6)) pe_int))) pss_nil)
      (pss_cons (ps_if (pt_cmpR op_eq (pv 2) pe_str (nomark _)) (pss_one (ps_ret (pe_op op_mod (pe_op op_sub (pv 5) (pv 6)) pe_int))) pss_nil)
      (pss_cons (ps_if (pt_cmpR op_eq (pv 2) pe_str (nomark _)) (pss_one (ps_ret (pe_op op_mod (pe_op op_mul (pv 5) (pv 6)) pe_int))) pss_nil)
      (pss_cons (ps_if (pt_cmpR op_eq (pv 2) pe_str (nomark _)) (pss_one (ps_ret (pe_ifExp (pt_cmpR op_eq (pv 5) (pv 6) (nomark _)) pe_int pe_int))) pss_nil)
      (pss_one (ps_ret (pe_ifExp (pt_cmpR op_lt (pv 5) (pv 6) (nomark _)) pe_int pe_int)))))))))))), ?_⟩
    cases e with
    | num m =>
      cases dp_int hv
      refine ⟨_, rfl, _, _, rfl, .int m, _, rfl, iteF ?_⟩
      exact ⟨_, rfl, _, _, rfl, .int m, _, rfl, iteT ⟨_, rfl, q⟩⟩
    | reg s =>
      cases dp_str hv
      refine ⟨_, rfl, _, _, rfl, .str s, _, rfl, iteT ?_⟩
      refine ⟨_, rfl, _, rfl, h, _, rfl, ?_, q⟩
      show DGet H h (.str s) (some (V.int (r s)))
      rw [← held_get ok]
      exact DGet.k (k := Sum.inr s) hh
    | op s a b =>
      obtain ⟨t, x1, x2, x3, rfl, ht, e1, e2, e3⟩ := dp3 hv
      cases dp_str e1
      obtain ⟨o1, o2, o3⟩ := ok
      have hd : Nat.max a.dep b.dep + 1 < n + 1 := hd
      have da : a.dep < n := Nat.lt_of_le_of_lt (Nat.le_max_left _ _) (Nat.lt_of_succ_lt_succ hd)
      have db : b.dep < n := Nat.lt_of_le_of_lt (Nat.le_max_right _ _) (Nat.lt_of_succ_lt_succ hd)
      refine ⟨_, rfl, _, _, rfl, .tuple ht, _, rfl, iteF ?_⟩
      refine ⟨_, rfl, _, _, rfl, .tuple ht, _, rfl, iteF ?_⟩
      refine ⟨_, rfl, t, _, rfl, ht, rfl, _, _, rfl, _, _, rfl, _, _, rfl, rfl, ?_⟩
      refine ⟨_, rfl, _, rfl, x2, a, h, r, rfl, e2, o2, da, hh, ro, ?_⟩
      refine ⟨_, rfl, _, rfl, x3, b, h, r, rfl, e3, o3, db, hh, ro, ?_⟩
      have ba := ev_bd ro o2
      have bb := ev_bd ro o3
      have q : Q (.int (opv s (a.ev r) (b.ev r))) H := q
      generalize a.ev r = l at q ba
      generalize b.ev r = m at q bb
      have n1 : ¬ (("-" : Str) = "+") := by decide +kernel
      have n2 : ¬ (("*" : Str) = "+") := by decide +kernel
      have n3 : ¬ (("*" : Str) = "-") := by decide +kernel
      have n4 : ¬ (("=" : Str) = "+") := by decide +kernel
      have n5 : ¬ (("=" : Str) = "-") := by decide +kernel
      have n6 : ¬ (("=" : Str) = "*") := by decide +kernel
      have n7 : ¬ (("<" : Str) = "+") := by decide +kernel
      have n8 : ¬ (("<" : Str) = "-") := by decide +kernel
      have n9 : ¬ (("<" : Str) = "*") := by decide +kernel
      have n10 : ¬ (("<" : Str) = "=") := by decide +kernel
      unfold signs at o1
      simp only [List.mem_cons, List.not_mem_nil, or_false] at o1
      rcases o1 with rfl | rfl | rfl | rfl | rfl
      · refine ⟨_, rfl, rfl, _, rfl, iteT ?_⟩
        refine ⟨_, rfl, _, rfl, _, _, rfl, rfl, _, _, rfl, rfl, (by show (0 : Int) < 10; decide), ?_⟩
        unfold opv at q
        rw [if_pos rfl] at q
        exact q
      · refine ⟨_, rfl, rfl, _, rfl, iteF ⟨_, rfl, rfl, _, rfl, iteT ?_⟩⟩
        refine ⟨_, rfl, _, rfl, _, _, rfl, rfl, _, _, rfl, rfl, (by show (0 : Int) < 10; decide), ?_⟩
        unfold opv at q
        rw [if_neg n1, if_pos rfl] at q
        exact q
      · refine ⟨_, rfl, rfl, _, rfl, iteF ⟨_, rfl, rfl, _, rfl, iteF ⟨_, rfl, rfl, _, rfl, iteT ?_⟩⟩⟩
        refine ⟨_, rfl, _, rfl, _, _, rfl, rfl, .inl (by omega), _, _, rfl, rfl, (by show (0 : Int) < 10; decide), ?_⟩
        unfold opv at q
        rw [if_neg n2, if_neg n3, if_pos rfl] at q
        exact q
      · refine ⟨_, rfl, rfl, _, rfl, iteF ⟨_, rfl, rfl, _, rfl, iteF ⟨_, rfl, rfl, _, rfl, iteF ⟨_, rfl, rfl, _, rfl, iteT ?_⟩⟩⟩⟩
        refine ⟨_, rfl, _, rfl, rfl, _, rfl, ?_⟩
        unfold opv at q
        rw [if_neg n4, if_neg n5, if_neg n6, if_pos rfl] at q
        by_cases c : l = m
        · rw [if_pos c] at q
          rw [decide_eq_true (show V.int l = V.int m from congrArg V.int c)]
          exact iteT q
        · rw [if_neg c] at q
          rw [decide_eq_false (show ¬ V.int l = V.int m from fun z => c (V.int.inj z))]
          exact iteF q
      · refine ⟨_, rfl, rfl, _, rfl, iteF ⟨_, rfl, rfl, _, rfl, iteF ⟨_, rfl, rfl, _, rfl, iteF ⟨_, rfl, rfl, _, rfl, iteF ?_⟩⟩⟩⟩
        refine ⟨_, rfl, _, rfl, _, _, rfl, rfl, _, rfl, ?_⟩
        unfold opv at q
        rw [if_neg n7, if_neg n8, if_neg n9, if_neg n10] at q
        by_cases c : l < m
        · rw [if_pos c] at q
          rw [decide_eq_true c]
          exact iteT q
        · rw [if_neg c] at q
          rw [decide_eq_false c]
          exact iteF q
end

end M

set_option Elab.async false
set_option linter.all false
set_option maxRecDepth 100000
set_option maxHeartbeats 2000000
namespace M
open PySem PySem.Spec PyProof.Rows L2

/-! ### a run -/
structure Mst where
  code : List FR
  sides : List Int
  cells : List Int
  coins : List Int
  fallen : Int
  regs : Str → Int
  rounds : List Int
  place : Int
  res : Option Int
structure RA where
  x : Addr
  dx : Addr
  c : Addr
  s : Addr
  l : Addr
  n : Addr
  h : Addr
  u : Addr
  ct : Bool
def resV : Option Int → V
  | none => .non
  | some i => .int i
def rf (c s l n : Addr) (f : Int) (h u : Addr) (p : Int) (z : V) : List (Str × V) := [("code", .ref c), ("sides", .ref s), ("cells", .ref l), ("coins", .ref n), ("fallen", .int f), ("held", .ref h), ("rounds", .ref u), ("place", .int p), ("result", z)]
section
variable {c s l n h u : Addr} {f p g q : Int} {z y : V}
theorem rf_code : (rf c s l n f h u p z).lookup ("code" : Str) = some (.ref c) := by kernel_rfl
theorem rf_sides : (rf c s l n f h u p z).lookup ("sides" : Str) = some (.ref s) := by kernel_rfl
theorem rf_cells : (rf c s l n f h u p z).lookup ("cells" : Str) = some (.ref l) := by kernel_rfl
theorem rf_coins : (rf c s l n f h u p z).lookup ("coins" : Str) = some (.ref n) := by kernel_rfl
theorem rf_fallen : (rf c s l n f h u p z).lookup ("fallen" : Str) = some (.int f) := by kernel_rfl
theorem rf_held : (rf c s l n f h u p z).lookup ("held" : Str) = some (.ref h) := by kernel_rfl
theorem rf_rounds : (rf c s l n f h u p z).lookup ("rounds" : Str) = some (.ref u) := by kernel_rfl
theorem rf_place : (rf c s l n f h u p z).lookup ("place" : Str) = some (.int p) := by kernel_rfl
theorem rf_result : (rf c s l n f h u p z).lookup ("result" : Str) = some z := by kernel_rfl
theorem rf_putF : putF "fallen" (.int g) (rf c s l n f h u p z) = rf c s l n g h u p z := by kernel_rfl
theorem rf_putP : putF "place" (.int q) (rf c s l n f h u p z) = rf c s l n f h u q z := by kernel_rfl
theorem rf_putR : putF "result" y (rf c s l n f h u p z) = rf c s l n f h u p y := by kernel_rfl
theorem rf_new : putF "result" .non (putF "place" (.int 0) (putF "rounds" (.ref u) (putF "held" (.ref h) (putF "fallen" (.int 0) (putF "coins" (.ref n) (putF "cells" (.ref l) (putF "sides" (.ref s) (putF "code" (.ref c) [])))))))) = rf c s l n 0 h u 0 .non := by kernel_rfl
end
/-- the coins: a list, or a tuple -/
def CoinsAt (K : PySem.W.Frag) (H : Hp) (ct : Bool) (n l u : Addr) (cs : List Int) : Prop := (ct = false ∧ H n = some (.lst (cs.map .int)) ∧ n ≠ l ∧ n ≠ u) ∨ (ct = true ∧ SqT K H n (cs.map .int))
structure RunAt (K : PySem.W.Frag) (H : Hp) (R : RA) (st : Mst) : Prop where
  ins : H R.x = some (.ins (He.ga K "Run") R.dx (rf R.c R.s R.l R.n st.fallen R.h R.u st.place (resV st.res)))
  code : Dp K H (.ref R.c) (.tuple (st.code.map FR.d))
  sides : SqT K H R.s (st.sides.map .int)
  cells : H R.l = some (.lst (st.cells.map .int))
  coins : CoinsAt K H R.ct R.n R.l R.u st.coins
  held : H R.h = some (.dK (heldK st.regs))
  rounds : H R.u = some (.lst (st.rounds.map .int))
  lu : R.l ≠ R.u
theorem codeF_noL (fs : List FR) : NoL (.tuple (fs.map FR.d)) := .tup fun d h => by
  obtain ⟨r, _, rfl⟩ := List.mem_map.mp h
  exact r.noL
theorem ne_ho {H : Hp} {a b : Addr} {o p : HO} (ha : H a = some o) (hb : H b = some p) (n : o ≠ p) : a ≠ b := fun e => n (by rw [e, hb] at ha; exact (Option.some.inj ha).symm)
theorem sqL_ne {K : PySem.W.Frag} {H H' : Hp} {D a : Addr} {xs : List V} (s : But D H H') (ne : a ≠ D) (h : SqL K H a xs) : SqL K H' a xs := by
  rcases h with (h | ⟨o, h⟩) | h
  · exact .inl (.inl (s _ _ ne h))
  · exact .inl (.inr ⟨o, s _ _ ne h⟩)
  · exact .inr h
section
variable {K : PySem.W.Frag} {H H' : Hp} {R : RA} {st : Mst}
theorem coins_but {D n l u : Addr} {ct : Bool} {cs : List Int} (hc : Ch H D) (hn : NoLst H D ∨ D = l ∨ D = u) (b : But D H H') (h : CoinsAt K H ct n l u cs) : CoinsAt K H' ct n l u cs := by
  rcases h with ⟨t, h, h1, h2⟩ | ⟨t, h⟩
  · refine .inl ⟨t, b _ _ ?_ h, h1, h2⟩
    rcases hn with hn | e | e
    · exact fun e => hn.1 _ (e ▸ h)
    · exact e ▸ h1
    · exact e ▸ h2
  · exact .inr ⟨t, sqT_but hc b h⟩
theorem CoinsAt.seq {ct : Bool} {n l u : Addr} {cs : List Int} (h : CoinsAt K H ct n l u cs) : SqL K H n (cs.map .int) ∨ SqT K H n (cs.map .int) := h.elim (fun h => .inl (.of h.2.1)) (fun h => .inr h.2)
theorem RunAt.xl (r : RunAt K H R st) : R.x ≠ R.l := ne_ho r.ins r.cells fun e => nomatch e
theorem RunAt.xh (r : RunAt K H R st) : R.x ≠ R.h := ne_ho r.ins r.held fun e => nomatch e
theorem RunAt.xu (r : RunAt K H R st) : R.x ≠ R.u := ne_ho r.ins r.rounds fun e => nomatch e
theorem RunAt.lh (r : RunAt K H R st) : R.l ≠ R.h := ne_ho r.cells r.held fun e => nomatch e
theorem RunAt.uh (r : RunAt K H R st) : R.u ≠ R.h := ne_ho r.rounds r.held fun e => nomatch e
/-- the instance is written -/
theorem RunAt.setX (r : RunAt K H R st) (f p : Int) (z : Option Int) : RunAt K (upd H R.x (.ins (He.ga K "Run") R.dx (rf R.c R.s R.l R.n f R.h R.u p (resV z)))) R { st with fallen := f, place := p, res := z } := by
  have b : But R.x H (upd H R.x (.ins (He.ga K "Run") R.dx (rf R.c R.s R.l R.n f R.h R.u p (resV z)))) := But.upd
  exact ⟨upd_same, dp_but (.ins r.ins) b r.code (codeF_noL _), sqT_but (.ins r.ins) b r.sides, b _ _ (Ne.symm r.xl) r.cells, coins_but (.ins r.ins) (.inl (.ins r.ins)) b r.coins, b _ _ (Ne.symm r.xh) r.held, b _ _ (Ne.symm r.xu) r.rounds, r.lu⟩
theorem RunAt.setL (r : RunAt K H R st) (cs : List Int) : RunAt K (upd H R.l (.lst (cs.map .int))) R { st with cells := cs } := by
  have b : But R.l H (upd H R.l (.lst (cs.map .int))) := But.upd
  exact ⟨b _ _ r.xl r.ins, dp_but (.lst r.cells) b r.code (codeF_noL _), sqT_but (.lst r.cells) b r.sides, upd_same, coins_but (.lst r.cells) (.inr (.inl rfl)) b r.coins, b _ _ (Ne.symm r.lh) r.held, b _ _ (Ne.symm r.lu) r.rounds, r.lu⟩
theorem RunAt.setU (r : RunAt K H R st) (cs : List Int) : RunAt K (upd H R.u (.lst (cs.map .int))) R { st with rounds := cs } := by
  have b : But R.u H (upd H R.u (.lst (cs.map .int))) := But.upd
  exact ⟨b _ _ r.xu r.ins, dp_but (.lst r.rounds) b r.code (codeF_noL _), sqT_but (.lst r.rounds) b r.sides, b _ _ r.lu r.cells, coins_but (.lst r.rounds) (.inr (.inr rfl)) b r.coins, b _ _ (Ne.symm r.uh) r.held, upd_same, r.lu⟩
theorem RunAt.setH (r : RunAt K H R st) (g : Str → Int) : RunAt K (upd H R.h (.dK (heldK g))) R { st with regs := g } := by
  have b : But R.h H (upd H R.h (.dK (heldK g))) := But.upd
  exact ⟨b _ _ r.xh r.ins, dp_but (.dK r.held) b r.code (codeF_noL _), sqT_but (.dK r.held) b r.sides, b _ _ r.lh r.cells, coins_but (.dK r.held) (.inl (.dK r.held)) b r.coins, upd_same, b _ _ r.uh r.rounds, r.lu⟩
/-- what is new does not matter -/
theorem RunAt.same (s : Same H H') (r : RunAt K H R st) : RunAt K H' R st := ⟨s _ _ r.ins, dp_same s r.code, same_t s r.sides, s _ _ r.cells, r.coins.elim (fun h => .inl ⟨h.1, s _ _ h.2.1, h.2.2⟩) (fun h => .inr ⟨h.1, same_t s h.2⟩), s _ _ r.held, s _ _ r.rounds, r.lu⟩
/-- what is none of its own does not matter -/
theorem RunAt.butD {D : Addr} (hc : Ch H D) (dx : D ≠ R.x) (dl : D ≠ R.l) (dh : D ≠ R.h) (du : D ≠ R.u) (dn : R.ct = false → D ≠ R.n) (b : But D H H') (r : RunAt K H R st) : RunAt K H' R st := ⟨b _ _ (Ne.symm dx) r.ins, dp_but hc b r.code (codeF_noL _), sqT_but hc b r.sides, b _ _ (Ne.symm dl) r.cells,
  r.coins.elim (fun h => .inl ⟨h.1, b _ _ (Ne.symm (dn h.1)) h.2.1, h.2.2⟩) (fun h => .inr ⟨h.1, sqT_but hc b h.2⟩), b _ _ (Ne.symm dh) r.held, b _ _ (Ne.symm du) r.rounds, r.lu⟩
/-- all but the run's own is as it was -/
def Bt (R : RA) (H H' : Hp) : Prop := ∀ b o, b ≠ R.x → b ≠ R.l → b ≠ R.h → b ≠ R.u → H b = some o → H' b = some o
theorem Bt.refl (R : RA) (H : Hp) : Bt R H H := fun _ _ _ _ _ _ e => e
theorem Bt.trans {H1 H2 H3 : Hp} (s : Bt R H1 H2) (t : Bt R H2 H3) : Bt R H1 H3 := fun b o h1 h2 h3 h4 e => t b o h1 h2 h3 h4 (s b o h1 h2 h3 h4 e)
theorem Bt.x (s : But R.x H H') : Bt R H H' := fun b o h _ _ _ e => s b o h e
theorem Bt.l (s : But R.l H H') : Bt R H H' := fun b o _ h _ _ e => s b o h e
theorem Bt.h (s : But R.h H H') : Bt R H H' := fun b o _ _ h _ e => s b o h e
theorem Bt.u (s : But R.u H H') : Bt R H H' := fun b o _ _ _ h e => s b o h e
end
/-- a call under way, at its beginning -/
def mst0 (code : List FR) (sides cells coins : List Int) (a : Int) : Mst := ⟨code, sides, cells, coins, 0, r0 a, [], 0, none⟩
section
variable {P : Program} {w : World} {K : PySem.W.Frag} {mg : Str → Option Value} {base : Heap}
def spRun (K : PySem.W.Frag) : Sp := fun vs H Q _ => ∃ (p dx y s l n : Addr) (ct : Bool) (code : List FR) (sides cells coins : List Int) (a : Int), vs = [.ref p, .ref y, .ref s, .ref l, .ref n] ∧ H p = some (.ins (He.ga K "Run") dx []) ∧ Dp K H (.ref y) (.tuple [.tuple (code.map FR.d), .int a]) ∧
  SqT K H s (sides.map .int) ∧ H l = some (.lst (cells.map .int)) ∧ ((ct = false ∧ H n = some (.lst (coins.map .int)) ∧ n ≠ l) ∨ (ct = true ∧ SqT K H n (coins.map .int))) ∧
  ∀ (R : RA) (H' : Hp), R.x = p → R.l = l → R.ct = ct → R.n = n → H R.h = none → H R.u = none → But p H H' → RunAt K H' R (mst0 code sides cells coins a) → Q .non H'
theorem ma_Run (T : Txt w K mg) : Ma P w K mg base 1 "Run" (He.ga K "Run") (spRun K) := by
  refine ma_of (N := ["self", "start", "sizes", "cells", "coins"]) (ps := ["self", "start", "sizes", "cells", "coins"]) T.f_Run_init T.g_Run T.k_Run ⟨rfl, rfl, rfl, by decide +kernel, rfl, by decide +kernel, by decide +kernel⟩ (fun _ _ _ _ _ _ us hl => match us, hl with | [_, _, _, _, _], _ => rfl)
    (fun vs H Q E h => by obtain ⟨p, dx, y, s, l, n, ct, code, sides, cells, coins, a, rfl, hp, hy, hs, hl, hn, q⟩ := h; rfl) (fun cdv A outer s H vs Q E hr h => ?_)
  have nd : (["self", "start", "sizes", "cells", "coins"] : List Str).Nodup := by decide +kernel
  obtain ⟨p, dx, y, s, l, n, ct, code, sides, cells, coins, a, rfl, hp, hy, hs, hl, hn, q⟩ := h
  refine ⟨_, (pss_cons (ps_fld (pv 0) (pe_ix ix_tup (pv 1) pe_int (fun _ _ => rfl)) rfl)
      (pss_cons (ps_fld (pv 0) (pv 2) rfl)
      (pss_cons (ps_fld (pv 0) (pv 3) rfl)
      (pss_cons (ps_fld (pv 0) (pv 4) rfl)
      (pss_cons (ps_fld (pv 0) pe_int rfl)
      (pss_cons (ps_fld (pv 0) (pe_disp (pps_cons pe_str pe_int (pps_cons pe_str pe_int (pps_cons pe_str pe_int (pps_cons pe_str pe_int (pps_cons pe_str (pe_ix ix_tup (pv 1) pe_int (fun _ _ => rfl)) pps_nil))))) rfl rfl (List.cons_ne_nil _ _) (by decide)) rfl)
      (pss_cons (ps_fld (pv 0) (pe_lst pa_nil) rfl)
      (pss_cons (ps_fld (pv 0) pe_int rfl)
      (pss_one (ps_fld (pv 0) pe_non rfl)))))))))), ?_⟩
  obtain ⟨ya, c0, a0, ey, hya, hc0, ha0⟩ := dp2 hy
  cases ey
  obtain ⟨c, cs, ec, hcs, hcd⟩ := dp_tup hc0
  cases ec
  cases dp_int ha0
  have np : NoLst H p := .ins hp
  have cp : Ch H p := .ins hp
  refine ⟨_, rfl, _, _, _, _, rfl, rfl, hya, at0, _, rfl, p, _, dx, _, rfl, hp, T.c_Run, T.n_Run_code, (by show 0 < 1000; decide), ?_⟩
  refine ⟨_, rfl, _, rfl, p, _, dx, _, rfl, upd_same, T.c_Run, T.n_Run_sides, (by show 1 < 1000; decide), ?_⟩
  refine ⟨_, rfl, _, rfl, p, _, dx, _, rfl, upd_same, T.c_Run, T.n_Run_cells, (by show 2 < 1000; decide), ?_⟩
  refine ⟨_, rfl, _, rfl, p, _, dx, _, rfl, upd_same, T.c_Run, T.n_Run_coins, (by show 3 < 1000; decide), ?_⟩
  refine ⟨_, rfl, p, _, dx, _, rfl, upd_same, T.c_Run, T.n_Run_fallen, (by show 4 < 1000; decide), ?_⟩
  rw [upd_upd, upd_upd, upd_upd, upd_upd]
  generalize eH : upd H p (.ins (He.ga K "Run") dx (putF "fallen" (.int 0) (putF "coins" (.ref n) (putF "cells" (.ref l) (putF "sides" (.ref s) (putF "code" (.ref c) [])))))) = Hc
  have b0 : But p H Hc := eH ▸ But.upd
  have hpc : Hc p = some (.ins (He.ga K "Run") dx (putF "fallen" (.int 0) (putF "coins" (.ref n) (putF "cells" (.ref l) (putF "sides" (.ref s) (putF "code" (.ref c) [])))))) := by rw [← eH, upd_same]
  refine fun hd nhd => ?_
  have s1 : Same Hc (upd Hc hd (.dK [])) := same_new nhd
  have hdp : hd ≠ p := fun e => by rw [e, hpc] at nhd; cases nhd
  refine ⟨_, rfl, _, _, _, _, rfl, rfl, same_t s1 (sqT_but cp b0 hya), at1, upd_same, [kS "a" (.int 0), kS "b" (.int 0), kS "c" (.int 0), kS "d" (.int 0), kS "x" (.int a)], rfl, (by show 5 ≤ 15; decide), ?_⟩
  rw [upd_upd, held_disp]
  generalize eH2 : upd Hc hd (.dK (heldK (r0 a))) = H2
  have s2 : Same Hc H2 := eH2 ▸ same_new nhd
  have hh2 : H2 hd = some (.dK (heldK (r0 a))) := by rw [← eH2, upd_same]
  refine ⟨_, rfl, p, _, dx, _, rfl, s2 _ _ hpc, T.c_Run, T.n_Run_held, (by show 5 < 1000; decide), ?_⟩
  refine ⟨(by show 0 ≤ sizeLine; exact Nat.zero_le _), fun u nu => ?_⟩
  have hup : u ≠ p := fun e => by rw [e, upd_same] at nu; cases nu
  have nu2 : H2 u = none := by rw [upd_ne hup] at nu; exact nu
  have huh : u ≠ hd := fun e => by rw [e, hh2] at nu2; cases nu2
  refine ⟨_, rfl, p, _, dx, _, rfl, (upd_ne (Ne.symm hup)).trans upd_same, T.c_Run, T.n_Run_rounds, (by show 6 < 1000; decide), ?_⟩
  refine ⟨_, rfl, p, _, dx, _, rfl, upd_same, T.c_Run, T.n_Run_place, (by show 7 < 1000; decide), ?_⟩
  refine ⟨_, rfl, p, _, dx, _, rfl, upd_same, T.c_Run, T.n_Run_result, (by show 8 < 1000; decide), ?_⟩
  rw [upd_upd, upd_upd, rf_new]
  generalize eH3 : upd (upd (upd H2 p (.ins (He.ga K "Run") dx (putF "held" (.ref hd) (putF "fallen" (.int 0) (putF "coins" (.ref n) (putF "cells" (.ref l) (putF "sides" (.ref s) (putF "code" (.ref c) [])))))))) u (.lst [])) p (.ins (He.ga K "Run") dx (rf c s l n 0 hd u 0 .non)) = H3
  have b3 : But p H2 H3 := by
    rw [← eH3]
    intro b o hb e
    rw [upd_ne hb, upd_ne (ne_of_none e nu2), upd_ne hb]
    exact e
  have b : But p H H3 := (b0.trans (same_but s2)).trans b3
  have hlp : l ≠ p := ne_ho hl hp fun e => nomatch e
  have hu0 : H u = none := by
    cases e : H u with
    | none => rfl
    | some o =>
      have := s2 _ _ (b0 _ _ hup e)
      rw [nu2] at this
      cases this
  have hh0 : H hd = none := by
    cases e : H hd with
    | none => rfl
    | some o =>
      have := b0 _ _ hdp e
      rw [nhd] at this
      cases this
  refine q ⟨p, dx, c, s, l, n, hd, u, ct⟩ H3 rfl rfl rfl rfl hh0 hu0 b ⟨by rw [← eH3, upd_same]; rfl, dp_but cp b (.tup hcs hcd) (codeF_noL code), sqT_but cp b hs, b _ _ hlp hl, ?_, b3 _ _ hdp hh2, by rw [← eH3, upd_ne hup, upd_same]; rfl, ne_of_none hl hu0⟩
  rcases hn with ⟨t, hn, nl⟩ | ⟨t, hn⟩
  · exact .inl ⟨t, b _ _ (ne_ho hn hp fun e => nomatch e) hn, nl, ne_of_none hn hu0⟩
  · exact .inr ⟨t, sqT_but cp b hn⟩
end

end M

set_option Elab.async false
set_option linter.all false
set_option maxRecDepth 100000
set_option maxHeartbeats 2000000
namespace M
open PySem PySem.Spec PyProof.Rows L2

/-- the def x of the module, its parameters told -/
structure Cf (P : Program) (w : World) (K : PySem.W.Frag) (mg : Str → Option Value) (base : Heap) (k : Nat) (x : Str) (ps : List Str) (sp : Sp) : Prop where
  ex : ∃ (fd : FuncData) (oc : Value) (od : Option Addr) (osl : Array (Option Value)), K.lookup (He.ga K x) = some ⟨oc, od, .func fd, osl⟩ ∧ FnOk P w K mg base CX0 k (He.ga K x) fd ps sp ∧ PySem.W.keepIn K (.ref (He.ga K x)) = true ∧ Binds K fd ps []
  g : mg x = some (.ref (He.ga K x))
theorem cf_of {P : Program} {w : World} {K : PySem.W.Frag} {mg : Str → Option Value} {base : Heap} {x : Str} {st : Stmt} {N ps : List Str} {k : Nat} {sp : Sp} (F : ∃ fd, FunD K x x (defArgs st) (defBody st) (defScope st) [] [] (He.fAd K (x, none)) fd) (g : mg x = some (.ref (He.ga K x))) (S : FnScope N ps (defScope st)) (hb : BindsH x x st ps)
    (len : ∀ vs H Q E, sp vs H Q E → vs.length = ps.length) (hbody : BodyH P w K mg base x st N k (He.fAd K (x, none)) sp) : Cf P w K mg base (k + 1) x ps sp := by
  obtain ⟨fd, F⟩ := F
  obtain ⟨oc, od, dV, kV, doc, pm, an, cdv, ct, osl, e, lk, _⟩ := F.ex
  exact ⟨⟨fd, oc, od, osl, lk, fn_d F S len hbody, F.kp, F.bindsN hb⟩, g⟩
theorem Cf.mono {P : Program} {w : World} {K : PySem.W.Frag} {mg : Str → Option Value} {base : Heap} {x : Str} {ps : List Str} {j k : Nat} {sp : Sp} (c : Cf P w K mg base j x ps sp) (h : j ≤ k) : Cf P w K mg base k x ps sp := by
  obtain ⟨fd, oc, od, osl, lk, F, r⟩ := c.ex
  exact ⟨⟨fd, oc, od, osl, lk, F.mono h, r⟩, c.g⟩
/-! ### one row is done -/
def FOk (n : Nat) : FR → Prop
  | .row (.read r k) => r ∈ regs4 ∧ 0 ≤ k ∧ k < n
  | .row (.set k e) => (0 ≤ k ∧ k < n) ∧ e.good
  | .row (.swap r k e f) => r ∈ regs4 ∧ (0 ≤ k ∧ k < n) ∧ e.good ∧ f.good
  | .row (.keep r e) => r ∈ regs4 ∧ e.good
  | .row (.coin r) => r ∈ regs4
  | .row (.ans e) => e.good
  | .row _ => False
  | .unless e _ => e.good
  | .on _ => True
  | .rounds e => e.good
  | .round _ => True
  | .hole => False
def stp1 : FR → Mst → Mst
  | .row (.read r k), st => { st with regs := rset st.regs r (st.cells.getD k.toNat 0) }
  | .row (.set k e), st => { st with cells := st.cells.set k.toNat (e.ev st.regs % st.sides.getD k.toNat 0) }
  | .row (.swap r k e f), st => if st.cells.getD k.toNat 0 = e.ev st.regs then { st with cells := st.cells.set k.toNat (f.ev st.regs % st.sides.getD k.toNat 0), regs := rset st.regs r 1 } else { st with regs := rset st.regs r 0 }
  | .row (.keep r e), st => { st with regs := rset st.regs r (e.ev st.regs) }
  | .row (.coin r), st => { st with regs := rset st.regs r (st.coins.getD st.fallen.toNat 0), fallen := st.fallen + 1 }
  | .row (.ans e), st => { st with res := some (e.ev st.regs) }
  | .row _, st => st
  | .unless e p, st => if e.ev st.regs = 0 then { st with place := p } else st
  | .on p, st => { st with place := p }
  | .rounds e, st => { st with rounds := st.rounds ++ [e.ev st.regs] }
  | .round p, st => if st.rounds.getLast?.getD 0 = 0 then { st with rounds := st.rounds.dropLast, place := p } else { st with rounds := st.rounds.dropLast ++ [st.rounds.getLast?.getD 0 - 1] }
  | .hole, st => st
def Can : FR → Mst → Prop
  | .row (.coin _), st => 0 ≤ st.fallen ∧ st.fallen < st.coins.length
  | .rounds _, st => st.rounds.length < 9
  | .round _, st => st.rounds ≠ []
  | _, _ => True
structure MOk (st : Mst) : Prop where
  rg : RegOk st.regs
  cl : ∀ c ∈ st.cells, 0 ≤ c ∧ c ≤ 8
  sd : ∀ s ∈ st.sides, 1 ≤ s ∧ s ≤ 9
  le : st.sides.length = st.cells.length
  l6 : st.cells.length ≤ 6
  fd : ∀ f ∈ st.code, FOk st.cells.length f
  co : ∀ c ∈ st.coins, 0 ≤ c ∧ c ≤ 1
theorem getD_mem {l : List Int} {i : Nat} {d : Int} (h : i < l.length) : l.getD i d ∈ l := by
  rw [List.getD_eq_getElem?_getD, List.getElem?_eq_getElem h]
  exact List.getElem_mem h
theorem atK {l : List Int} {k : Int} {n : Nat} (h0 : 0 ≤ k) (hk : k < n) (hn : l.length = n) : atI (l.map V.int) k = some (.int (l.getD k.toNat 0)) := by
  have e : ((k.toNat : Nat) : Int) = k := Int.toNat_of_nonneg h0
  have hl : k.toNat < l.length := by omega
  have := atI_nat (xs := l.map V.int) (j := k.toNat) (v := .int (l.getD k.toNat 0)) (by
    rw [List.getElem?_map, List.getD_eq_getElem?_getD, List.getElem?_eq_getElem hl]
    rfl)
  rw [e] at this
  exact this
theorem ixK {k : Int} {n : Nat} (h0 : 0 ≤ k) (hk : k < n) : ixN n k = some k.toNat := by
  have e : ((k.toNat : Nat) : Int) = k := Int.toNat_of_nonneg h0
  have := Evl.ixN_nat (n := n) (j := k.toNat) (by omega)
  rw [e] at this
  exact this
theorem setI (l : List Int) (i : Nat) (v : Int) : (l.map V.int).set i (.int v) = (l.set i v).map V.int := by rw [List.map_set]
section
variable {P : Program} {w : World} {K : PySem.W.Frag} {mg : Str → Option Value} {base : Heap}
def spDo (K : PySem.W.Frag) (p : FR → Prop) : Sp := fun vs H Q _ => ∃ (R : RA) (y : V) (f : FR) (st : Mst), vs = [.ref R.x, y] ∧ RunAt K H R st ∧ MOk st ∧ Dp K H y f.d ∧ p f ∧ FOk st.cells.length f ∧ Can f st ∧ ∀ H', Bt R H H' → RunAt K H' R (stp1 f st) → Q .non H'
theorem cf_do_read (T : Txt w K mg) : Cf P w K mg base 1 "do_read" ["run", "row"] (spDo K (fun f => ∃ r k, f = .row (.read r k))) := by
  refine cf_of (N := ["run", "row"]) (ps := ["run", "row"]) T.f_do_read T.g_do_read ⟨rfl, rfl, rfl, by decide +kernel, rfl, by decide +kernel, by decide +kernel⟩ (fun _ _ _ _ _ _ us hl => match us, hl with | [_, _], _ => rfl)
    (fun vs H Q E h => by obtain ⟨R, y, f, st, rfl, r, m, hv, ⟨rg, k, rfl⟩, ok, can, q⟩ := h; rfl) (fun cdv A outer s H vs Q E hr h => ?_)
  have nd : (["run", "row"] : List Str).Nodup := by decide +kernel
  obtain ⟨R, y, f, st, rfl, r, m, hv, ⟨rg, k, rfl⟩, ok, can, q⟩ := h
  refine ⟨_, (pss_one (ps_dput (hu_of hr) (pe_fld (pv 0) rfl) (pe_ix ix_tup (pv 1) pe_int (fun _ _ => rfl)) (pe_ix ix_list (pe_fld (pv 0) rfl) (pe_ix ix_tup (pv 1) pe_int (fun _ _ => rfl)) (fun _ _ => rfl)) rfl)), ?_⟩
  obtain ⟨a, x1, x2, x3, rfl, ha, e1, e2, e3⟩ := dp3 hv
  cases dp_str e2
  cases dp_int e3
  obtain ⟨o1, o2, o3⟩ := ok
  refine ⟨_, rfl, R.x, _, R.dx, _, _, rfl, r.ins, T.c_Run, T.n_Run_cells, rf_cells, _, rfl, _, _, _, _, rfl, rfl, ha, at2, _, _, _, _, rfl, rfl, .of r.cells, atK o2 o3 rfl, ?_⟩
  refine ⟨_, rfl, R.x, _, R.dx, _, _, rfl, r.ins, T.c_Run, T.n_Run_held, rf_held, _, rfl, _, _, _, _, rfl, rfl, ha, at1, R.h, _, rfl, DPut.k (k := Sum.inr rg) r.held (by show 5 < sizeLine; decide), ?_⟩
  rw [held_put (in45 o1)]
  exact q _ (Bt.h But.upd) (r.setH _)
theorem cf_do_set (T : Txt w K mg) : Cf P w K mg base 9 "do_set" ["run", "row"] (spDo K (fun f => ∃ k e, f = .row (.set k e))) := by
  refine cf_of (N := ["run", "row", "cell"]) (ps := ["run", "row"]) T.f_do_set T.g_do_set ⟨rfl, rfl, rfl, by decide +kernel, rfl, by decide +kernel, by decide +kernel⟩ (fun _ _ _ _ _ _ us hl => match us, hl with | [_, _], _ => rfl)
    (fun vs H Q E h => by obtain ⟨R, y, f, st, rfl, r, m, hv, ⟨k, e, rfl⟩, ok, can, q⟩ := h; rfl) (fun cdv A outer s H vs Q E hr h => ?_)
  have nd : (["run", "row", "cell"] : List Str).Nodup := by decide +kernel
  obtain ⟨R, y, f, st, rfl, r, m, hv, ⟨k, e, rfl⟩, ok, can, q⟩ := h
  refine ⟨_, (pss_cons (ps_set (i := 2) nd rfl (.inl rfl) (pe_ix ix_tup (pv 1) pe_int (fun _ _ => rfl)))
      (pss_one (ps_asg (pe_op op_mod (pe_ca (ca_value_of 7 T) hr (pa_cons (pe_ix ix_tup (pv 1) pe_int (fun _ _ => rfl)) (pa_cons (pe_fld (pv 0) rfl) pa_nil))) (pe_ix ix_tup (pe_fld (pv 0) rfl) (pv 2) (fun _ _ => rfl))) (pg_sub (pe_fld (pv 0) rfl) (pv 2) set_list)))), ?_⟩
  obtain ⟨a, x1, x2, x3, rfl, ha, e1, e2, e3⟩ := dp3 hv
  cases dp_int e2
  obtain ⟨⟨o1, o2⟩, o3, o4⟩ := ok
  have o2' : k < st.sides.length := by rw [m.le]; exact o2
  refine ⟨_, rfl, _, _, _, _, rfl, rfl, ha, at1, ?_⟩
  refine ⟨_, rfl, _, _, _, _, rfl, rfl, ha, at2, _, rfl, R.x, _, R.dx, _, _, rfl, r.ins, T.c_Run, T.n_Run_held, rf_held, x3, e, R.h, st.regs, rfl, e3, o3, by omega, r.held, m.rg, ?_⟩
  refine ⟨_, rfl, R.x, _, R.dx, _, _, rfl, r.ins, T.c_Run, T.n_Run_sides, rf_sides, _, rfl, _, _, _, _, rfl, rfl, r.sides, atK o1 o2' rfl, _, _, rfl, rfl, ?_, ?_⟩
  · have := m.sd _ (getD_mem (l := st.sides) (i := k.toNat) (d := 0) (by omega))
    show (0 : Int) < _
    omega
  refine ⟨_, rfl, R.x, _, R.dx, _, _, rfl, r.ins, T.c_Run, T.n_Run_cells, rf_cells, _, rfl, R.l, _, _, k.toNat, rfl, rfl, r.cells, by rw [List.length_map]; exact ixK o1 o2, ?_⟩
  rw [setI]
  exact q _ (Bt.l But.upd) (r.setL _)
theorem cf_do_keep (T : Txt w K mg) : Cf P w K mg base 9 "do_keep" ["run", "row"] (spDo K (fun f => ∃ r e, f = .row (.keep r e))) := by
  refine cf_of (N := ["run", "row"]) (ps := ["run", "row"]) T.f_do_keep T.g_do_keep ⟨rfl, rfl, rfl, by decide +kernel, rfl, by decide +kernel, by decide +kernel⟩ (fun _ _ _ _ _ _ us hl => match us, hl with | [_, _], _ => rfl)
    (fun vs H Q E h => by obtain ⟨R, y, f, st, rfl, r, m, hv, ⟨rg, e, rfl⟩, ok, can, q⟩ := h; rfl) (fun cdv A outer s H vs Q E hr h => ?_)
  have nd : (["run", "row"] : List Str).Nodup := by decide +kernel
  obtain ⟨R, y, f, st, rfl, r, m, hv, ⟨rg, e, rfl⟩, ok, can, q⟩ := h
  refine ⟨_, (pss_one (ps_dput (hu_of hr) (pe_fld (pv 0) rfl) (pe_ix ix_tup (pv 1) pe_int (fun _ _ => rfl)) (pe_ca (ca_value_of 7 T) hr (pa_cons (pe_ix ix_tup (pv 1) pe_int (fun _ _ => rfl)) (pa_cons (pe_fld (pv 0) rfl) pa_nil))) rfl)), ?_⟩
  obtain ⟨a, x1, x2, x3, rfl, ha, e1, e2, e3⟩ := dp3 hv
  cases dp_str e2
  obtain ⟨o1, o2, o3⟩ := ok
  refine ⟨_, rfl, _, _, _, _, rfl, rfl, ha, at2, _, rfl, R.x, _, R.dx, _, _, rfl, r.ins, T.c_Run, T.n_Run_held, rf_held, x3, e, R.h, st.regs, rfl, e3, o2, by omega, r.held, m.rg, ?_⟩
  refine ⟨_, rfl, R.x, _, R.dx, _, _, rfl, r.ins, T.c_Run, T.n_Run_held, rf_held, _, rfl, _, _, _, _, rfl, rfl, ha, at1, R.h, _, rfl, DPut.k (k := Sum.inr rg) r.held (by show 5 < sizeLine; decide), ?_⟩
  rw [held_put (in45 o1)]
  exact q _ (Bt.h But.upd) (r.setH _)
theorem cf_do_answer (T : Txt w K mg) : Cf P w K mg base 9 "do_answer" ["run", "row"] (spDo K (fun f => ∃ e, f = .row (.ans e))) := by
  refine cf_of (N := ["run", "row"]) (ps := ["run", "row"]) T.f_do_answer T.g_do_answer ⟨rfl, rfl, rfl, by decide +kernel, rfl, by decide +kernel, by decide +kernel⟩ (fun _ _ _ _ _ _ us hl => match us, hl with | [_, _], _ => rfl)
    (fun vs H Q E h => by obtain ⟨R, y, f, st, rfl, r, m, hv, ⟨e, rfl⟩, ok, can, q⟩ := h; rfl) (fun cdv A outer s H vs Q E hr h => ?_)
  have nd : (["run", "row"] : List Str).Nodup := by decide +kernel
  obtain ⟨R, y, f, st, rfl, r, m, hv, ⟨e, rfl⟩, ok, can, q⟩ := h
  refine ⟨_, (pss_one (ps_fld (pv 0) (pe_ca (ca_value_of 7 T) hr (pa_cons (pe_ix ix_tup (pv 1) pe_int (fun _ _ => rfl)) (pa_cons (pe_fld (pv 0) rfl) pa_nil))) rfl)), ?_⟩
  obtain ⟨a, x1, x2, rfl, ha, e1, e2⟩ := dp2 hv
  obtain ⟨o2, o3⟩ := ok
  refine ⟨_, rfl, _, _, _, _, rfl, rfl, ha, at1, _, rfl, R.x, _, R.dx, _, _, rfl, r.ins, T.c_Run, T.n_Run_held, rf_held, x2, e, R.h, st.regs, rfl, e2, o2, by omega, r.held, m.rg, ?_⟩
  refine ⟨_, rfl, R.x, _, R.dx, _, rfl, r.ins, T.c_Run, T.n_Run_result, (by show 9 < 1000; decide), ?_⟩
  rw [rf_putR]
  exact q _ (Bt.x But.upd) (r.setX st.fallen st.place (some (e.ev st.regs)))
theorem cf_do_unless (T : Txt w K mg) : Cf P w K mg base 9 "do_unless" ["run", "row"] (spDo K (fun f => ∃ e p, f = .unless e p)) := by
  refine cf_of (N := ["run", "row"]) (ps := ["run", "row"]) T.f_do_unless T.g_do_unless ⟨rfl, rfl, rfl, by decide +kernel, rfl, by decide +kernel, by decide +kernel⟩ (fun _ _ _ _ _ _ us hl => match us, hl with | [_, _], _ => rfl)
    (fun vs H Q E h => by obtain ⟨R, y, f, st, rfl, r, m, hv, ⟨e, p, rfl⟩, ok, can, q⟩ := h; rfl) (fun cdv A outer s H vs Q E hr h => ?_)
  have nd : (["run", "row"] : List Str).Nodup := by decide +kernel
  obtain ⟨R, y, f, st, rfl, r, m, hv, ⟨e, p, rfl⟩, ok, can, q⟩ := h
  refine ⟨_, (pss_one (ps_if (pt_cmpR op_eq (pe_ca (ca_value_of 7 T) hr (pa_cons (pe_ix ix_tup (pv 1) pe_int (fun _ _ => rfl)) (pa_cons (pe_fld (pv 0) rfl) pa_nil))) pe_int (nomark _)) (pss_one (ps_fld (pv 0) (pe_ix ix_tup (pv 1) pe_int (fun _ _ => rfl)) rfl)) pss_nil)), ?_⟩
  obtain ⟨a, x1, x2, x3, rfl, ha, e1, e2, e3⟩ := dp3 hv
  cases dp_int e3
  obtain ⟨o2, o3⟩ := ok
  refine ⟨_, rfl, _, _, _, _, rfl, rfl, ha, at1, _, rfl, R.x, _, R.dx, _, _, rfl, r.ins, T.c_Run, T.n_Run_held, rf_held, x2, e, R.h, st.regs, rfl, e2, o2, by omega, r.held, m.rg, rfl, _, rfl, ?_⟩
  by_cases c : e.ev st.regs = 0
  · rw [decide_eq_true (show V.int (e.ev st.regs) = V.int 0 from congrArg V.int c)]
    refine iteT ⟨_, rfl, _, _, _, _, rfl, rfl, ha, at2, ?_⟩
    refine ⟨_, rfl, R.x, _, R.dx, _, rfl, r.ins, T.c_Run, T.n_Run_place, (by show 9 < 1000; decide), ?_⟩
    rw [rf_putP]
    refine q _ (Bt.x But.upd) (show RunAt K _ R (if e.ev st.regs = 0 then { st with place := (p : Int) } else st) from ?_)
    rw [if_pos c]
    exact r.setX st.fallen p st.res
  · rw [decide_eq_false (show ¬ V.int (e.ev st.regs) = V.int 0 from fun z => c (V.int.inj z))]
    refine iteF (q _ (Bt.refl R H) (show RunAt K _ R (if e.ev st.regs = 0 then { st with place := (p : Int) } else st) from ?_))
    rw [if_neg c]
    exact r
theorem cf_do_on (T : Txt w K mg) : Cf P w K mg base 1 "do_on" ["run", "row"] (spDo K (fun f => ∃ p, f = .on p)) := by
  refine cf_of (N := ["run", "row"]) (ps := ["run", "row"]) T.f_do_on T.g_do_on ⟨rfl, rfl, rfl, by decide +kernel, rfl, by decide +kernel, by decide +kernel⟩ (fun _ _ _ _ _ _ us hl => match us, hl with | [_, _], _ => rfl)
    (fun vs H Q E h => by obtain ⟨R, y, f, st, rfl, r, m, hv, ⟨p, rfl⟩, ok, can, q⟩ := h; rfl) (fun cdv A outer s H vs Q E hr h => ?_)
  have nd : (["run", "row"] : List Str).Nodup := by decide +kernel
  obtain ⟨R, y, f, st, rfl, r, m, hv, ⟨p, rfl⟩, ok, can, q⟩ := h
  refine ⟨_, (pss_one (ps_fld (pv 0) (pe_ix ix_tup (pv 1) pe_int (fun _ _ => rfl)) rfl)), ?_⟩
  obtain ⟨a, x1, x2, rfl, ha, e1, e2⟩ := dp2 hv
  cases dp_int e2
  refine ⟨_, rfl, _, _, _, _, rfl, rfl, ha, at1, ?_⟩
  refine ⟨_, rfl, R.x, _, R.dx, _, rfl, r.ins, T.c_Run, T.n_Run_place, (by show 9 < 1000; decide), ?_⟩
  rw [rf_putP]
  exact q _ (Bt.x But.upd) (r.setX st.fallen p st.res)
theorem cf_do_swap (T : Txt w K mg) : Cf P w K mg base 9 "do_swap" ["run", "row"] (spDo K (fun f => ∃ r k e g, f = .row (.swap r k e g))) := by
  refine cf_of (N := ["run", "row", "cell", "old", "new"]) (ps := ["run", "row"]) T.f_do_swap T.g_do_swap ⟨rfl, rfl, rfl, by decide +kernel, rfl, by decide +kernel, by decide +kernel⟩ (fun _ _ _ _ _ _ us hl => match us, hl with | [_, _], _ => rfl)
    (fun vs H Q E h => by obtain ⟨R, y, f, st, rfl, r, m, hv, ⟨rg, k, e, g, rfl⟩, ok, can, q⟩ := h; rfl) (fun cdv A outer s H vs Q E hr h => ?_)
  have nd : (["run", "row", "cell", "old", "new"] : List Str).Nodup := by decide +kernel
  obtain ⟨R, y, f, st, rfl, r, m, hv, ⟨rg, k, e, g, rfl⟩, ok, can, q⟩ := h
  refine ⟨_, (pss_cons (ps_set (i := 2) nd rfl (.inl rfl) (pe_ix ix_tup (pv 1) pe_int (fun _ _ => rfl)))
      (pss_cons (ps_set (i := 3) nd rfl (.inl rfl) (pe_ca (ca_value_of 7 T) hr (pa_cons (pe_ix ix_tup (pv 1) pe_int (fun _ _ => rfl)) (pa_cons (pe_fld (pv 0) rfl) pa_nil))))
      (pss_cons (ps_set (i := 4) nd rfl (.inl rfl) (pe_ca (ca_value_of 7 T) hr (pa_cons (pe_ix ix_tup (pv 1) pe_int (fun _ _ => rfl)) (pa_cons (pe_fld (pv 0) rfl) pa_nil))))
      (pss_one (ps_if (pt_cmpR op_eq (pe_ix ix_list (pe_fld (pv 0) rfl) (pv 2) (fun _ _ => rfl)) (pv 3) (nomark _)) (pss_cons (ps_asg (pe_op op_mod (pv 4) (pe_ix ix_tup (pe_fld (pv 0) rfl) (pv 2) (fun _ _ => rfl))) (pg_sub (pe_fld (pv 0) rfl) (pv 2) set_list))
      (pss_one (ps_dput (hu_of hr) (pe_fld (pv 0) rfl) (pe_ix ix_tup (pv 1) pe_int (fun _ _ => rfl)) pe_int rfl))) (pss_one (ps_dput (hu_of hr) (pe_fld (pv 0) rfl) (pe_ix ix_tup (pv 1) pe_int (fun _ _ => rfl)) pe_int rfl))))))), ?_⟩
  obtain ⟨a, xs, rfl, ha, hxs⟩ := dp_tup hv
  cases hxs with | cons e1 hxs => cases hxs with | cons e2 hxs => cases hxs with | cons e3 hxs => cases hxs with | cons e4 hxs => cases hxs with | cons e5 hxs => cases hxs with | nil =>
  cases dp_str e2
  cases dp_int e3
  obtain ⟨o0, ⟨o1, o2⟩, ⟨o3, o4⟩, o5, o6⟩ := ok
  have o2' : k < st.sides.length := by rw [m.le]; exact o2
  refine ⟨_, rfl, _, _, _, _, rfl, rfl, ha, at2, ?_⟩
  refine ⟨_, rfl, _, _, _, _, rfl, rfl, ha, at3, _, rfl, R.x, _, R.dx, _, _, rfl, r.ins, T.c_Run, T.n_Run_held, rf_held, _, e, R.h, st.regs, rfl, e4, o3, by omega, r.held, m.rg, ?_⟩
  refine ⟨_, rfl, _, _, _, _, rfl, rfl, ha, at4, _, rfl, R.x, _, R.dx, _, _, rfl, r.ins, T.c_Run, T.n_Run_held, rf_held, _, g, R.h, st.regs, rfl, e5, o5, by omega, r.held, m.rg, ?_⟩
  refine ⟨_, rfl, R.x, _, R.dx, _, _, rfl, r.ins, T.c_Run, T.n_Run_cells, rf_cells, _, rfl, _, _, _, _, rfl, rfl, .of r.cells, atK o1 o2 rfl, ?_⟩
  refine ⟨_, rfl, rfl, _, rfl, ?_⟩
  by_cases c : st.cells.getD k.toNat 0 = e.ev st.regs
  · rw [decide_eq_true (show V.int (st.cells.getD k.toNat 0) = V.int (e.ev st.regs) from congrArg V.int c)]
    refine iteT ?_
    refine ⟨_, rfl, _, rfl, R.x, _, R.dx, _, _, rfl, r.ins, T.c_Run, T.n_Run_sides, rf_sides, _, rfl, _, _, _, _, rfl, rfl, r.sides, atK o1 o2' rfl, _, _, rfl, rfl, ?_, ?_⟩
    · have := m.sd _ (getD_mem (l := st.sides) (i := k.toNat) (d := 0) (by omega))
      show (0 : Int) < _
      omega
    refine ⟨_, rfl, R.x, _, R.dx, _, _, rfl, r.ins, T.c_Run, T.n_Run_cells, rf_cells, _, rfl, R.l, _, _, k.toNat, rfl, rfl, r.cells, by rw [List.length_map]; exact ixK o1 o2, ?_⟩
    rw [setI]
    have rl := r.setL (st.cells.set k.toNat (g.ev st.regs % st.sides.getD k.toNat 0))
    have b := But.upd (H := H) (D := R.l) (o := .lst ((st.cells.set k.toNat (g.ev st.regs % st.sides.getD k.toNat 0)).map .int))
    refine ⟨_, rfl, R.x, _, R.dx, _, _, rfl, rl.ins, T.c_Run, T.n_Run_held, rf_held, _, rfl, _, _, _, _, rfl, rfl, sqT_but (.lst r.cells) b ha, at1, R.h, _, rfl, DPut.k (k := Sum.inr rg) rl.held (by show 5 < sizeLine; decide), ?_⟩
    rw [held_put (in45 o0)]
    refine q _ ((Bt.l b).trans (Bt.h But.upd)) (show RunAt K _ R (if st.cells.getD k.toNat 0 = e.ev st.regs then { st with cells := st.cells.set k.toNat (g.ev st.regs % st.sides.getD k.toNat 0), regs := rset st.regs rg 1 } else { st with regs := rset st.regs rg 0 }) from ?_)
    rw [if_pos c]
    exact rl.setH _
  · rw [decide_eq_false (show ¬ V.int (st.cells.getD k.toNat 0) = V.int (e.ev st.regs) from fun z => c (V.int.inj z))]
    refine iteF ?_
    refine ⟨_, rfl, R.x, _, R.dx, _, _, rfl, r.ins, T.c_Run, T.n_Run_held, rf_held, _, rfl, _, _, _, _, rfl, rfl, ha, at1, R.h, _, rfl, DPut.k (k := Sum.inr rg) r.held (by show 5 < sizeLine; decide), ?_⟩
    rw [held_put (in45 o0)]
    refine q _ (Bt.h But.upd) (show RunAt K _ R (if st.cells.getD k.toNat 0 = e.ev st.regs then { st with cells := st.cells.set k.toNat (g.ev st.regs % st.sides.getD k.toNat 0), regs := rset st.regs rg 1 } else { st with regs := rset st.regs rg 0 }) from ?_)
    rw [if_neg c]
    exact r.setH _
theorem cf_do_rounds (T : Txt w K mg) : Cf P w K mg base 9 "do_rounds" ["run", "row"] (spDo K (fun f => ∃ e, f = .rounds e)) := by
  refine cf_of (N := ["run", "row"]) (ps := ["run", "row"]) T.f_do_rounds T.g_do_rounds ⟨rfl, rfl, rfl, by decide +kernel, rfl, by decide +kernel, by decide +kernel⟩ (fun _ _ _ _ _ _ us hl => match us, hl with | [_, _], _ => rfl)
    (fun vs H Q E h => by obtain ⟨R, y, f, st, rfl, r, m, hv, ⟨e, rfl⟩, ok, can, q⟩ := h; rfl) (fun cdv A outer s H vs Q E hr h => ?_)
  have nd : (["run", "row"] : List Str).Nodup := by decide +kernel
  obtain ⟨R, y, f, st, rfl, r, m, hv, ⟨e, rfl⟩, ok, can, q⟩ := h
  refine ⟨_, (pss_one (ps_expr (pe_bm PySem.F.plainAttrs_list PySem.F.slot_list_append PySem.F.type_list_append mt_append (pe_fld (pv 0) rfl) (pa_cons (pe_ca (ca_value_of 7 T) hr (pa_cons (pe_ix ix_tup (pv 1) pe_int (fun _ _ => rfl)) (pa_cons (pe_fld (pv 0) rfl) pa_nil))) pa_nil)))), ?_⟩
  obtain ⟨a, x1, x2, rfl, ha, e1, e2⟩ := dp2 hv
  obtain ⟨o2, o3⟩ := ok
  have can : st.rounds.length < 9 := can
  refine ⟨_, rfl, R.x, _, R.dx, _, _, rfl, r.ins, T.c_Run, T.n_Run_rounds, rf_rounds, .inl ⟨rfl, _, .of r.rounds⟩, ?_⟩
  refine ⟨_, rfl, _, _, _, _, rfl, rfl, ha, at1, _, rfl, R.x, _, R.dx, _, _, rfl, r.ins, T.c_Run, T.n_Run_held, rf_held, x2, e, R.h, st.regs, rfl, e2, o2, by omega, r.held, m.rg, R.u, _, _, rfl, rfl, r.rounds, by rw [List.length_map, sizeLine_eq]; omega, ?_⟩
  have : (st.rounds.map V.int) ++ [V.int (e.ev st.regs)] = (st.rounds ++ [e.ev st.regs]).map V.int := by rw [List.map_append]; rfl
  rw [this]
  exact q _ (Bt.u But.upd) (r.setU _)
end

end M

set_option Elab.async false
set_option linter.all false
set_option maxRecDepth 100000
set_option maxHeartbeats 2000000
namespace M
open PySem PySem.Spec PyProof.Rows L2

/-- the last item of a list -/
def rLast (K : PySem.W.Frag) : V → V → Hp → VK → Prop := fun o i H Q => ∃ p xs v, o = .ref p ∧ i = .int (-1) ∧ SqL K H p xs ∧ atI xs (-1) = some v ∧ Q v H
theorem get_last {X : Cx} : PGet X (rLast X.K) := by
  intro pins s σ H o i ov iv Q I ro ri h
  obtain ⟨p, xs, z, rfl, rfl, hq, he, q⟩ := h
  cases ro
  obtain ⟨t, rfl⟩ := ri
  obtain ⟨its, r, pl, hz⟩ := I.list hq
  obtain ⟨j, h1, h2, h3, h4, h5⟩ := atI_get he
  obtain ⟨w, ew, rw'⟩ := r.get h2
  have hl := r.length
  have hn := line63
  have hj : ((-1 : Int) + (its.toArray.size : Int)).toNat = j := by
    rw [seqIndex_neg (by omega) h4] at h1
    rw [List.size_toArray, ← hl]
    exact Option.some.inj h1
  exact wpAny_getItem_list_neg pl.isList (by omega) (by rw [List.size_toArray] <;> omega) (by omega) (by rw [hj]; simpa using ew) ⟨z, H, I, rw', q⟩
theorem snoc_of {l : List Int} (h : l ≠ []) : ∃ l0 z, l = l0 ++ [z] := ⟨_, _, (List.dropLast_concat_getLast h).symm⟩
theorem last_at (l : List Int) (z : Int) : atI ((l ++ [z]).map V.int) (-1) = some (.int z) := by
  rw [List.map_append]
  exact atI_last _ _
theorem last_pop (l : List Int) (z : Int) : ((l ++ [z]).map V.int)[((l ++ [z]).map V.int).length - 1]? = some (.int z) := by
  simp
theorem last_drop (l : List Int) (z : Int) : ((l ++ [z]).map V.int).dropLast = l.map V.int := by
  rw [List.map_append]
  exact List.dropLast_concat
theorem last_ix (l : List Int) (z : Int) : ixN ((l ++ [z]).map V.int).length (-1) = some l.length := by
  rw [List.length_map, List.length_append]
  unfold ixN
  rw [if_neg (by decide), if_pos (by simp; omega)]
  congr 1
  simp
  omega
theorem last_set (l : List Int) (z v : Int) : ((l ++ [z]).map V.int).set l.length (.int v) = (l ++ [v]).map V.int := by
  rw [setI]
  congr 1
  rw [List.set_append_right _ _ (Nat.le_refl _)]
  simp
section
variable {P : Program} {w : World} {K : PySem.W.Frag} {mg : Str → Option Value} {base : Heap}
theorem cf_do_round (T : Txt w K mg) : Cf P w K mg base 1 "do_round" ["run", "row"] (spDo K (fun f => ∃ p, f = .round p)) := by
  refine cf_of (N := ["run", "row"]) (ps := ["run", "row"]) T.f_do_round T.g_do_round ⟨rfl, rfl, rfl, by decide +kernel, rfl, by decide +kernel, by decide +kernel⟩ (fun _ _ _ _ _ _ us hl => match us, hl with | [_, _], _ => rfl)
    (fun vs H Q E h => by obtain ⟨R, y, f, st, rfl, r, m, hv, ⟨p, rfl⟩, ok, can, q⟩ := h; rfl) (fun cdv A outer s H vs Q E hr h => ?_)
  have nd : (["run", "row"] : List Str).Nodup := by decide +kernel
  obtain ⟨R, y, f, st, rfl, r, m, hv, ⟨p, rfl⟩, ok, can, q⟩ := h
  refine ⟨_, (pss_one (ps_if (pt_cmpR op_eq (pe_ix ix_list (pe_fld (pv 0) rfl) (pe_un un_neg pe_int) (fun _ _ => rfl)) pe_int (nomark _)) (pss_cons (ps_expr (pe_bm0 PySem.F.plainAttrs_list PySem.F.slot_list_pop PySem.F.type_list_pop mt_pop (pe_fld (pv 0) rfl)))
      (pss_one (ps_fld (pv 0) (pe_ix ix_tup (pv 1) pe_int (fun _ _ => rfl)) rfl))) (pss_one (ps_augS (pe_fld (pv 0) rfl) (pe_un un_neg pe_int) get_last pe_int ip_sub set_list)))), ?_⟩
  obtain ⟨a, x1, x2, rfl, ha, e1, e2⟩ := dp2 hv
  cases dp_int e2
  obtain ⟨l, z, el⟩ := snoc_of (show st.rounds ≠ [] from can)
  have hu := r.rounds
  rw [el] at hu
  have eg : st.rounds.getLast?.getD 0 = z := by rw [el]; simp
  have ed : st.rounds.dropLast = l := by rw [el]; exact List.dropLast_concat
  have q : ∀ (H' : Hp), Bt R H H' → RunAt K H' R (if z = 0 then { st with rounds := l, place := (p : Int) } else { st with rounds := l ++ [z - 1] }) → Q V.non H' := by
    rw [← ed]
    rw [← eg]
    exact q
  refine ⟨_, rfl, R.x, _, R.dx, _, _, rfl, r.ins, T.c_Run, T.n_Run_rounds, rf_rounds, _, rfl, _, _, _, _, rfl, rfl, .of hu, last_at l z, rfl, _, rfl, ?_⟩
  by_cases c : z = 0
  · rw [decide_eq_true (show V.int z = V.int 0 from congrArg V.int c)]
    refine iteT ?_
    refine ⟨_, rfl, R.x, _, R.dx, _, _, rfl, r.ins, T.c_Run, T.n_Run_rounds, rf_rounds, .inl ⟨rfl, _, .of hu⟩, R.u, _, _, rfl, rfl, hu, last_pop l z, ?_⟩
    rw [last_drop]
    have ru := r.setU l
    have b := But.upd (H := H) (D := R.u) (o := .lst (l.map V.int))
    refine ⟨_, rfl, _, _, _, _, rfl, rfl, sqT_but (.lst hu) b ha, at1, ?_⟩
    refine ⟨_, rfl, R.x, _, R.dx, _, rfl, ru.ins, T.c_Run, T.n_Run_place, (by show 9 < 1000; decide), ?_⟩
    rw [rf_putP]
    rw [if_pos c] at q
    exact q _ ((Bt.u b).trans (Bt.x But.upd)) (ru.setX st.fallen p st.res)
  · rw [decide_eq_false (show ¬ V.int z = V.int 0 from fun y => c (V.int.inj y))]
    refine iteF ?_
    refine ⟨_, rfl, R.x, _, R.dx, _, _, rfl, r.ins, T.c_Run, T.n_Run_rounds, rf_rounds, _, rfl, R.u, _, _, rfl, rfl, .of hu, last_at l z, _, _, rfl, rfl, R.u, _, _, _, rfl, rfl, hu, last_ix l z, ?_⟩
    rw [last_set]
    rw [if_neg c] at q
    exact q _ (Bt.u But.upd) (r.setU (l ++ [z - 1]))
theorem cf_do_coin (T : Txt w K mg) : Cf P w K mg base 1 "do_coin" ["run", "row"] (spDo K (fun f => ∃ r, f = .row (.coin r))) := by
  refine cf_of (N := ["run", "row"]) (ps := ["run", "row"]) T.f_do_coin T.g_do_coin ⟨rfl, rfl, rfl, by decide +kernel, rfl, by decide +kernel, by decide +kernel⟩ (fun _ _ _ _ _ _ us hl => match us, hl with | [_, _], _ => rfl)
    (fun vs H Q E h => by obtain ⟨R, y, f, st, rfl, r, m, hv, ⟨rg, rfl⟩, ok, can, q⟩ := h; rfl) (fun cdv A outer s H vs Q E hr h => ?_)
  have nd : (["run", "row"] : List Str).Nodup := by decide +kernel
  obtain ⟨R, y, f, st, rfl, r, m, hv, ⟨rg, rfl⟩, ok, can, q⟩ := h
  refine ⟨_, (pss_cons (ps_if (pt_cmpR op_eq (pe_fld (pv 0) rfl) (pe_callB call_len_seq (by rfl) T.b_len PySem.boot_len (pa_cons (pe_fld (pv 0) rfl) pa_nil)) (nomark _)) (pss_one ps_never) pss_nil)
      (pss_cons (ps_dput (hu_of hr) (pe_fld (pv 0) rfl) (pe_ix ix_tup (pv 1) pe_int (fun _ _ => rfl)) (pe_ix ix_seq (pe_fld (pv 0) rfl) (pe_fld (pv 0) rfl) (fun _ _ => rfl)) rfl)
      (pss_one (ps_fldaug (pv 0) pe_int in_add)))), ?_⟩
  obtain ⟨a, x1, x2, rfl, ha, e1, e2⟩ := dp2 hv
  cases dp_str e2
  have can : 0 ≤ st.fallen ∧ st.fallen < st.coins.length := can
  have cl : SqL K H R.n (st.coins.map V.int) ∨ SqT K H R.n (st.coins.map V.int) := r.coins.seq
  refine ⟨_, rfl, R.x, _, R.dx, _, _, rfl, r.ins, T.c_Run, T.n_Run_fallen, rf_fallen, _, rfl, R.x, _, R.dx, _, _, rfl, r.ins, T.c_Run, T.n_Run_coins, rf_coins, _, _, rfl, cl, rfl, _, rfl, ?_⟩
  rw [decide_eq_false (show ¬ V.int st.fallen = V.int ((st.coins.map V.int).length : Nat) from fun z => by have := V.int.inj z; rw [List.length_map] at this; omega)]
  refine iteF ?_
  refine ⟨_, rfl, R.x, _, R.dx, _, _, rfl, r.ins, T.c_Run, T.n_Run_coins, rf_coins, _, rfl, R.x, _, R.dx, _, _, rfl, r.ins, T.c_Run, T.n_Run_fallen, rf_fallen, ?_⟩
  have ri : ∀ G : VK, G (.int (st.coins.getD st.fallen.toNat 0)) H → rIx K (.ref R.n) (.int st.fallen) H G := fun G g => cl.elim (fun h => .inl ⟨R.n, _, st.fallen, _, rfl, rfl, h, atK can.1 can.2 rfl, g⟩) (fun h => .inr (.inl ⟨R.n, _, st.fallen, _, rfl, rfl, h, atK can.1 can.2 rfl, g⟩))
  refine ri _ ?_
  refine ⟨_, rfl, R.x, _, R.dx, _, _, rfl, r.ins, T.c_Run, T.n_Run_held, rf_held, _, rfl, _, _, _, _, rfl, rfl, ha, at1, R.h, _, rfl, DPut.k (k := Sum.inr rg) r.held (by show 5 < sizeLine; decide), ?_⟩
  rw [held_put (in45 ok)]
  have rh := r.setH (rset st.regs rg (st.coins.getD st.fallen.toNat 0))
  have b := But.upd (H := H) (D := R.h) (o := .dK (heldK (rset st.regs rg (st.coins.getD st.fallen.toNat 0))))
  refine ⟨_, rfl, R.x, _, R.dx, _, _, rfl, rh.ins, T.c_Run, T.n_Run_fallen, rf_fallen, _, _, rfl, rfl, _, _, rh.ins, (by show 9 < 1000; decide), ?_⟩
  rw [rf_putF]
  exact q _ ((Bt.h b).trans (Bt.x But.upd)) (rh.setX (st.fallen + 1) st.place st.res)
end

end M

set_option Elab.async false
set_option linter.all false
set_option maxRecDepth 100000
set_option maxHeartbeats 2000000
namespace M
open PySem PySem.Spec PyProof.Rows L2

/-! ### the rows are done, one by one -/
inductive Fin : Nat → Mst → Mst → Prop
  | stop {st : Mst} {v : Int} (h : st.res = some v) : Fin 0 st st
  | step {st st' : Mst} {f : FR} {n : Nat} (h : st.res = none) (h0 : 0 ≤ st.place) (hf : st.code[st.place.toNat]? = some f) (c : Can f { st with place := st.place + 1 }) (r : Fin n (stp1 f { st with place := st.place + 1 }) st') : Fin (n + 1) st st'
theorem MOk.at {st : Mst} (m : MOk st) (p : Int) : MOk { st with place := p } := ⟨m.rg, m.cl, m.sd, m.le, m.l6, m.fd, m.co⟩
theorem MOk.reg {st : Mst} (m : MOk st) {r : Str} {i : Int} (h : 0 ≤ i ∧ i ≤ 9) : MOk { st with regs := rset st.regs r i } := ⟨rset_ok m.rg h, m.cl, m.sd, m.le, m.l6, m.fd, m.co⟩
theorem MOk.cell {st : Mst} (m : MOk st) {k : Int} {v : Int} (h0 : 0 ≤ k) (hk : k < st.cells.length) : MOk { st with cells := st.cells.set k.toNat (v % st.sides.getD k.toNat 0) } := by
  have s := m.sd _ (getD_mem (l := st.sides) (i := k.toNat) (d := 0) (by rw [m.le]; omega))
  refine ⟨m.rg, fun c hc => ?_, m.sd, by show _ = (st.cells.set _ _).length; rw [List.length_set]; exact m.le, by show (st.cells.set _ _).length ≤ 6; rw [List.length_set]; exact m.l6, fun f hf => by show FOk (st.cells.set _ _).length f; rw [List.length_set]; exact m.fd f hf, m.co⟩
  rcases List.mem_or_eq_of_mem_set hc with h | h
  · exact m.cl c h
  · have a := Int.emod_nonneg v (show st.sides.getD k.toNat 0 ≠ 0 by omega)
    have b := Int.emod_lt_of_pos v (show 0 < st.sides.getD k.toNat 0 by omega)
    omega
theorem MOk.step {st : Mst} {f : FR} (m : MOk st) (h : FOk st.cells.length f) (c : Can f st) : MOk (stp1 f st) := by
  cases f with
  | row r =>
    cases r with
    | read r k =>
      have := m.cl _ (getD_mem (l := st.cells) (i := k.toNat) (d := 0) (by have := h.2; omega))
      exact m.reg ⟨this.1, by omega⟩
    | set k e => exact m.cell h.1.1 h.1.2
    | swap r k e g =>
      show MOk (if st.cells.getD k.toNat 0 = e.ev st.regs then { st with cells := st.cells.set k.toNat (g.ev st.regs % st.sides.getD k.toNat 0), regs := rset st.regs r 1 } else { st with regs := rset st.regs r 0 })
      split
      · exact (m.cell h.2.1.1 h.2.1.2).reg (by decide)
      · exact m.reg (by decide)
    | keep r e => exact m.reg (ev_bd m.rg h.2.1)
    | coin r =>
      have c : 0 ≤ st.fallen ∧ st.fallen < st.coins.length := c
      have := m.co _ (getD_mem (l := st.coins) (i := st.fallen.toNat) (d := 0) (by omega))
      have z := m.reg (r := r) (i := st.coins.getD st.fallen.toNat 0) ⟨this.1, by omega⟩
      exact ⟨z.rg, z.cl, z.sd, z.le, z.l6, z.fd, z.co⟩
    | iff e a b => exact h.elim
    | times e a => exact h.elim
    | ans e => exact ⟨m.rg, m.cl, m.sd, m.le, m.l6, m.fd, m.co⟩
  | «unless» e p =>
    show MOk (if e.ev st.regs = 0 then { st with place := p } else st)
    split
    · exact m.at p
    · exact m
  | on p => exact m.at p
  | rounds e => exact ⟨m.rg, m.cl, m.sd, m.le, m.l6, m.fd, m.co⟩
  | round p =>
    show MOk (if st.rounds.getLast?.getD 0 = 0 then { st with rounds := st.rounds.dropLast, place := p } else { st with rounds := st.rounds.dropLast ++ [st.rounds.getLast?.getD 0 - 1] })
    split
    · exact ⟨m.rg, m.cl, m.sd, m.le, m.l6, m.fd, m.co⟩
    · exact ⟨m.rg, m.cl, m.sd, m.le, m.l6, m.fd, m.co⟩
  | hole => exact h.elim
theorem stp1_code (f : FR) (st : Mst) : (stp1 f st).code = st.code := by
  cases f with
  | row r =>
    cases r with
    | swap r k e g =>
      show (if st.cells.getD k.toNat 0 = e.ev st.regs then { st with cells := st.cells.set k.toNat (g.ev st.regs % st.sides.getD k.toNat 0), regs := rset st.regs r 1 } else { st with regs := rset st.regs r 0 } : Mst).code = _
      split <;> rfl
    | _ => rfl
  | «unless» e p =>
    show (if e.ev st.regs = 0 then { st with place := p } else st : Mst).code = _
    split <;> rfl
  | round p =>
    show (if st.rounds.getLast?.getD 0 = 0 then { st with rounds := st.rounds.dropLast, place := p } else { st with rounds := st.rounds.dropLast ++ [st.rounds.getLast?.getD 0 - 1] } : Mst).code = _
    split <;> rfl
  | _ => rfl
section
variable {P : Program} {w : World} {K : PySem.W.Frag} {mg : Str → Option Value} {base : Heap}
/-- the def at f keeps sp, as an action -/
def GoodA (P : Program) (w : World) (K : PySem.W.Frag) (mg : Str → Option Value) (base : Heap) (k : Nat) (f : Addr) (sp : Sp) : Prop :=
  ∃ (fd : FuncData) (oc : Value) (od : Option Addr) (osl : Array (Option Value)), K.lookup f = some ⟨oc, od, .func fd, osl⟩ ∧ FnOk P w K mg base CX0 k f fd ["run", "row"] sp ∧ PySem.W.keepIn K (.ref f) = true ∧ Binds K fd ["run", "row"] []
def spU (P : Program) (w : World) (K : PySem.W.Frag) (mg : Str → Option Value) (base : Heap) (k : Nat) (f : Addr) : Sp := fun vs H Q E => ∃ sp, GoodA P w K mg base k f sp ∧ sp vs H Q E
open Classical in
noncomputable def SA (P : Program) (w : World) (K : PySem.W.Frag) (mg : Str → Option Value) (base : Heap) (k : Nat) (f : Addr) : Option Sp := if ∃ sp, GoodA P w K mg base k f sp then some (spU P w K mg base k f) else none
theorem sa_held {k : Nat} : ∀ f sp, SA P w K mg base k f = some sp → Held P w K mg base k f sp := by
  intro f sp h
  unfold SA at h
  split at h
  · rename_i g
    cases (Option.some.inj h)
    obtain ⟨sp0, fd, oc, od, osl, lk, F, kp, b⟩ := g
    refine ⟨fd, ["run", "row"], ⟨fun vs H Q E q => ?_, fun A outer s H args us vs Q E hr he hb hv q => ?_⟩, kp, b⟩
    · obtain ⟨sp1, ⟨fd1, _, _, _, lk1, F1, _⟩, q⟩ := q
      exact F1.len vs H Q E q
    · obtain ⟨sp1, ⟨fd1, _, _, _, lk1, F1, _⟩, q⟩ := q
      have e : fd1 = fd := by
        rw [lk] at lk1
        cases lk1
        rfl
      subst e
      exact F1.run A outer s H args us vs Q E hr he hb hv q
  · cases h
theorem sa_some {k : Nat} {x : Str} {sp : Sp} (c : Cf P w K mg base k x ["run", "row"] sp) : SA P w K mg base k (He.ga K x) = some (spU P w K mg base k (He.ga K x)) := if_pos ⟨sp, c.ex⟩
def acts : List (Str × He.Dv) := [("read", .glo "do_read"), ("set", .glo "do_set"), ("swap", .glo "do_swap"), ("keep", .glo "do_keep"), ("coin", .glo "do_coin"), ("answer", .glo "do_answer"), ("unless", .glo "do_unless"), ("on", .glo "do_on"), ("rounds", .glo "do_rounds"), ("round", .glo "do_round")]
theorem do_ok (T : Txt w K mg) {n : Nat} {f : FR} (h : FOk n f) : ∃ (wd nm : Str) (p : FR → Prop), f.hd = some wd ∧ (wd, He.Dv.glo nm) ∈ acts ∧ p f ∧ Cf P w K mg base 9 nm ["run", "row"] (spDo K p) := by
  cases f with
  | row r =>
    cases r with
    | read r k => exact ⟨_, "do_read", _, rfl, by simp [acts, Row.word], ⟨r, k, rfl⟩, (cf_do_read T).mono (by decide)⟩
    | set k e => exact ⟨_, "do_set", _, rfl, by simp [acts, Row.word], ⟨k, e, rfl⟩, cf_do_set T⟩
    | swap r k e g => exact ⟨_, "do_swap", _, rfl, by simp [acts, Row.word], ⟨r, k, e, g, rfl⟩, cf_do_swap T⟩
    | keep r e => exact ⟨_, "do_keep", _, rfl, by simp [acts, Row.word], ⟨r, e, rfl⟩, cf_do_keep T⟩
    | coin r => exact ⟨_, "do_coin", _, rfl, by simp [acts, Row.word], ⟨r, rfl⟩, (cf_do_coin T).mono (by decide)⟩
    | iff e a b => exact h.elim
    | times e a => exact h.elim
    | ans e => exact ⟨_, "do_answer", _, rfl, by simp [acts, Row.word], ⟨e, rfl⟩, cf_do_answer T⟩
  | «unless» e p => exact ⟨_, "do_unless", _, rfl, by simp [acts], ⟨e, p, rfl⟩, cf_do_unless T⟩
  | on p => exact ⟨_, "do_on", _, rfl, by simp [acts], ⟨p, rfl⟩, (cf_do_on T).mono (by decide)⟩
  | rounds e => exact ⟨_, "do_rounds", _, rfl, by simp [acts], ⟨e, rfl⟩, cf_do_rounds T⟩
  | round p => exact ⟨_, "do_round", _, rfl, by simp [acts], ⟨p, rfl⟩, (cf_do_round T).mono (by decide)⟩
  | hole => exact h.elim
theorem act_at (T : Txt w K mg) {wd nm : Str} (h : (wd, He.Dv.glo nm) ∈ acts) : KDct K w (He.ga K "ACTIONS") wd (.ref (He.ga K nm)) := by
  obtain ⟨es, n, D⟩ := T.t_ACTIONS
  obtain ⟨u, e, r⟩ := He.valsB_ok T.e_ACTIONS h
  exact ⟨es, n, u, D.at_, D.lit, e, r⟩
def spFinish (K : PySem.W.Frag) : Sp := fun vs H Q _ => ∃ (R : RA) (st st' : Mst) (n : Nat), vs = [.ref R.x] ∧ RunAt K H R st ∧ MOk st ∧ Fin n st st' ∧ ∀ H', Bt R H H' → RunAt K H' R st' → Q .non H'
theorem ca_finish (T : Txt w K mg) : Ca P w K mg base 10 "finish" (spFinish K) := by
  refine ca_of (N := ["run", "code", "row", "action"]) (ps := ["run"]) T.f_finish T.g_finish ⟨rfl, rfl, rfl, by decide +kernel, rfl, by decide +kernel, by decide +kernel⟩ (fun _ _ _ _ _ _ us hl => match us, hl with | [_], _ => rfl)
    (fun vs H Q E h => by obtain ⟨R, st, st', n, rfl, r, m, fin, q⟩ := h; rfl) (fun cdv A outer s H vs Q E hr h => ?_)
  have nd : (["run", "code", "row", "action"] : List Str).Nodup := by decide +kernel
  obtain ⟨R, st, st', n, rfl, r, m, fin, q⟩ := h
  refine ⟨_, (pss_cons (ps_set (i := 1) nd rfl (.inl rfl) (pe_fld (pv 0) rfl))
      (pss_one (ps_while PassesOwn.never (pt_cmp (pc_isN (pe_fld (pv 0) rfl))) (pss_cons (ps_set (i := 2) nd rfl (.inl rfl) (pe_ix ix_tup (pv 1) (pe_fld (pv 0) rfl) (fun _ _ => rfl)))
      (pss_cons (ps_fldaug (pv 0) pe_int in_add)
      (pss_cons (ps_set (i := 3) nd rfl (.inl rfl) (pe_ix ix_kdict (pe_gr T.g_ACTIONS) (pe_ix ix_tup (pv 2) pe_int (fun _ _ => rfl)) (fun _ _ => rfl)))
      (pss_one (ps_expr (pe_callA (i := 3) sa_held hr rfl (.inl rfl) (pa_cons (pv 0) (pa_cons (pv 2) pa_nil))))))))))), ?_⟩
  refine ⟨_, rfl, R.x, _, R.dx, _, _, rfl, r.ins, T.c_Run, T.n_Run_code, rf_code, ?_⟩
  refine ⟨fun i σ' H' => ∃ (st1 : Mst) (x y : Option V), σ' = [some (.ref R.x), some (.ref R.c), x, y] ∧ Fin i st1 st' ∧ RunAt K H' R st1 ∧ MOk st1 ∧ Bt R H H', ⟨n, st, none, none, rfl, fin, r, m, Bt.refl R H⟩, ?_⟩
  rintro i σ' H' ⟨st1, x, y, rfl, fin1, r1, m1, bt⟩
  refine ⟨_, rfl, R.x, _, R.dx, _, _, rfl, r1.ins, T.c_Run, T.n_Run_result, rf_result, ?_⟩
  cases fin1 with
  | stop h =>
    rw [h]
    exact ⟨_, rfl, iteF (q H' bt r1)⟩
  | @step _ _ f j h h0 hf c rest =>
    rw [h]
    refine ⟨_, rfl, iteT ?_⟩
    have hfok := m1.fd f (List.mem_of_getElem? hf)
    refine ⟨fun σ2 H2 => ∃ (st1 : Mst) (x y : Option V), σ2 = [some (.ref R.x), some (.ref R.c), x, y] ∧ Fin j st1 st' ∧ RunAt K H2 R st1 ∧ MOk st1 ∧ Bt R H H2, fun σ2 H2 h2 => ⟨j, Nat.lt_succ_self _, h2⟩, ?_⟩
    obtain ⟨a, xs, ea, ha, hxs⟩ := dp_tup r1.code
    cases ea
    obtain ⟨y0, hy0, dy0⟩ := dps_at (i := st1.place.toNat) hxs (d := f.d) (by rw [List.getElem?_map, hf]; rfl)
    have ep : ((st1.place.toNat : Nat) : Int) = st1.place := Int.toNat_of_nonneg h0
    have hat : atI xs st1.place = some y0 := by
      have := atI_nat hy0
      rw [ep] at this
      exact this
    refine ⟨_, rfl, _, rfl, R.x, _, R.dx, _, _, rfl, r1.ins, T.c_Run, T.n_Run_place, rf_place, _, _, _, _, rfl, rfl, ha, hat, ?_⟩
    refine ⟨_, rfl, R.x, _, R.dx, _, _, rfl, r1.ins, T.c_Run, T.n_Run_place, rf_place, _, _, rfl, rfl, _, _, r1.ins, (by show 9 < 1000; decide), ?_⟩
    rw [rf_putP]
    have r2 := r1.setX st1.fallen (st1.place + 1) st1.res
    have b2 := But.upd (H := H') (D := R.x) (o := .ins (He.ga K "Run") R.dx (rf R.c R.s R.l R.n st1.fallen R.h R.u (st1.place + 1) (resV st1.res)))
    generalize upd H' R.x (.ins (He.ga K "Run") R.dx (rf R.c R.s R.l R.n st1.fallen R.h R.u (st1.place + 1) (resV st1.res))) = H2 at r2 b2
    have dy2 := dp_but (.ins r1.ins) b2 dy0 f.noL
    obtain ⟨wd, nm, p, hw, hin, hp, cf⟩ := do_ok T hfok
    have dy3 := dy2
    rw [fr_d hw] at dy3
    obtain ⟨rb, zs, rfl, hrb, hzs⟩ := dp_tup dy3
    obtain ⟨z0, zr, rfl, hz0⟩ : ∃ z0 zr, zs = z0 :: zr ∧ Dp K H2 z0 (.str wd) := by
      cases hzs with | cons h1 h2 => exact ⟨_, _, rfl, h1⟩
    cases dp_str hz0
    refine ⟨_, rfl, _, _, _, _, rfl, rfl, hrb, at0, _, _, _, rfl, rfl, act_at T hin, ?_⟩
    refine ⟨_, _, rfl, sa_some cf, _, rfl, _, rfl, spDo K p, cf.ex, R, .ref rb, f, { st1 with place := st1.place + 1 }, rfl, r2, m1.at _, dy2, hp, hfok, c, fun H3 b3 r3 => ?_⟩
    exact ⟨_, _, _, rfl, rest, r3, (m1.at _).step hfok c, (bt.trans (Bt.x b2)).trans b3⟩
end

end M

set_option Elab.async false
set_option linter.all false
set_option maxRecDepth 100000
set_option maxHeartbeats 2000000
namespace M
open PySem PySem.Spec PyProof.Rows L2

/-! ### the steps told -/
def cellsD (st : Mst) : PyData := .tuple (st.cells.map PyData.int)
def tell : FR → Mst → List PyData
  | .row (.set k _), st => [.tuple [.str "set", .int k, .int (st.cells.getD k.toNat 0), cellsD st]]
  | .row (.read r k), st => [.tuple [.str "read", .int k, .int (st.regs r), cellsD st]]
  | .row (.swap r k _ _), st => [.tuple [.str "swap", .int k, .int (st.regs r), cellsD st]]
  | _, _ => []
inductive FinT : Nat → Mst → Mst → List PyData → Prop
  | stop {st : Mst} {v : Int} (h : st.res = some v) : FinT 0 st st []
  | step {st st' : Mst} {f : FR} {n : Nat} {tr : List PyData} (h : st.res = none) (h0 : 0 ≤ st.place) (hf : st.code[st.place.toNat]? = some f) (c : Can f { st with place := st.place + 1 }) (r : FinT n (stp1 f { st with place := st.place + 1 }) st' tr) : FinT (n + 1) st st' (tell f (stp1 f { st with place := st.place + 1 }) ++ tr)
theorem FinT.fin {n : Nat} {st st' : Mst} {tr : List PyData} (h : FinT n st st' tr) : Fin n st st' := by
  induction h with
  | stop h => exact .stop h
  | step h h0 hf c _ ih => exact .step h h0 hf c ih
theorem cellsD_noL (st : Mst) : NoL (cellsD st) := .tup fun d h => by
  obtain ⟨i, _, rfl⟩ := List.mem_map.mp h
  exact .int i
theorem four_noL (a : Str) (b c : Int) (st : Mst) : NoL (.tuple [.str a, .int b, .int c, cellsD st]) := .tup fun d h => by
  simp at h
  rcases h with rfl | rfl | rfl | rfl
  · exact .str _
  · exact .int _
  · exact .int _
  · exact cellsD_noL st
theorem tell_noL : ∀ (f : FR) (st : Mst), ∀ d ∈ tell f st, NoL d := by
  intro f st d h
  cases f with
  | row r => cases r <;> simp [tell] at h <;> subst h <;> exact four_noL ..
  | _ => cases h
section
variable {K : PySem.W.Frag} {H H' : Hp} {R : RA} {st : Mst}
theorem sqT_bt (r : RunAt K H R st) (b : Bt R H H') {a : Addr} {xs : List V} (h : SqT K H a xs) : SqT K H' a xs := by
  rcases h with (h | ⟨o, h⟩) | h
  · exact .inl (.inl (b _ _ (ne_ho h r.ins fun e => nomatch e) (ne_ho h r.cells fun e => nomatch e) (ne_ho h r.held fun e => nomatch e) (ne_ho h r.rounds fun e => nomatch e) h))
  · exact .inl (.inr ⟨o, b _ _ (ne_ho h r.ins fun e => nomatch e) (ne_ho h r.cells fun e => nomatch e) (ne_ho h r.held fun e => nomatch e) (ne_ho h r.rounds fun e => nomatch e) h⟩)
  · exact .inr h
mutual
theorem dp_bt (r : RunAt K H R st) (b : Bt R H H') : ∀ {v : V} {d : PyData}, Dp K H v d → NoL d → Dp K H' v d
  | _, _, .non, _ => .non
  | _, _, .bl b, _ => .bl b
  | _, _, .int i, _ => .int i
  | _, _, .str x, _ => .str x
  | _, _, .lst _ _, n => nomatch n
  | _, _, .tup h t, n => .tup (sqT_bt r b h) (dps_bt r b t (by cases n with | tup h => exact h))
theorem dps_bt (r : RunAt K H R st) (b : Bt R H H') : ∀ {vs : List V} {ds : List PyData}, DpAll K H vs ds → (∀ d ∈ ds, NoL d) → DpAll K H' vs ds
  | _, _, .nil, _ => .nil
  | _, _, .cons h t, n => .cons (dp_bt r b h (n _ List.mem_cons_self)) (dps_bt r b t fun d hd => n d (List.mem_cons_of_mem _ hd))
end
end

end M

set_option Elab.async false
set_option linter.all false
set_option maxRecDepth 100000
set_option maxHeartbeats 2000000
namespace M
open PySem PySem.Spec PyProof.Rows L2

section
variable {n : Nat}
/-- each row is fit, or a hole -/
def Fit (n : Nat) (c : List FR) : Prop := ∀ f ∈ c, f = .hole ∨ FOk n f
theorem Fit.snoc {c : List FR} {g : FR} (hc : Fit n c) (hg : g = .hole ∨ FOk n g) : Fit n (c ++ [g]) := fun f hf => by
  rcases List.mem_append.mp hf with h | h
  · exact hc f h
  · rw [List.mem_singleton.mp h]
    exact hg
theorem Fit.set {c : List FR} {g : FR} {i : Nat} (hc : Fit n c) (hg : g = .hole ∨ FOk n g) : Fit n (c.set i g) := fun f hf => by
  rcases List.mem_or_eq_of_mem_set hf with h | h
  · exact hc f h
  · rw [h]
    exact hg
mutual
theorem putRow_fit : ∀ (r : Row) {c : List FR} {deep loops : Nat}, Fit n c → r.ok n deep loops → Fit n (putRow r c)
  | .read r k, c, _, _, hc, h => hc.snoc (.inr h)
  | .set k e, c, _, _, hc, h => hc.snoc (.inr h)
  | .swap r k e f, c, _, _, hc, h => hc.snoc (.inr h)
  | .keep r e, c, _, _, hc, h => hc.snoc (.inr h)
  | .coin r, c, _, _, hc, h => hc.snoc (.inr h.1)
  | .ans e, c, _, _, hc, h => hc.snoc (.inr h)
  | .iff e a b, c, _, _, hc, h => by
    have z1 := (putRows_fit a (hc.snoc (.inl rfl)) h.2.1).snoc (g := FR.hole) (.inl rfl)
    have z2 := putRows_fit b (z1.set (g := FR.unless e ((putRows a (c ++ [FR.hole])).length + 1)) (i := c.length) (.inr h.1)) h.2.2
    exact z2.set (g := FR.on _) (.inr trivial)
  | .times e a, c, deep, loops, hc, h => by
    have z : Fit n (c ++ [FR.rounds e, FR.hole]) := by
      have := (hc.snoc (g := FR.rounds e) (.inr h.1)).snoc (g := FR.hole) (.inl rfl)
      rw [List.append_assoc] at this
      exact this
    exact ((putRows_fit a z h.2.2).snoc (g := FR.on _) (.inr trivial)).set (g := FR.round _) (.inr trivial)
theorem putRows_fit : ∀ (rs : List Row) {c : List FR} {deep loops : Nat}, Fit n c → rowsOk n deep loops rs → Fit n (putRows rs c)
  | [], c, _, _, hc, _ => hc
  | r :: rs, c, _, _, hc, h => putRows_fit rs (putRow_fit r hc h.2.1) h.2.2
end
theorem code_fok {rs : List Row} {deep loops : Nat} (h : rowsOk n deep loops rs) : ∀ f ∈ codeOf rs, FOk n f := fun f hf => by
  have z : Fit n (codeOf rs) := (putRows_fit rs (fun _ h => by cases h) h).snoc (.inr ⟨⟨by decide, by decide⟩, by show 0 ≤ 6; decide⟩)
  rcases z f hf with e | e
  · obtain ⟨s, hs⟩ := code_hd hf
    rw [e] at hs
    cases hs
  · exact e
end
/-- a call from a state of the vault begins well -/
theorem mst0_ok {v : Vlt} {d : Str × Int × List Row} {hs fs : List Int} {a : Int} (g : VGood v) (hd : d ∈ v.deeds) (so : StateOk (v.cells.map (·.1)) hs) (ha : 0 ≤ a ∧ a ≤ 9) (hf : ∀ f ∈ fs, 0 ≤ f ∧ f ≤ 1) : MOk (mst0 (codeOf d.2.2) (v.cells.map (·.1)) hs fs a) := by
  have lh : v.cells.length = hs.length := by have := so.1; rw [List.length_map] at this; exact this
  refine ⟨fun s _ => ?_, fun c hc => ?_, fun s hs => ?_, so.1, ?_, fun f hf => ?_, hf⟩
  · show 0 ≤ r0 a s ∧ r0 a s ≤ 9
    unfold r0
    split
    · exact ha
    · decide
  · have hc : c ∈ hs := hc
    obtain ⟨i, hi, e⟩ := List.mem_iff_getElem.mp hc
    have hi' : i < v.cells.length := by omega
    have ok := g.cs _ (List.getElem_mem hi')
    have := so.2 i _ c (by rw [List.getElem?_map, List.getElem?_eq_getElem hi']; rfl) (by rw [List.getElem?_eq_getElem hi, e])
    have h9 : v.cells[i].1 ≤ 9 := ok.2.1
    have h8 : 0 ≤ c ∧ c < v.cells[i].1 := this
    omega
  · obtain ⟨c, hc, rfl⟩ := List.mem_map.mp hs
    exact ⟨(g.cs c hc).1, (g.cs c hc).2.1⟩
  · show hs.length ≤ 6
    have := g.c1
    omega
  · show FOk hs.length f
    rw [← lh]
    exact code_fok (g.ds d hd).2.2.1 f hf
theorem none_of {H H' : Hp} {x : Addr} (s : Same H H') (h : H' x = none) : H x = none := by
  cases e : H x with
  | none => rfl
  | some o => rw [s _ _ e] at h; cases h
theorem deed_eq {v : Vlt} (n : (v.deeds.map (·.1)).Nodup) {d e : Str × Int × List Row} (hd : d ∈ v.deeds) (he : e ∈ v.deeds) (h : d.1 = e.1) : d = e := by
  obtain ⟨i, hi, ei⟩ := List.mem_iff_getElem.mp hd
  obtain ⟨j, hj, ej⟩ := List.mem_iff_getElem.mp he
  have := nd_ixG n (x := d.1) (i := i) (j := j) (by rw [List.getElem?_map, List.getElem?_eq_getElem hi, ei]; rfl) (by rw [List.getElem?_map, List.getElem?_eq_getElem hj, ej, h]; rfl)
  subst this
  exact ei.symm.trans ej
section
variable {P : Program} {w : World} {K : PySem.W.Frag} {mg : Str → Option Value} {base : Heap}
def spStartOf (K : PySem.W.Frag) : Sp := fun vs H Q _ => ∃ (p t : Addr) (v : Vlt) (i : Nat) (c : Str × Int), vs = [.ref p, .ref t] ∧ VaultAt K H p v ∧ VOk v ∧ H t = some (.tup [.str c.1, .int c.2]) ∧ v.calls[i]? = some c ∧ ∀ (y : V) (H' : Hp), Same H H' → StartAt K H' v c y → Q y H'
/-- the run of a call, at its beginning -/
def RunNew (K : PySem.W.Frag) (H H' : Hp) (R : RA) (st : Mst) : Prop := Same H H' ∧ RunAt K H' R st ∧ H R.x = none ∧ H R.l = none ∧ H R.h = none ∧ H R.u = none
structure CallIs (K : PySem.W.Frag) (H : Hp) (p b t f : Addr) (v : Vlt) (hs fs : List Int) (d : Str × Int × List Row) (a : Int) : Prop where
  vt : VaultAt K H p v
  gd : VGood v
  st : SqT K H b (hs.map .int)
  so : StateOk (v.cells.map (·.1)) hs
  tu : H t = some (.tup [.str d.1, .int a])
  de : d ∈ v.deeds
  ar : 0 ≤ a ∧ a < d.2.1
  fl : SqL K H f (fs.map .int)
  f4 : fs.length ≤ 4
  f1 : ∀ f ∈ fs, 0 ≤ f ∧ f ≤ 1
theorem CallIs.call {H : Hp} {p b t f : Addr} {v : Vlt} {hs fs : List Int} {d : Str × Int × List Row} {a : Int} (c : CallIs K H p b t f v hs fs d a) : ∃ i : Nat, v.calls[i]? = some (d.1, a) := by
  have : (d.1, a) ∈ v.calls := by
    unfold Vlt.calls
    refine List.mem_flatMap.mpr ⟨d, c.de, List.mem_map.mpr ⟨a.toNat, List.mem_range.mpr ?_, ?_⟩⟩
    · have := c.ar
      omega
    · exact Prod.ext rfl (Int.toNat_of_nonneg c.ar.1)
  obtain ⟨i, hi, e⟩ := List.mem_iff_getElem.mp this
  exact ⟨i, by rw [List.getElem?_eq_getElem hi, e]⟩
theorem CallIs.mok {H : Hp} {p b t f : Addr} {v : Vlt} {hs fs : List Int} {d : Str × Int × List Row} {a : Int} (c : CallIs K H p b t f v hs fs d a) : MOk (mst0 (codeOf d.2.2) (v.cells.map (·.1)) hs fs a) :=
  mst0_ok c.gd c.de c.so ⟨c.ar.1, by have := c.ar.2; have := (c.gd.ds d c.de).2.1.2; omega⟩ c.f1
def spRunOf (K : PySem.W.Frag) : Sp := fun vs H Q _ => ∃ (p b t f : Addr) (v : Vlt) (hs fs : List Int) (d : Str × Int × List Row) (a : Int), vs = [.ref p, .ref b, .ref t, .ref f] ∧ CallIs K H p b t f v hs fs d a ∧
  ∀ (R : RA) (H' : Hp), RunNew K H H' R (mst0 (codeOf d.2.2) (v.cells.map (·.1)) hs fs a) → Q (.ref R.x) H'
theorem RunNew.fin {H H1 H2 : Hp} {R : RA} {st : Mst} (n : RunNew K H H1 R st) (b : Bt R H1 H2) : Same H H2 := fun a o e => by
  obtain ⟨s, _, nx, nl, nh, nu⟩ := n
  exact b a o (ne_of_none e nx) (ne_of_none e nl) (ne_of_none e nh) (ne_of_none e nu) (s _ _ e)
def spCalled (K : PySem.W.Frag) : Sp := fun vs H Q _ => ∃ (p b t f : Addr) (v : Vlt) (hs fs : List Int) (d : Str × Int × List Row) (a : Int) (n : Nat) (st' : Mst) (r : Int), vs = [.ref p, .ref b, .ref t, .ref f] ∧ CallIs K H p b t f v hs fs d a ∧
  Fin n (mst0 (codeOf d.2.2) (v.cells.map (·.1)) hs fs a) st' ∧ st'.res = some r ∧ ∀ (z : Addr) (H' : Hp), Same H H' → H z = none → Dp K H' (.ref z) (.tuple [.int r, cellsD st']) → Q (.ref z) H'
end

end M

set_option Elab.async false
set_option linter.all false
set_option maxRecDepth 100000
set_option maxHeartbeats 2000000
namespace M
open PySem PySem.Spec PyProof.Rows L2

/-! ### dicts whose keys are tuples: what the hand layer has not -/
/-! ### the values of a dict whose keys are tuples -/
def Itdt (d : Addr) (o : Obj) (kvs : List (List Key × V)) : It :=
  ⟨fun i H => H d = some (.frz o (.dT kvs)) ∧ i < kvs.length, fun i H x H' => H' = H ∧ ∃ k, kvs[i]? = some (k, x), fun i H => H d = some (.frz o (.dT kvs)) ∧ kvs.length ≤ i⟩
section
variable {X : Cx} {pins : List (Addr × Obj)} {σ : L2.St} {H : Hp} {s : Shared} {d : Addr} {o : Obj}
theorem dt_vals {kvs : List (List Key × V)} (h : Rd H d (.dT kvs)) (I : Inv X pins σ H s) :
    (d == sysModules) = false ∧ ∃ (o : Obj) (es : Array DictEntry) (ep : Nat), s.heap.get? d = some o ∧ o.ExactDict ∧ o.data = .dict es ep ∧ es.size = kvs.length ∧
      ∀ (i : Nat) (k : List Key) (v : V), kvs[i]? = some (k, v) → ∃ (en : DictEntry), es[i]? = some en ∧ RelV v en.val := by
  obtain ⟨z, hs, xs, pr, o', es, ep, ho, hx, hdt, he, _⟩ := h.ok I.hok
  refine ⟨hs, o', es, ep, ho, hx, hdt, ?_, fun i k v e => ?_⟩
  · have l1 : es.size = xs.length := size_of_entries he
    have l2 : kvs.length = xs.length := Paired.length pr
    omega
  · obtain ⟨b, hb, e1, e2, e3⟩ := paired_get pr e
    have q := entry_at he i
    rw [hb] at q
    exact ⟨_, q, e3⟩
end
section
variable {P : Program} {w : World} {K : PySem.W.Frag} {tg : Expr} {d : Addr} {o : Obj} {es : Array DictEntry} {ep : Nat}
theorem frz_at {X : Cx} {pins : List (Addr × Obj)} {σ : L2.St} {H : Hp} {s : Shared} {u : HO} (I : Inv X pins σ H s) (h : H d = some (.frz o u)) : s.heap.get? d = some o := (I.hok d _ h).1
theorem turn_valsT {kvs : List (List Key × V)} (it : Addr) (hod : o.data = .dict es ep) : Turn P w K tg (Itdt d o kvs) [it] it (fun i h => h.IsValIter it d i kvs.length ep) where
  mem := by simp
  obj := fun i h st b hb => by
    have e : b = it := by simpa using hb
    subst e
    obtain ⟨oi, e, c, dd⟩ := st
    exact ⟨oi, e, fun v z => by rw [dd] at z; cases z⟩
  keep := fun i h h' st k => st.at fun oi e => k it (by simp) oi e
  item := by
    intro X hP hw hK hc i pins s σ H E I hf st hg
    subst hP hw hK
    obtain ⟨hd, hi⟩ := hg
    obtain ⟨f0, f1, f2, f3, f4, f5⟩ := hf it (by simp)
    obtain ⟨hs, o', es', ep', ho, hx, hdt, hsz, ent⟩ := dt_vals (.inr ⟨_, hd⟩) I
    have eo := frz_at I hd
    rw [eo] at ho
    cases ho
    obtain ⟨rfl, rfl⟩ := dict_ep hod hdt
    obtain ⟨⟨k, v⟩, hkv⟩ : ∃ p, kvs[i]? = some p := ⟨kvs[i], List.getElem?_eq_getElem hi⟩
    obtain ⟨en, hen, rv⟩ := ent i k v hkv
    rw [← hsz] at st
    have hi' : i < es'.size := by omega
    have een : es'[i] = en := by
      rw [Array.getElem?_eq_getElem hi'] at hen
      exact Option.some.inj hen
    refine wpAny_pyNext_values_item_raw st ⟨o, eo, hx, hdt⟩ hi' fun h' st' sb => ?_
    have I1 : Inv X pins σ H { s with heap := h' } := I.turned (t' := s.toks) (fun b ob hb e => (sb.2 b hb).trans e) f0 f1 f3 f4 f5
    obtain ⟨oi, e, c, dd⟩ := id st'
    refine ⟨_, rfl, go_of (s := { s with heap := h' }) e c dd (by decide) ⟨v, H, I1, een ▸ rv, ⟨rfl, k, hkv⟩, ?_, fun b hb => (hf b hb).1⟩⟩
    show h'.IsValIter it d (i + 1) kvs.length _
    rw [← hsz]
    exact st'
  done := by
    intro X hP hw hK hc i pins s σ H E I hf st hg
    subst hP hw hK
    obtain ⟨hd, hi⟩ := hg
    obtain ⟨f0, f1, f2, f3, f4, f5⟩ := hf it (by simp)
    obtain ⟨hs, o', es', ep', ho, hx, hdt, hsz, ent⟩ := dt_vals (.inr ⟨_, hd⟩) I
    have eo := frz_at I hd
    rw [eo] at ho
    cases ho
    obtain ⟨rfl, rfl⟩ := dict_ep hod hdt
    rw [← hsz] at st
    exact wpAny_pyNext_values_end_raw (I.ok.hd hc) st ⟨o, eo, hx, hdt⟩ (by omega) fun h' eb => ⟨rfl, I.turned (t' := s.toks) (fun b ob hb e => eb b ob hb e) f0 f1 f3 f4 f5⟩
  self := fun A i s Q E st h => wpAny_pyIter_valiter st h
end
def iValsT (td : TE) : TI := fun σ H R => td σ H fun x H1 => ∃ d o kvs, x = .ref d ∧ H1 d = some (.frz o (.dT kvs)) ∧ R (Itdt d o kvs) H1
section
variable {X : Cx} {tg e : Expr} {td : TE} {apos cpos : Pos}
theorem pi_valuesT (he : PE X e td) (hbase : attributeBase e "values" X.env (eval e X.env) = eval e X.env := by rfl) (hline : (apos.endLine == cpos.line) = true := by rfl) : PI X tg (.Call (.Attribute e "values" apos) [] [] cpos) (iValsT td) := by
  refine ⟨fun pins s σ H R I h => ?_⟩
  refine wpAny_Call_method (T := "dict") (id := "dict.values") hbase rfl hline F.plainAttrs_dict F.slot_dict_values F.type_dict_values (thn (he.run pins s σ H _ I h) fun u s1 ⟨x, H1, I1, rx, d, o, kvs, ex, hd, q⟩ => ?_)
  subst ex
  obtain rfl : u = Value.ref d := rx
  obtain ⟨hs, o', es, ep, ho, hx, hdt, hsz, ent⟩ := dt_vals (.inr ⟨_, hd⟩) I1
  have eo := frz_at I1 hd
  rw [eo] at ho
  cases ho
  have hm : s1.heap.DictRaw d es ep := ⟨o, eo, hx, hdt⟩
  refine ⟨hm.typeIs, fun b q => ?_, ?_⟩
  · cases q
    exact ⟨o, eo, hx.2.1⟩
  have I2 : Inv X pins σ H1 { s1 with heap := s1.heap.push { cls := .type "dict_values", data := .fields #[.ref d] } } := I1.kept (t' := s1.toks) fun b ob q => Heap.get?_push_of_some _ q
  have fin : wpAny (model X.prog X.w) X.A (pyIter (.ref s1.heap.objs.size)) (PIE X pins σ tg R) X.xe { s1 with heap := s1.heap.push { cls := .type "dict_values", data := .fields #[.ref d] } } := by
    refine wpAny_pyIter_values_raw (d := d) ⟨_, Heap.get?_push_size _ rfl, rfl, rfl⟩ (hm.at fun o e => Heap.get?_push_of_some _ e) (pi_one (tk := s1.toks) I2 _ (turn_valsT _ hdt) ⟨_, Heap.get?_push_size _ rfl, rfl, ?_⟩ q)
    rw [hsz] <;> rfl
  show wpAny _ _ (callWith cpos (.builtin "dict.values") [.ref d] [] []) _ X.xe s1
  exact method_meetsIn F.slot_dict_values F.entry_dict_values rfl (PySem.evalArgs_none ⟨rfl, hm.typeIs, F.args_dict_values_1 _, _, meets_dict_values_raw d hs, ⟨es, ep, hm⟩, fin⟩)
end
theorem walk_valuesT {d : Addr} {o : Obj} {kvs : List (List Key × V)} : Walk (Itdt d o kvs) kvs.length (fun H => H d = some (.frz o (.dT kvs))) (fun i H x H' => H' = H ∧ ∃ k, kvs[i]? = some (k, x)) :=
  ⟨fun _ _ hi q => ⟨q, hi⟩, fun _ q => ⟨q, Nat.le_refl _⟩, fun _ _ _ _ _ _ y => y⟩
/-! ### sum(d.values()) -/
def tSumVals (td : TE) : TE := fun σ H Q => td σ H fun x H1 => ∃ (a : Addr) (kvs : List (List Key × V)) (is : List Int), x = V.ref a ∧ H1 a = some (.dT kvs) ∧ kvs.map (·.2) = is.map V.int ∧ Q (.int is.sum) H1
theorem preSum_is (is : List Int) : ∀ n, n ≤ is.length → preSum (fun i => is.getD i 0) n = (is.take n).sum
  | 0, _ => rfl
  | n + 1, h => by
    have hx : is[n]? = some is[n] := List.getElem?_eq_getElem h
    show preSum (fun i => is.getD i 0) n + is.getD n 0 = _
    rw [preSum_is is n (Nat.le_of_succ_le h), List.take_succ, hx, List.getD_eq_getElem?_getD, hx, List.sum_append]
    simp
section
variable {X : Cx} {o : Expr} {p pos apos mpos : Pos} {td : TE}
theorem pe_sumVals (hc : X.calm = true) (hg : Gl X "sum") (hm : X.mg "sum" = none) (hd : PE X o td) (hbase : attributeBase o "values" X.env (eval o X.env) = eval o X.env := by rfl) (hline : (apos.endLine == mpos.line) = true := by rfl)
    (hse : starEach [Expr.Call (.Attribute o "values" apos) [] [] mpos] X.env = [(false, eval (Expr.Call (.Attribute o "values" apos) [] [] mpos) X.env)] := by rfl) :
    PE X (.Call (.Name "sum" p) [.Call (.Attribute o "values" apos) [] [] mpos] [] pos) (tSumVals td) := by
  refine ⟨fun pins s σ H Q I h => ?_⟩
  refine wpAny_Call_Name_kw (ld_blt I hg hm (u := .builtin "sum") (by first | rfl | decide +kernel) ?_ (by first | decide +kernel | decide) (by first | decide +kernel | decide))
  rw [hse]
  refine PySem.callWith_builtin1 (wpAny_Call_method0_late hbase hline (thn (hd.run pins s σ H _ I h) fun v s1 ⟨x, H1, I1, r1, a, kvs, is, ex, ha, hv, q⟩ => ?_))
  subst ex
  obtain rfl : v = Value.ref a := r1
  obtain ⟨hsys, ob, es, ep, ho, hx, hdt, hsz, ent⟩ := dt_vals (.inl ha) I1
  have hraw : s1.heap.DictRaw a es ep := ⟨ob, ho, hx, hdt⟩
  refine ⟨"dict", "dict.values", F.plainAttrs_dict, F.slot_dict_values, F.type_dict_values, hraw.typeIs, fun b e => ?_, Calls.callWith_builtin rfl (PySem.evalArgs_none ?_)⟩
  · cases e
    exact ⟨ob, ho, hx.2.1⟩
  refine call_meetsIn F.slot_dict_values hraw.typeIs F.entry_dict_values (F.args_dict_values_1 _) (meets_dict_values_raw a hsys) ⟨⟨es, ep, hraw⟩, ?_⟩
  have k1 : ∀ b u, s1.heap.get? b = some u → (s1.heap.push { cls := .type "dict_values", data := .fields #[.ref a] }).get? b = some u := fun b u e => Heap.get?_push_of_some _ e
  have raw1 : (s1.heap.push { cls := .type "dict_values", data := .fields #[.ref a] }).DictRaw a es ep := hraw.at fun o e => k1 a o e
  have hlv : es.size = is.length := by
    have e1 := congrArg List.length hv
    rw [List.length_map, List.length_map] at e1
    omega
  have hval : ∀ (i : Nat) (v : Value), (∃ hi : i < es.size, v = es[i].val) → ∃ t, v = Value.int (is.getD i 0) t := fun i v ⟨hi, ev⟩ => by
    have hi2 : i < kvs.length := by omega
    obtain ⟨en, hen, rv⟩ := ent i kvs[i].1 kvs[i].2 (List.getElem?_eq_getElem hi2)
    rw [Array.getElem?_eq_getElem hi] at hen
    have een := Option.some.inj hen
    have e1 : (kvs.map (·.2))[i]? = some kvs[i].2 := by rw [List.getElem?_map, List.getElem?_eq_getElem hi2] <;> rfl
    rw [hv, List.getElem?_map] at e1
    obtain ⟨j, hj, e2⟩ := Option.map_eq_some_iff.mp e1
    rw [← e2, ← een, ← ev] at rv
    obtain ⟨t, e3⟩ := rv
    refine ⟨t, ?_⟩
    rw [e3, List.getD_eq_getElem?_getD, hj] <;> rfl
  have hlt : a < s1.heap.objs.size := Heap.lt_size ho
  have hsz1 : (s1.heap.push { cls := .type "dict_values", data := .fields #[.ref a] }).objs.size = s1.heap.objs.size + 1 := Heap.size_push _ _
  refine call_sum_walkAnyS (wpAny_pyIter_values_raw (v := s1.heap.objs.size) (d := a) ⟨_, Heap.get?_push_size _ rfl, rfl, rfl⟩ raw1 ?_)
  refine ⟨_, _, _, _, _, _, _, _, rfl, (Walks.rawValues (A := X.A.in1) (I.ok.hd hc) (s1.heap.push { cls := .type "dict_values", data := .fields #[.ref a] }).objs.size a (by rw [hsz1]; exact Nat.ne_of_lt (Nat.lt_succ_of_lt hlt)) es ep).toS,
    ⟨⟨_, Heap.get?_push_size _ rfl, rfl, rfl⟩, raw1.at fun u e => Heap.get?_push_of_some _ e⟩, fun b hb => ?_, hval, fun s' t' hmv => ?_⟩
  · show b < ((s1.heap.push _).push _).objs.size
    rw [Heap.size_push, Heap.size_push]
    rw [hsz1] at hb
    rcases List.mem_cons.mp hb with e | hb
    · rw [e]
      exact Nat.lt_succ_self _
    · have e : b = a := List.mem_singleton.mp hb
      rw [e]
      exact Nat.lt_succ_of_lt (Nat.lt_succ_of_lt hlt)
  · rw [Moved.eq_with hmv]
    have es2 : preSum (fun i => is.getD i 0) es.size = is.sum := by
      rw [hlv, preSum_is is is.length (Nat.le_refl _), List.take_length]
    refine ⟨.int is.sum, H1, I1.kept (t' := s'.toks) fun b u e => hmv.heap b u (fun hmem => ?_) (Heap.get?_push_of_some _ (k1 b u e)), ⟨t', by rw [es2]⟩, q⟩
    have e1 : b = (s1.heap.push { cls := .type "dict_values", data := .fields #[.ref a] }).objs.size := List.mem_singleton.mp hmem
    have e2 := Heap.lt_size e
    rw [hsz1] at e1
    rw [e1] at e2
    exact absurd e2 (Nat.not_lt.mpr (Nat.le_succ _))
end
/-! ### {t: v}, t a tuple -/
def tDispT (tk tv : TE) : TE := fun σ H Q => ∀ p, H p = none → tk σ (upd H p (.dT [])) fun y H1 => tv σ H1 fun v H2 => H2 p = some (.dT []) ∧ ∃ (b : Addr) (k : List Key), y = .ref b ∧ H2 b = some (.tup (k.map kV)) ∧ Q (.ref p) (upd H2 p (.dT [(k, v)]))
theorem pe_dispT {X : Cx} {pos : Pos} {kx vx : Expr} {tk tv : TE} (hu : X.A.units + 1 < cLine) (hk : PE X kx tk) (hv : PE X vx tv) : PE X (.Dict [some kx] [vx] pos) (tDispT tk tv) := by
  refine ⟨fun pins s σ H Q I q => ?_⟩
  have hn := I.hok.fresh (Nat.le_refl s.heap.objs.size)
  have I1 := I.laid (a := s.heap.objs.size) (o := .dT []) (h' := s.heap.push { cls := .type "dict", data := .dict #[] }) (t' := s.toks) (fun _ _ q => Heap.get?_push_of_some _ q) (Nat.le_refl _) (dt_empty s.heap I.big)
  have pps := pps_cons (pos := pos) hk hv (pps_nil (X := X))
  rw [arm_eval_Dict, zip_pairTrees [some kx] [vx] X.env pos rfl rfl, dictDisplay_pairs (pairTrees [some kx] [vx] X.env pos) (List.cons_ne_nil _ _) (by show 1 < 17; decide)]
  refine wpAny_bind (wpAny_standAt (wpAny_bind (wpAny_subDictH (knd := tupleKind (mixKind X.prog X.w)) (Q := fun d s' => wpAny (model X.prog X.w) X.A (pure (Value.ref d)) (EP X pins σ Q) X.xe s') (show X.A.units < cLine from by omega) (by show 1 ≤ 15; decide) ?_)))
  refine thn (pps.run pins _ σ _ (fun ps H2 => match ps with
    | [(y, v)] => H2 s.heap.objs.size = some (.dT []) ∧ ∃ (b : Addr) (k : List Key), y = .ref b ∧ H2 b = some (.tup (k.map kV)) ∧ Q (.ref s.heap.objs.size) (upd H2 s.heap.objs.size (.dT [(k, v)]))
    | _ => False) I1 (q _ hn)) fun ws s2 ⟨ps, H2, I2, rel, q2⟩ => ?_
  obtain ⟨y, v, ep, e, b, k, ey, eb, q3⟩ : ∃ y v, ps = [(y, v)] ∧ H2 s.heap.objs.size = some (.dT []) ∧ ∃ (b : Addr) (k : List Key), y = .ref b ∧ H2 b = some (.tup (k.map kV)) ∧ Q (.ref s.heap.objs.size) (upd H2 s.heap.objs.size (.dT [(k, v)])) := by
    match ps, q2 with
    | [(y, v)], q2 => exact ⟨y, v, rfl, q2⟩
  subst ep ey
  cases rel with
  | cons r rr =>
    cases rr
    obtain ⟨r1, r2⟩ := r
    rename_i wv _
    obtain ⟨wk, wv⟩ := wv
    cases (show wk = Value.ref b from r1)
    obtain ⟨z0, nd, zs, kt, dd⟩ := dt_of I2.hok e
    cases kt
    refine ⟨[(k, b, wv)], ⟨rfl, rfl, key_of I2.hok eb, trivial⟩, dd, fun h' tk' dd' hs => wpAny_pure ⟨.ref s.heap.objs.size, _, ?_, rfl, q3⟩⟩
    obtain ⟨o, es, ep, g1, g2, g3, g4, _, g5⟩ := dd'
    refine d_write I2 (by rw [e]; exact True.intro) hs ⟨o, g1⟩ ⟨by rw [sizeLine_eq]; show 1 ≤ _; decide, nd, [(k, b, wv)], .cons ⟨rfl, ?_, r2⟩ .nil, o, es, ep, g1, g2, g3, g4, g5⟩
    rw [upd_ne (ne_of eb e fun j => nomatch j)]
    exact eb

end M

set_option Elab.async false
set_option linter.all false
set_option maxRecDepth 100000
set_option maxHeartbeats 2000000
namespace M
open PySem PySem.Spec PyProof.Rows L2

/-! ### dicts whose keys are nested tuples -/
mutual
/-- the value v is the key k; its tuples are tracked -/
inductive NKV (H : Hp) : V → NestedKey → Prop where
  | non : NKV H .non .none
  | int (i : Int) : NKV H (.int i) (.num i)
  | str (x : Str) : NKV H (.str x) (.text x)
  | tup {b : Addr} {vs : List V} {ks : List NestedKey} (e : H b = some (.tup vs)) (r : NKVs H vs ks) : NKV H (.ref b) (.tup ks)
inductive NKVs (H : Hp) : List V → List NestedKey → Prop where
  | nil : NKVs H [] []
  | cons {v : V} {k : NestedKey} {vs : List V} {ks : List NestedKey} (a : NKV H v k) (r : NKVs H vs ks) : NKVs H (v :: vs) (k :: ks)
end
mutual
theorem nkv_heap {P : Program} {w : World} {H : Hp} {h : Heap} (ok : HOk P w H h) : ∀ {v : V} {k : NestedKey} {u : Value}, NKV H v k → RelV v u → NestedIs h k u
  | _, _, _, .non, r => by cases r; exact .none
  | _, _, _, .int i, r => by obtain ⟨t, rfl⟩ := r; exact .int _ _
  | _, _, _, .str x, r => by obtain ⟨t, rfl⟩ := r; exact .text _ _
  | _, _, _, .tup e r0, r => by
    cases r
    obtain ⟨_, its, rel, o, g1, g2, n, g3⟩ := ok _ _ e
    exact .tup g1 g2 g3 (by simpa using nkvs_heap ok r0 rel)
theorem nkvs_heap {P : Program} {w : World} {H : Hp} {h : Heap} (ok : HOk P w H h) : ∀ {vs : List V} {ks : List NestedKey} {us : List Value}, NKVs H vs ks → Vals vs us → NestedAll h ks us
  | _, _, _, .nil, r => by cases r; exact .nil
  | _, _, _, .cons a r0, r => by
    cases r with
    | cons r1 r2 => exact .cons (nkv_heap ok a r1) (nkvs_heap ok r0 r2)
end
mutual
theorem NKV.keeps {H H' : Hp} (ht : ∀ b ys, H b = some (.tup ys) → H' b = some (.tup ys)) : ∀ {v : V} {k : NestedKey}, NKV H v k → NKV H' v k
  | _, _, .non => .non
  | _, _, .int i => .int i
  | _, _, .str x => .str x
  | _, _, .tup e r => .tup (ht _ _ e) (NKVs.keeps ht r)
theorem NKVs.keeps {H H' : Hp} (ht : ∀ b ys, H b = some (.tup ys) → H' b = some (.tup ys)) : ∀ {vs : List V} {ks : List NestedKey}, NKVs H vs ks → NKVs H' vs ks
  | _, _, .nil => .nil
  | _, _, .cons a r => .cons (NKV.keeps ht a) (NKVs.keeps ht r)
end
/-- a key of the dict: a tuple -/
def NKey (H : Hp) (v : V) (k : NestedKey) : Prop := (∃ b, v = .ref b) ∧ NKV H v k ∧ k.depth ≤ 8
theorem NKey.keeps {H H' : Hp} (ht : ∀ b ys, H b = some (.tup ys) → H' b = some (.tup ys)) {v : V} {k : NestedKey} (h : NKey H v k) : NKey H' v k := ⟨h.1, h.2.1.keeps ht, h.2.2⟩
theorem NKey.same {H H' : Hp} (s : Same H H') {v : V} {k : NestedKey} (h : NKey H v k) : NKey H' v k := h.keeps fun b ys e => s _ _ e
/-- the entries of the object at a -/
def NEnt (P : Program) (w : World) (a : Addr) (zs : List (NestedKey × Addr × Value)) (h : Heap) : Prop := ∃ o es ep, h.get? a = some o ∧ o.ExactDict ∧ o.data = .dict es ep ∧ es.toList = zs.map (entryOfKey (nestedKind P w)) ∧ (zs.map (·.1)).Nodup
abbrev NRel (H : Hp) : List (NestedKey × V) → List (NestedKey × Addr × Value) → Prop := Paired fun p q => p.1 = q.1 ∧ NKey H (.ref q.2.1) p.1 ∧ RelV p.2 q.2.2
/-- at a stands a dict with these keys and values, in the order in which they came -/
def NDat (P : Program) (w : World) (H : Hp) (a : Addr) (kvs : List (NestedKey × V)) : Prop := (a == sysModules) = false ∧ kvs.length ≤ sizeLine ∧ ∃ zs, NRel H kvs zs ∧ H a = some (.ext (NEnt P w a zs))
theorem NRel.keeps {H H' : Hp} {kvs : List (NestedKey × V)} {zs : List (NestedKey × Addr × Value)} (ht : ∀ b ys, H b = some (.tup ys) → H' b = some (.tup ys)) (r : NRel H kvs zs) : NRel H' kvs zs :=
  L2.Paired.mapP r fun _ _ j => ⟨j.1, j.2.1.keeps ht, j.2.2⟩
theorem NDat.same {P : Program} {w : World} {H H' : Hp} (s : Same H H') {a : Addr} {kvs : List (NestedKey × V)} (g : NDat P w H a kvs) : NDat P w H' a kvs := by
  obtain ⟨g1, g2, zs, r, e⟩ := g
  exact ⟨g1, g2, zs, r.keeps fun b ys j => s _ _ j, s _ _ e⟩
theorem NDat.but {P : Program} {w : World} {H H' : Hp} {D : Addr} (hD : Ch H D) (s : But D H H') {a : Addr} (ne : a ≠ D) {kvs : List (NestedKey × V)} (g : NDat P w H a kvs) : NDat P w H' a kvs := by
  obtain ⟨g1, g2, zs, r, e⟩ := g
  exact ⟨g1, g2, zs, r.keeps fun b ys j => s _ _ (fun q => hD.1 _ (q ▸ j)) j, s _ _ ne e⟩
theorem Ch.nd {P : Program} {w : World} {H : Hp} {a : Addr} {kvs : List (NestedKey × V)} (g : NDat P w H a kvs) : Ch H a := by
  obtain ⟨_, _, zs, _, e⟩ := g
  exact ⟨fun _ j => (by rw [e] at j; cases j), fun _ _ j => (by rw [e] at j; cases j)⟩
theorem NDat.some {P : Program} {w : World} {H : Hp} {a : Addr} {kvs : List (NestedKey × V)} (g : NDat P w H a kvs) : ∃ o, H a = .some o := by
  obtain ⟨_, _, zs, _, e⟩ := g
  exact ⟨_, e⟩
section
variable {P : Program} {w : World} {H : Hp} {h : Heap} {a : Addr} {kvs : List (NestedKey × V)} {zs : List (NestedKey × Addr × Value)}
theorem nd_of (ok : HOk P w H h) (r : NRel H kvs zs) (e : H a = some (.ext (NEnt P w a zs))) : h.DictOfH (nestedKind P w) a zs := by
  obtain ⟨⟨o, es, ep, g1, g2, g3, g4, g5⟩, _⟩ := (ok a _ e)
  have all : ∀ {l : List (NestedKey × V)} {m : List (NestedKey × Addr × Value)}, NRel H l m → ∀ x ∈ m, (nestedKind P w).is h x.1 x.2.1 := by
    intro l m q
    induction q with
    | nil => exact fun x hx => nomatch hx
    | cons hq t ih =>
      intro x hx
      rcases List.mem_cons.mp hx with j | j
      · subst j
        rw [← hq.1]
        exact ⟨nkv_heap ok hq.2.1.2.1 rfl, hq.2.1.2.2⟩
      · exact ih x j
  exact ⟨o, es, ep, g1, g2, g3, g4, all r, g5⟩
theorem NRel.val (r : NRel H kvs zs) (k : NestedKey) : RelO (valV kvs k) (valueAt (pairsH zs) k) := by
  induction r with
  | nil => exact True.intro
  | @cons p q ps qs j t ih =>
    obtain ⟨j1, _, j2⟩ := j
    by_cases c : p.1 = k
    · rw [valV_pos c, show valueAt (pairsH (q :: qs)) k = some q.2.2 from by simp [valueAt, pairsH, List.find?_cons, ← j1, c]]
      exact j2
    · rw [valV_neg c, show valueAt (pairsH (q :: qs)) k = valueAt (pairsH qs) k from by simp [valueAt, pairsH, List.find?_cons, ← j1, c]]
      exact ih
theorem NRel.len (r : NRel H kvs zs) : kvs.length = zs.length := Paired.length r
theorem NRel.any (r : NRel H kvs zs) (k : NestedKey) : (atKey zs k).isSome = (valV kvs k).isSome := by
  have z := (r.val k).isSome_eq
  rw [valueAt_pairsH, Option.isSome_map] at z
  exact z.symm
theorem NRel.put (r : NRel H kvs zs) {k : NestedKey} {b : Addr} {y : V} {u : Value} (hb : NKey H (.ref b) k) (ry : RelV y u) : NRel H (putK kvs k y) (storedH zs k b u) := by
  unfold putK storedH
  rw [valV_any, ← r.any k]
  by_cases c : (atKey zs k).isSome = true
  · rw [if_pos c, if_pos c]
    clear c
    induction r with
    | nil => exact .nil
    | @cons p q ps qs j t ih =>
      rw [List.map_cons, List.map_cons]
      refine .cons ?_ ih
      obtain ⟨j1, j2, j3⟩ := j
      unfold putAt
      by_cases d : p.1 = k
      · rw [if_pos d, if_pos (j1.symm.trans d)]; exact ⟨j1, j2, ry⟩
      · rw [if_neg d, if_neg (fun i => d (j1.trans i))]; exact ⟨j1, j2, j3⟩
  · rw [if_neg c, if_neg c]
    exact r.snoc ⟨rfl, hb, ry⟩
end
section
variable {X : Cx} {pins : List (Addr × Obj)} {σ : L2.St} {H : Hp} {s : Shared} {a : Addr} {kvs : List (NestedKey × V)} {k : NestedKey} {y v : V} {u r : Value} {A : Around} {E : Value → Shared → Prop}
theorem nroom {A : Around} (hu : A.units + 64 < cLine) : (nestedKind X.prog X.w).room A.in1 := by
  show A.units + 1 + 8 < cLine
  omega
theorem nkey_at (I : Inv X pins σ H s) (g : NKey H y k) (ry : RelV y u) : ∃ b, u = .ref b ∧ y = .ref b ∧ (nestedKind X.prog X.w).is s.heap k b := by
  obtain ⟨⟨b, rfl⟩, g1, g2⟩ := g
  cases ry
  exact ⟨b, rfl, rfl, nkv_heap I.hok g1 rfl, g2⟩
theorem nd_get {Q : Value → Shared → Prop} (hu : A.units + 64 < cLine) (I : Inv X pins σ H s) (g : NDat X.prog X.w H a kvs) (gk : NKey H y k) (ry : RelV y u) (l : valV kvs k = some v) (go : ∀ w' s', Inv X pins σ H s' → RelV v w' → Q w' s') :
    wpAny (model X.prog X.w) A (getItem (.ref a) u) Q E s := by
  obtain ⟨g1, g2, zs, rel, e⟩ := g
  obtain ⟨b, rfl, _, ik⟩ := nkey_at I gk ry
  obtain ⟨w', hw, rw'⟩ := RelO.some_of (v := v) (o := valueAt (pairsH zs) k) (by rw [← l]; exact rel.val k)
  exact getItem_keyed (nroom (X := X) hu) ik ⟨zs, nd_of I.hok rel e, rfl⟩ hw (go w' _ (I.tok _) rw')
theorem nd_in {Q : Value → Shared → Prop} (hu : A.units + 64 < cLine) (I : Inv X pins σ H s) (g : NDat X.prog X.w H a kvs) (gk : NKey H y k) (ry : RelV y u) (go : ∀ s', Inv X pins σ H s' → Q (.bool (valV kvs k).isSome) s') :
    wpAny (model X.prog X.w) A (compareOp .In u (.ref a)) Q E s := by
  obtain ⟨g1, g2, zs, rel, e⟩ := g
  obtain ⟨b, rfl, _, ik⟩ := nkey_at I gk ry
  refine in_keyed (nroom (X := X) hu) ik g1 ⟨zs, nd_of I.hok rel e, rfl⟩ ?_
  rw [← (rel.val k).isSome_eq]
  exact go _ (I.tok _)
theorem nd_notIn {Q : Value → Shared → Prop} (hu : A.units + 64 < cLine) (I : Inv X pins σ H s) (g : NDat X.prog X.w H a kvs) (gk : NKey H y k) (ry : RelV y u) (go : ∀ s', Inv X pins σ H s' → Q (.bool (!(valV kvs k).isSome)) s') :
    wpAny (model X.prog X.w) A (compareOp .NotIn u (.ref a)) Q E s := by
  obtain ⟨g1, g2, zs, rel, e⟩ := g
  obtain ⟨b, rfl, _, ik⟩ := nkey_at I gk ry
  refine notIn_keyed (nroom (X := X) hu) ik g1 ⟨zs, nd_of I.hok rel e, rfl⟩ ?_
  rw [← (rel.val k).isSome_eq]
  exact go _ (I.tok _)
theorem nent_stay (P : Program) (w : World) (a : Addr) (zs : List (NestedKey × Addr × Value)) : ∀ h1 h2 : Heap, NEnt P w a zs h1 → (∀ o, h1.get? a = some o → h2.get? a = some o) → NEnt P w a zs h2 := fun h1 h2 ⟨o, es, ep, g1, g⟩ st => ⟨o, es, ep, st _ g1, g⟩
theorem nd_put {Q : Unit → Shared → Prop} (hu : A.units + 64 < cLine) (I : Inv X pins σ H s) (g : NDat X.prog X.w H a kvs) (gk : NKey H y k) (ry : RelV y u) (rv : RelV v r) (lt : kvs.length < sizeLine)
    (go : ∀ H' s', (∀ b, b ≠ a → H' b = H b) → NDat X.prog X.w H' a (putK kvs k v) → Inv X pins σ H' s' → Q () s') : wpAny (model X.prog X.w) A (setItem (.ref a) u r) Q E s := by
  obtain ⟨g1, g2, zs, rel, e⟩ := g
  obtain ⟨b, rfl, rfl, ik⟩ := nkey_at I gk ry
  refine wpAny_setItem_heap (hsz := by rw [← rel.len]; omega) (nroom (X := X) hu) ik (nd_of I.hok rel e) fun h' dd hs => ?_
  obtain ⟨o, es, ep, i1, i2, i3, i4, _, i5⟩ := dd
  have hl : (putK kvs k v).length ≤ sizeLine := by have := length_putK kvs k v; omega
  have r2 := (rel.put gk rv).keeps (H' := upd H a (.ext (NEnt X.prog X.w a (storedH zs k b r)))) fun c ys ec => (by
    rw [upd_ne (ne_of ec e fun j => nomatch j)]
    exact ec)
  refine go (upd H a (.ext (NEnt X.prog X.w a (storedH zs k b r)))) _ (fun c hc => upd_ne hc) ⟨g1, hl, _, r2, upd_same⟩ ?_
  exact d_write I (by rw [e]; exact True.intro) hs ⟨o, i1⟩ ⟨⟨o, es, ep, i1, i2, i3, i4, i5⟩, ⟨o, i1⟩, nent_stay _ _ _ _⟩
theorem nd_getOr {Q : Value → Shared → Prop} {d : V} {q : Value} (hu : A.units + 64 < cLine) (I : Inv X pins σ H s) (g : NDat X.prog X.w H a kvs) (gk : NKey H y k) (ry : RelV y u) (rd : RelV d q) (go : ∀ w' s', Inv X pins σ H s' → RelV ((valV kvs k).getD d) w' → Q w' s') :
    wpAny (model X.prog X.w) A (call (.builtin "dict.get") [.ref a, u, q]) Q E s := by
  obtain ⟨g1, g2, zs, rel, e⟩ := g
  obtain ⟨b, rfl, _, ik⟩ := nkey_at I gk ry
  exact getOr_keyed (nroom (X := X) hu) ik g1 ⟨zs, nd_of I.hok rel e, rfl⟩ (go _ _ (I.tok _) ((rel.val k).getD rd))
theorem nd_type (I : Inv X pins σ H s) (g : NDat X.prog X.w H a kvs) : s.TypeIs (.ref a) "dict" ∧ (∀ b, Value.ref a = .ref b → ∃ ob, s.heap.get? b = some ob ∧ ob.dict = none) := by
  obtain ⟨g1, g2, zs, rel, e⟩ := g
  have dd := nd_of I.hok rel e
  refine ⟨dd.typeIs, fun b q => ?_⟩
  cases q
  obtain ⟨ob, _, _, i1, i2, _⟩ := dd
  exact ⟨ob, i1, i2.2.1⟩
end
/-- {} -/
def tNNew (P : Program) (w : World) : TE := fun _ H Q => ∀ (p : Addr) (H' : Hp), H p = none → Same H H' → (∀ b, b ≠ p → H' b = H b) → NDat P w H' p [] → Q (.ref p) H'
def tNGet (P : Program) (w : World) (td ty : TE) : TE := fun σ H Q => td σ H fun x H1 => ty σ H1 fun y H2 => ∃ a kvs k v, x = .ref a ∧ NDat P w H2 a kvs ∧ NKey H2 y k ∧ valV kvs k = some v ∧ Q v H2
def tNIn (P : Program) (w : World) (ty td : TE) : TE := fun σ H Q => ty σ H fun y H1 => td σ H1 fun x H2 => ∃ a kvs k, x = .ref a ∧ NDat P w H2 a kvs ∧ NKey H2 y k ∧ Q (.bl (valV kvs k).isSome) H2
def tNNotIn (P : Program) (w : World) (ty td : TE) : TE := fun σ H Q => ty σ H fun y H1 => td σ H1 fun x H2 => ∃ a kvs k, x = .ref a ∧ NDat P w H2 a kvs ∧ NKey H2 y k ∧ Q (.bl (!(valV kvs k).isSome)) H2
def sNPut (P : Program) (w : World) (td ty tv : TE) : TS := fun D σ H => tv σ H fun v H1 => td σ H1 fun x H2 => ty σ H2 fun y H3 => ∃ a kvs k, x = .ref a ∧ NDat P w H3 a kvs ∧ NKey H3 y k ∧ kvs.length < sizeLine ∧ ∀ H4, (∀ b, b ≠ a → H4 b = H3 b) → NDat P w H4 a (putK kvs k v) → D.nx σ H4
section
variable {X : Cx} {o i e value f : Expr} {pos pos' apos cpos : Pos} {td ty tv tx : TE}
theorem pe_nnew : PE X (.Dict [] [] pos) (tNNew X.prog X.w) := by
  constructor
  intro ps s σ H Q I go
  have fr := I.hok.fresh (Nat.le_refl s.heap.objs.size)
  have nz : (s.heap.objs.size == sysModules) = false := beq_eq_false_iff_ne.mpr (Ne.symm (Nat.ne_of_lt I.big))
  have ent : NEnt X.prog X.w s.heap.objs.size [] (s.heap.push { cls := .type "dict", data := .dict #[] }) := ⟨_, #[], 0, Heap.get?_push_size _ rfl, ⟨rfl, rfl, rfl⟩, rfl, rfl, List.nodup_nil⟩
  refine wpAny_Dict_empty ⟨.ref s.heap.objs.size, upd H s.heap.objs.size (.ext (NEnt X.prog X.w s.heap.objs.size [])), ?_, rfl, ?_⟩
  · exact I.laid (t' := s.toks) (fun _ _ q => Heap.get?_push_of_some _ q) (Nat.le_refl _) ⟨ent, ⟨_, Heap.get?_push_size _ rfl⟩, nent_stay _ _ _ _⟩
  · exact go _ _ fr (same_new fr) (fun b hb => upd_ne hb) ⟨nz, Nat.zero_le _, [], .nil, upd_same⟩
theorem pe_nget (hu : X.A.units + 64 < cLine) (ho : PE X o td) (hi : PE X i ty) (hs : NoSl i := by exact fun _ _ => rfl) : PE X (.Subscript o i pos) (tNGet X.prog X.w td ty) := by
  constructor
  intro ps s σ H Q I go
  refine subD_of PySem.F.slot_dict_getitem.lookup hs (thn (ho.run ps s σ H _ I go) fun u s1 ⟨x, H1, I1, rx, q1⟩ => thn (hi.run ps s1 σ H1 _ I1 q1) fun iv s2 ⟨y, H2, I2, ry, a, kvs, k, v, ex, g, gk, l, q2⟩ => ?_)
  cases ex
  obtain rfl : u = .ref a := rx
  exact ⟨(nd_type I2 g).1, nd_get hu I2 g gk ry l fun w' s3 I3 rw' => ⟨v, H2, I3, rw', q2⟩⟩
theorem pc_nin (hu : X.A.units + 64 < cLine) (hi : PE X i ty) (ho : PE X o td) : PC X .In i o (tNIn X.prog X.w ty td) := by
  constructor
  intro ps s σ H Q I go
  refine thn (hi.run ps s σ H _ I go) fun iv s1 ⟨y, H1, I1, ry, q1⟩ => thn (ho.run ps s1 σ H1 _ I1 q1) fun u s2 ⟨x, H2, I2, rx, a, kvs, k, ex, g, gk, q2⟩ => ?_
  cases ex
  obtain rfl : u = .ref a := rx
  exact nd_in hu I2 g gk ry fun s3 I3 => ⟨.bl (valV kvs k).isSome, H2, I3, rfl, q2⟩
theorem pc_nnotin (hu : X.A.units + 64 < cLine) (hi : PE X i ty) (ho : PE X o td) : PC X .NotIn i o (tNNotIn X.prog X.w ty td) := by
  constructor
  intro ps s σ H Q I go
  refine thn (hi.run ps s σ H _ I go) fun iv s1 ⟨y, H1, I1, ry, q1⟩ => thn (ho.run ps s1 σ H1 _ I1 q1) fun u s2 ⟨x, H2, I2, rx, a, kvs, k, ex, g, gk, q2⟩ => ?_
  cases ex
  obtain rfl : u = .ref a := rx
  exact nd_notIn hu I2 g gk ry fun s3 I3 => ⟨.bl (!(valV kvs k).isSome), H2, I3, rfl, q2⟩
theorem ps_nput (hu : X.A.units + 64 < cLine) (ho : PE X o td) (hi : PE X i ty) (hv : PE X value tv) (hs : swapsWith value (some (.Subscript o i pos')) pos.line X.env = pure false := by rfl) :
    PS X (.Assign [.Subscript o i pos'] value pos) (sNPut X.prog X.w td ty tv) := by
  constructor
  intro ps s σ H D I go
  refine wpAny_Assign_Subscript (thn (hv.run ps s σ H _ I go) fun r s1 ⟨v, H1, I1, rv, q1⟩ => thn (ho.run ps s1 σ H1 _ I1 q1) fun u s2 ⟨x, H2, I2, rx, q2⟩ => thn (hi.run ps s2 σ H2 _ I2 q2) fun iv s3 ⟨y, H3, I3, ry, a, kvs, k, ex, g, gk, lt, q3⟩ => ?_) hs
  cases ex
  obtain rfl : u = .ref a := rx
  exact nd_put hu I3 g gk ry rv lt fun H4 s4 e4 g4 I4 => ⟨σ, H4, I4, q3 H4 e4 g4⟩
def tNGetOr (P : Program) (w : World) (td ty tx : TE) : TE := fun σ H Q => td σ H fun x H1 => ∃ a, x = .ref a ∧ (∃ kvs, NDat P w H1 a kvs) ∧ ty σ H1 fun y H2 => tx σ H2 fun z H3 => ∃ kvs k, NDat P w H3 a kvs ∧ NKey H3 y k ∧ Q ((valV kvs k).getD z) H3
theorem pe_ngetOr (hu : X.A.units + 64 < cLine) (ho : PE X o td) (he : PE X e ty) (hf : PE X f tx) (m : M2 X o "get" apos e f cpos) : PE X (.Call (.Attribute o "get" apos) [e, f] [] cpos) (tNGetOr X.prog X.w td ty tx) := by
  constructor
  intro ps s σ H Q I go
  refine wpAny_Call_method m.base m.few m.line PySem.F.plainAttrs_dict PySem.F.slot_dict_get PySem.F.type_dict_get (thn (ho.run ps s σ H _ I go) fun u s1 ⟨x, H1, I1, rx, a, ex, ⟨kv0, g0⟩, q1⟩ => ?_)
  cases ex
  obtain rfl : u = .ref a := rx
  refine ⟨(nd_type I1 g0).1, (nd_type I1 g0).2, ?_⟩
  rw [m.trees]
  refine Calls.callWith_builtin rfl (Calls.evalArgs_plain (Calls.spliced_cons (thn (he.run ps s1 σ H1 _ I1 q1) fun iv s2 ⟨y, H2, I2, ry, q2⟩ => Calls.spliced_cons (thn (hf.run ps s2 σ H2 _ I2 q2) fun fv s3 ⟨z, H3, I3, rz, kvs, k, g, gk, q3⟩ => Calls.spliced_nil ?_))))
  exact nd_getOr hu I3 g gk ry rz fun w' s4 I4 rw' => ⟨_, H3, I4, rw', q3⟩
end

end M

set_option Elab.async false
set_option linter.all false
set_option maxRecDepth 100000
set_option maxHeartbeats 2000000
namespace M
open PySem PySem.Spec PyProof.Rows L2

/-! ### list(zip(a, b)) of two tuples: the zip's own tuple is held by the list -/
section
variable {prog : Program} {w : World} {A : Around} {E : Value → Shared → Prop} {s : Shared} {z TI TO T i1 i2 l1 l2 : Addr} {f : Bool} {oT : Obj} {k1 k2 : Nat} {xs ys : Array Value}
/-- the two items of the next pair, the tuple that was given out being kept by somebody -/
theorem zt_go {x y : Value} {R : Value → Shared → Prop} (D : ZipApart z TI TO i1 i2 l1 l2) (hz : IsZipHeld s.heap z TI TO T f) (hT : s.heap.get? T = some oT) (hI : IsPair s.heap TI (.ref i1) (.ref i2))
    (h1 : s.heap.IsTupleIter i1 l1 k1) (h2 : s.heap.IsTupleIter i2 l2 k2) (t1 : s.heap.IsTuple l1 xs) (t2 : s.heap.IsTuple l2 ys) (hx : xs[k1]? = some x) (hy : ys[k2]? = some y)
    (k : ∀ g, IsZipHeld g z TI TO T true → g.IsTupleIter i1 l1 (k1 + 1) → g.IsTupleIter i2 l2 (k2 + 1) → IsPair g s.heap.objs.size x y → (∀ c o, c ≠ z → c ≠ i1 → c ≠ i2 → s.heap.get? c = some o → g.get? c = some o) → R (.ref s.heap.objs.size) { s with heap := g }) :
    wpAny (model prog w) A (Builtin.«zip.__next__» ⟨[.ref z], []⟩) (fun fin s' => ∃ v, fin = .done (.ret v) ∧ R v s') E s := by
  show wpAny _ _ (field (.ref z) 2 >>= _) _ _ _
  apply wpAny_bind; apply wpAny_field hz rfl (x := .bool false) rfl
  show wpAny _ _ (field (.ref z) 3 >>= _) _ _ _
  apply wpAny_bind; apply wpAny_field hz rfl (x := .ref TI) rfl
  apply wpAny_bind; apply wpAny_seqItems hI rfl
  show wpAny _ _ (Builtin.SmallTypes.ownedTupleIsFree (.ref z) >>= _) _ _ _
  apply wpAny_bind; apply wpAny_tupleHeld_zip hz hT
  intro g1 z1 b1
  simp only [Bool.false_eq_true, if_false]
  apply wpAny_bind; rw [← Array.forIn_toList]; simp only [List.forIn_cons, List.forIn_nil]
  apply wpAny_bind; apply wpAny_bind; apply wpAny_holding
  show wpAny _ _ (Builtin.SmallTypes.nextOf (.ref i1) >>= _) _ _ _
  apply wpAny_bind
  refine RZ.nextOf_tuple_item (s := { s with heap := g1 }) (h1.extBut b1.extBut D.i1z) (t1.extBut b1.extBut D.l1z) hx ?_
  intro g2 j1 b2
  apply wpAny_pure; apply wpAny_pure; apply wpAny_bind; apply wpAny_bind; apply wpAny_holding
  show wpAny _ _ (Builtin.SmallTypes.nextOf (.ref i2) >>= _) _ _ _
  apply wpAny_bind
  refine RZ.nextOf_tuple_item (s := { s with heap := g2 }) ((h2.extBut b1.extBut D.i2z).extBut b2.extBut D.i12.symm) ((t2.extBut b1.extBut D.l2z).extBut b2.extBut D.l2i1) hy ?_
  intro g3 j2 b3
  apply wpAny_pure; apply wpAny_pure; apply wpAny_pure
  show wpAny _ _ (newTuple [x, y] >>= _) _ _ _
  refine wpAny_bind (wpAny_newTuple ?_)
  have e : g3.objs.size = s.heap.objs.size := b3.1.trans (b2.1.trans b1.1)
  have zz : IsZipHeld g3 z TI TO T true := b3.extBut _ _ D.i2z.symm (b2.extBut _ _ D.i1z.symm z1)
  have kk : ∀ c o, c ≠ z → c ≠ i1 → c ≠ i2 → s.heap.get? c = some o → g3.get? c = some o := fun c o n1 n2 n3 q => b3.extBut _ _ n3 (b2.extBut _ _ n2 (b1.extBut _ _ n1 q))
  have jj := j1.extBut b3.extBut D.i12
  have pp : IsPair (g3.push { cls := .type "tuple", data := .seq #[x, y] }) g3.objs.size x y := Heap.get?_push_size _ rfl
  refine wpAny_pure ⟨_, rfl, ?_⟩
  show R (.ref g3.objs.size) _
  rw [e] at pp ⊢
  exact k _ (Heap.get?_push_of_some _ zz) (jj.at fun _ q => Heap.get?_push_of_some _ q) (j2.at fun _ q => Heap.get?_push_of_some _ q) pp fun c o n1 n2 n3 q => Heap.get?_push_of_some _ (kk c o n1 n2 n3 q)
/-- nothing more -/
theorem zt_over {R : PySem.Fin → Shared → Prop} (hh : A.handled = none) (D : ZipApart z TI TO i1 i2 l1 l2) (hz : IsZipHeld s.heap z TI TO T f) (hT : s.heap.get? T = some oT) (hI : IsPair s.heap TI (.ref i1) (.ref i2))
    (h1 : s.heap.IsTupleIter i1 l1 k1) (t1 : s.heap.IsTuple l1 xs) (hx : xs[k1]? = none)
    (k : ∀ g e, (∀ c o, c ≠ z → c ≠ i1 → s.heap.get? c = some o → g.get? c = some o) → (∃ o, g.get? e = some o ∧ o.cls = .type "StopIteration") → E (.ref e) { s with heap := g }) :
    wpAny (model prog w) A (Builtin.«zip.__next__» ⟨[.ref z], []⟩) R E s := by
  show wpAny _ _ (field (.ref z) 2 >>= _) _ _ _
  apply wpAny_bind; apply wpAny_field hz rfl (x := .bool false) rfl
  show wpAny _ _ (field (.ref z) 3 >>= _) _ _ _
  apply wpAny_bind; apply wpAny_field hz rfl (x := .ref TI) rfl
  apply wpAny_bind; apply wpAny_seqItems hI rfl
  show wpAny _ _ (Builtin.SmallTypes.ownedTupleIsFree (.ref z) >>= _) _ _ _
  apply wpAny_bind; apply wpAny_tupleHeld_zip hz hT
  intro g1 z1 b1
  simp only [Bool.false_eq_true, if_false]
  apply wpAny_bind; rw [← Array.forIn_toList]; simp only [List.forIn_cons, List.forIn_nil]
  apply wpAny_bind; apply wpAny_bind; apply wpAny_holding
  show wpAny _ _ (Builtin.SmallTypes.nextOf (.ref i1) >>= _) _ _ _
  apply wpAny_bind
  refine RZ.nextOf_tuple_end (s := { s with heap := g1 }) hh (h1.extBut b1.extBut D.i1z) (t1.extBut b1.extBut D.l1z) hx ?_
  intro g2 e b2 he
  exact k g2 e (fun c o n1 n2 q => b2 _ _ n2 (b1.extBut _ _ n1 q)) he
theorem zt_next {x y : Value} {R : Option Value → Shared → Prop} (D : ZipApart z TI TO i1 i2 l1 l2) (hz : IsZipHeld s.heap z TI TO T f) (hT : s.heap.get? T = some oT) (hI : IsPair s.heap TI (.ref i1) (.ref i2))
    (h1 : s.heap.IsTupleIter i1 l1 k1) (h2 : s.heap.IsTupleIter i2 l2 k2) (t1 : s.heap.IsTuple l1 xs) (t2 : s.heap.IsTuple l2 ys) (hx : xs[k1]? = some x) (hy : ys[k2]? = some y)
    (k : ∀ g, IsZipHeld g z TI TO T true → g.IsTupleIter i1 l1 (k1 + 1) → g.IsTupleIter i2 l2 (k2 + 1) → IsPair g s.heap.objs.size x y → (∀ c o, c ≠ z → c ≠ i1 → c ≠ i2 → s.heap.get? c = some o → g.get? c = some o) → R (some (.ref s.heap.objs.size)) { s with heap := g }) :
    wpAny (model prog w) A (pyNext (.ref z)) R E s := by
  have ty : s.TypeIs (.ref z) "zip" := ⟨_, hz, rfl⟩
  unfold pyNext
  refine wpAny_bind (wpAny_attempt (wpAny_callSpecial?_slot (name := Str.ofString "__next__") ty F.slot_zip_next (wpAny_call_entry F.slot_zip_next ty F.entry_zip_next (zt_go D hz hT hI h1 h2 t1 t2 hx hy ?_) (F.args_zip_next_1 _))))
  intro g a b c d e
  exact wpAny_pure (k g a b c d e)
theorem zt_none {R : Option Value → Shared → Prop} (hh : A.handled = none) (D : ZipApart z TI TO i1 i2 l1 l2) (hz : IsZipHeld s.heap z TI TO T f) (hT : s.heap.get? T = some oT) (hI : IsPair s.heap TI (.ref i1) (.ref i2))
    (h1 : s.heap.IsTupleIter i1 l1 k1) (t1 : s.heap.IsTuple l1 xs) (hx : xs[k1]? = none)
    (k : ∀ g, (∀ c o, c ≠ z → c ≠ i1 → s.heap.get? c = some o → g.get? c = some o) → R none { s with heap := g }) : wpAny (model prog w) A (pyNext (.ref z)) R E s := by
  have ty : s.TypeIs (.ref z) "zip" := ⟨_, hz, rfl⟩
  unfold pyNext
  refine wpAny_bind (wpAny_attempt (wpAny_callSpecial?_slot (name := Str.ofString "__next__") ty F.slot_zip_next (wpAny_call_entry F.slot_zip_next ty F.entry_zip_next (zt_over hh D hz hT hI h1 t1 hx ?_) (F.args_zip_next_1 _))))
  rintro g e b ⟨o, ho, hc⟩
  exact wpAny_bind (wpAny_isInstance (T := "StopIteration") (b := true) ⟨o, ho, hc⟩ isSubtype_stop (wpAny_pure (k g b)))
/-- the list does not ask a zip for its length -/
theorem zip_no_len : typeLookup (.type "zip") "__len__" = pure none := am_miss_of_fast (by decide +kernel)
theorem zip_no_hint : typeLookup (.type "zip") "__length_hint__" = pure none := am_miss_of_fast (by decide +kernel)
theorem zt_hint {R : Bool → Shared → Prop} (ty : s.TypeIs (.ref z) "zip") (k : R true s) : wpAny (model prog w) A (Builtin.List.listLengthHint (.ref z)) R E s := by
  unfold Builtin.List.listLengthHint
  apply wpAny_bind; refine wpAny_specialOf ty zip_no_len ?_
  show wpAny _ _ (specialOf (Value.ref z) (Str.ofString "__length_hint__") >>= _) _ _ _
  apply wpAny_bind; refine wpAny_specialOf ty zip_no_hint ?_
  exact wpAny_pure k
end

end M

set_option Elab.async false
set_option linter.all false
set_option maxRecDepth 100000
set_option maxHeartbeats 2000000
namespace M
open PySem PySem.Spec PyProof.Rows L2

/-- where the walk over the zip stands -/
def ZT (h : Heap) (z TI TO i1 i2 a b : Addr) (i : Nat) : Prop := IsPair h TI (.ref i1) (.ref i2) ∧ h.IsTupleIter i1 a i ∧ h.IsTupleIter i2 b i ∧
  ((IsZip h z TI TO .none ∧ ∃ x y, IsPair h TO x y) ∨ ∃ T f oT, IsZipHeld h z TI TO T f ∧ h.get? T = some oT ∧ T ≠ z ∧ T ≠ i1 ∧ T ≠ i2 ∧ ∃ o, h.get? TO = some o)
section
variable {X : Cx} {pins : List (Addr × Obj)} {σ : L2.St} {H : Hp} {s : Shared} {z TI TO i1 i2 a b : Addr} {A : Around} {E : Value → Shared → Prop} {xs ys : List V}
theorem ZT.at {h h' : Heap} {i : Nat} (st : ZT h z TI TO i1 i2 a b i) (k : ∀ c ∈ [z, TI, TO, i1, i2], ∀ o, h.get? c = some o → h'.get? c = some o) (ke : ∀ c o, h.get? c = some o → ∃ o, h'.get? c = some o) : ZT h' z TI TO i1 i2 a b i := by
  obtain ⟨hI, h1, h2, hz⟩ := st
  refine ⟨k TI (by simp) _ hI, h1.at fun o q => k i1 (by simp) o q, h2.at fun o q => k i2 (by simp) o q, ?_⟩
  rcases hz with ⟨hz, x, y, hO⟩ | ⟨T, f, oT, hz, hT, r1, r2, r3, oO, hO⟩
  · exact .inl ⟨k z (by simp) _ hz, x, y, k TO (by simp) _ hO⟩
  · obtain ⟨oT', hT'⟩ := ke T oT hT
    exact .inr ⟨T, f, oT', k z (by simp) _ hz, hT', r1, r2, r3, ke TO oO hO⟩
theorem ZT.there {h : Heap} {i : Nat} (st : ZT h z TI TO i1 i2 a b i) : ∀ c ∈ [z, TI, TO, i1, i2], ∃ o, h.get? c = some o := by
  obtain ⟨hI, ⟨o1, h1, _⟩, ⟨o2, h2, _⟩, hz⟩ := st
  have hz2 : (∃ o, h.get? z = some o) ∧ ∃ o, h.get? TO = some o := by
    rcases hz with ⟨hz, x, y, hO⟩ | ⟨T, f, oT, hz, hT, _, _, _, oO, hO⟩
    · exact ⟨⟨_, hz⟩, ⟨_, hO⟩⟩
    · exact ⟨⟨_, hz⟩, ⟨_, hO⟩⟩
  intro c hc
  have e : c = z ∨ c = TI ∨ c = TO ∨ c = i1 ∨ c = i2 := by simpa using hc
  rcases e with rfl | rfl | rfl | rfl | rfl
  · exact hz2.1
  · exact ⟨_, hI⟩
  · exact hz2.2
  · exact ⟨_, h1⟩
  · exact ⟨_, h2⟩
/-- one more pair -/
theorem zl_step {x y : V} {i : Nat} {R : Option Value → Shared → Prop} (I : Inv X pins σ H s) (hf : ∀ c ∈ [z, TI, TO, i1, i2], FpOk X pins H c) (D : ZipApart z TI TO i1 i2 a b) (st : ZT s.heap z TI TO i1 i2 a b i)
    (qx : SqT X.K H a xs) (qy : SqT X.K H b ys) (hx : xs[i]? = some x) (hy : ys[i]? = some y)
    (k : ∀ (T : Addr) (s' : Shared), H T = none → (∀ c ∈ [z, TI, TO, i1, i2], c ≠ T) → Inv X pins σ (upd H T (.tup [x, y])) s' → ZT s'.heap z TI TO i1 i2 a b (i + 1) → R (some (.ref T)) s') :
    wpAny (model X.prog X.w) A (pyNext (.ref z)) R E s := by
  obtain ⟨its, rv, p, _⟩ := I.tuple qx
  obtain ⟨its2, rv2, p2, _⟩ := I.tuple qy
  obtain ⟨u, hu, ru⟩ := rv.get hx
  obtain ⟨u2, hu2, ru2⟩ := rv2.get hy
  have lt : ∀ c ∈ [z, TI, TO, i1, i2], c < s.heap.objs.size := fun c hc => by
    obtain ⟨o, e⟩ := st.there c hc
    exact Heap.lt_size e
  have ne : ∀ c ∈ [z, TI, TO, i1, i2], c ≠ s.heap.objs.size := fun c hc => Nat.ne_of_lt (lt c hc)
  have fin : ∀ (g : Heap) (T : Addr) (f : Bool) (oT : Obj), IsZipHeld g z TI TO T f → g.get? T = some oT → T ≠ z → T ≠ i1 → T ≠ i2 → g.IsTupleIter i1 a (i + 1) → g.IsTupleIter i2 b (i + 1) → IsPair g s.heap.objs.size u u2 →
      (∀ c o, c ∉ [z, TO, i1, i2] → s.heap.get? c = some o → g.get? c = some o) → (∃ o, g.get? TO = some o) → R (some (.ref s.heap.objs.size)) { s with heap := g } := fun g T f oT hz hT r1 r2 r3 h1 h2 hp hk hO => by
    have new : ObjOk X.prog X.w (upd H s.heap.objs.size (.tup [x, y])) g s.heap.objs.size (.tup [x, y]) := ⟨by show 2 ≤ sizeLine; decide, [u, u2], .cons ru (.cons ru2 .nil), ⟨_, hp, rfl, _, rfl⟩⟩
    have I1 : Inv X pins σ (upd H s.heap.objs.size (.tup [x, y])) { s with heap := g } :=
      I.turnedNew (t' := s.toks) (ch := [z, TI, TO, i1, i2]) (fun c o hb q => hk c o (fun m => hb (by simp at m ⊢; rcases m with e | e | e | e <;> simp [e])) q) hf (Nat.le_refl _) new
    refine k _ _ (I.hok.fresh (Nat.le_refl _)) ne I1 ⟨hk TI _ (fun m => ?_) st.1, h1, h2, .inr ⟨T, f, oT, hz, hT, r1, r2, r3, hO⟩⟩
    simp at m
    rcases m with e | e | e | e
    · exact D.TIz e
    · exact D.TITO e
    · exact D.TIi1 e
    · exact D.TIi2 e
  have nz := (ne z (by simp)).symm
  have n1 := (ne i1 (by simp)).symm
  have n2 := (ne i2 (by simp)).symm
  obtain ⟨hI, h1, h2, hz⟩ := st
  rcases hz with ⟨hz, x0, y0, hO⟩ | ⟨T, f, oT, hz, hT, r1, r2, r3, oO, hO⟩
  · refine RZ.pyNext_zipT_item D hz hI hO h1 h2 p p2 (x := u) (y := u2) (by simpa using hu) (by simpa using hu2) fun g z' O' j1 j2 hp _ hk => ?_
    exact fin g _ false _ z' hp nz n1 n2 j1 j2 hp (fun c o m q => hk c o (fun e => m (by simp [e])) (fun e => m (by simp [e])) (fun e => m (by simp [e])) (fun e => m (by simp [e])) q) ⟨_, O'⟩
  · refine zt_next D hz hT hI h1 h2 p p2 (x := u) (y := u2) (by simpa using hu) (by simpa using hu2) fun g z' j1 j2 hp hk => ?_
    exact fin g T true oT z' (hk T oT r1 r2 r3 hT) r1 r2 r3 j1 j2 hp (fun c o m q => hk c o (fun e => m (by simp [e])) (fun e => m (by simp [e])) (fun e => m (by simp [e])) q) ⟨_, hk TO _ D.TOz D.TOi1 D.TOi2 hO⟩
/-- no more -/
theorem zl_end {i : Nat} {R : Option Value → Shared → Prop} (hh : A.handled = none) (I : Inv X pins σ H s) (hf : ∀ c ∈ [z, TI, TO, i1, i2], FpOk X pins H c) (D : ZipApart z TI TO i1 i2 a b) (st : ZT s.heap z TI TO i1 i2 a b i)
    (qx : SqT X.K H a xs) (qy : SqT X.K H b ys) (hx : xs.length ≤ i) (k : ∀ s' : Shared, Inv X pins σ H s' → R none s') : wpAny (model X.prog X.w) A (pyNext (.ref z)) R E s := by
  obtain ⟨its, rv, p, _⟩ := I.tuple qx
  obtain ⟨its2, rv2, p2, _⟩ := I.tuple qy
  have l1 := rv.length
  have e : its.toArray[i]? = none := by simp; omega
  obtain ⟨hI, h1, h2, hz⟩ := st
  rcases hz with ⟨hz, x0, y0, hO⟩ | ⟨T, f, oT, hz, hT, r1, r2, r3, oO, hO⟩
  · exact RZ.pyNext_zipT_end hh D hz hI hO h1 h2 p p2 (.inl e) fun g hk => k _ (I.turnedL (t' := s.toks) (ch := [z, TI, TO, i1, i2]) (fun c o m q => hk c o (fun e => m (by simp [e])) (fun e => m (by simp [e])) (fun e => m (by simp [e])) (fun e => m (by simp [e])) q) hf)
  · exact zt_none hh D hz hT hI h1 p e fun g hk => k _ (I.turnedL (t' := s.toks) (ch := [z, TI, TO, i1, i2]) (fun c o m q => hk c o (fun e => m (by simp [e])) (fun e => m (by simp [e])) q) hf)
end

end M

set_option Elab.async false
set_option linter.all false
set_option maxRecDepth 100000
set_option maxHeartbeats 2000000
namespace M
open PySem PySem.Spec PyProof.Rows L2

/-- each item of the list is the pair of the two at its place -/
def PairsIn (H : Hp) (acc xs ys : List V) : Prop := ∀ (j : Nat) (v : V), acc[j]? = some v → ∃ (T : Addr) (x y : V), v = .ref T ∧ xs[j]? = some x ∧ ys[j]? = some y ∧ H T = some (.tup [x, y])
section
variable {X : Cx} {pins : List (Addr × Obj)} {σ : L2.St} {H H0 : Hp} {s : Shared} {z TI TO i1 i2 a b q : Addr} {A1 : Around} {xs ys l0 : List V} {Rs : Result → Shared → Prop}
theorem zl_loop (hh : A1.handled = none) (D : ZipApart z TI TO i1 i2 a b) (hl : xs.length = ys.length) (hm : xs.length ≤ 1000) (hq0 : H0 q = some (.lst l0)) (qx : SqT X.K H0 a xs) (qy : SqT X.K H0 b ys)
    (hdone : ∀ acc H s, Inv X pins σ H s → H q = some (.lst acc) → acc.length = xs.length → PairsIn H acc xs ys → But q H0 H → Rs (.ok (.ret .none)) s) :
    ∀ (m i : Nat) (acc : List V) (H : Hp) (s : Shared), m + i = xs.length → Inv X pins σ H s → (∀ c ∈ [z, TI, TO, i1, i2], FpOk X pins H c) → ZT s.heap z TI TO i1 i2 a b i → But q H0 H → H q = some (.lst acc) → acc.length = i → PairsIn H acc xs ys →
      codeAny (model X.prog X.w) A1 (.builtin "list.extend.loop" ⟨[.ref q, .ref z, .none], []⟩) Rs s := by
  intro m
  induction m with
  | zero =>
    intro i acc H s e I hf st bt hq la pr
    refine codeAny_builtin PySem.F.entry_extend_loop ?_
    rw [Around.under_plainId PySem.F.plain_extend_loop _]
    show wpAny _ A1.in1 (pyNext (.ref z) >>= _) _ _ s
    refine wpAny_bind (zl_end hh I hf D st (sqT_but (.lst hq0) bt qx) (sqT_but (.lst hq0) bt qy) (by omega) fun s' I' => ?_)
    exact wpAny_pure (hdone acc H s' I' hq (by omega) pr bt)
  | succ m ih =>
    intro i acc H s e I hf st bt hq la pr
    have hix : i < xs.length := by omega
    have hiy : i < ys.length := by omega
    have ex := List.getElem?_eq_getElem hix
    have ey := List.getElem?_eq_getElem hiy
    refine codeAny_builtin PySem.F.entry_extend_loop ?_
    rw [Around.under_plainId PySem.F.plain_extend_loop _]
    show wpAny _ A1.in1 (pyNext (.ref z) >>= _) _ _ s
    refine wpAny_bind (zl_step I hf D st (sqT_but (.lst hq0) bt qx) (sqT_but (.lst hq0) bt qy) ex ey fun T s' hT hne I' st' => ?_)
    have nqT : q ≠ T := ne_of_none hq hT
    have hq' : upd H T (.tup [xs[i], ys[i]]) q = some (.lst acc) := by rw [upd_ne nqT]; exact hq
    have w1 : Same H (upd H T (.tup [xs[i], ys[i]])) := same_new hT
    have e1 : upd H T (.tup [xs[i], ys[i]]) T = some (.tup [xs[i], ys[i]]) := upd_same
    have hf1 : ∀ c ∈ [z, TI, TO, i1, i2], FpOk X pins (upd H T (.tup [xs[i], ys[i]])) c := fun c hc => ⟨by rw [upd_ne (hne c hc)]; exact (hf c hc).1, (hf c hc).2⟩
    have ncq : ∀ c ∈ [z, TI, TO, i1, i2], c ≠ q := fun c hc w => by
      have := (hf c hc).1
      rw [w, hq] at this
      cases this
    show wpAny _ A1.in1 (updateSeq q (·.push (.ref T)) >>= _) _ _ _
    obtain ⟨zz, its, n, r2, hl', e2⟩ := I'.lstM hq'
    refine wpAny_bind (wpAny_updateSeq e2 rfl (wpAny_pure ⟨plainId_quiet PySem.F.plain_extend_loop _, ?_⟩) (by rw [List.size_toArray, sizeLine_eq]; omega) (by show (its.toArray.push (Value.ref T)).size ≤ sizeLine + 1; rw [Array.size_push, List.size_toArray, sizeLine_eq]; omega))
    have bb : But q (upd H T (.tup [xs[i], ys[i]])) (upd (upd H T (.tup [xs[i], ys[i]])) q (.lst (acc ++ [.ref T]))) := But.upd
    refine ih (i + 1) (acc ++ [.ref T]) _ _ (by omega) (I'.lset (ys := acc ++ [.ref T]) (its' := its ++ [.ref T]) (t' := s'.toks) hq' e2 (by simp) (r2.append (.cons (show L2.RelV (.ref T) (.ref T) from rfl) .nil)) (by rw [List.length_append, sizeLine_eq]; simp; omega)) (fun c hc => ⟨by rw [upd_ne (ncq c hc)]; exact (hf1 c hc).1, (hf1 c hc).2⟩) (st'.at (fun c hc o w => (Heap.get?_update_other _ _ (Ne.symm (ncq c hc))).trans w) fun c o w => ?_)
      (fun b o nb w => bb _ _ nb (w1 _ _ (bt _ _ nb w))) upd_same (by simp [la]) fun j v hj => ?_
    · by_cases w' : c = q
      · exact ⟨_, by rw [w']; exact Heap.get?_update_self _ e2 rfl⟩
      · exact ⟨o, (Heap.get?_update_other _ _ (Ne.symm w')).trans w⟩
    · rcases Nat.lt_trichotomy j acc.length with h1 | h1 | h1
      · rw [List.getElem?_append_left h1] at hj
        obtain ⟨T', x, y, ev, g1, g2, g3⟩ := pr j v hj
        exact ⟨T', x, y, ev, g1, g2, bb _ _ (ne_ho (w1 _ _ g3) hq' fun w => nomatch w) (w1 _ _ g3)⟩
      · subst h1
        have : V.ref T = v := by simpa using hj
        refine ⟨T, xs[i], ys[i], this.symm, by rw [la]; exact ex, by rw [la]; exact ey, bb _ _ (Ne.symm nqT) e1⟩
      · rw [List.getElem?_eq_none (by rw [List.length_append, List.length_singleton]; omega)] at hj
        cases hj
theorem zl_extend (hh : A1.handled = none) (D : ZipApart z TI TO i1 i2 a b) (hl : xs.length = ys.length) (hm : xs.length ≤ 1000) (I : Inv X pins σ H s) (hq : H q = some (.lst [])) (qx : SqT X.K H a xs) (qy : SqT X.K H b ys)
    (hf : ∀ c ∈ [z, TI, TO, i1, i2], FpOk X pins H c) (hz : IsZip s.heap z TI TO .none) (st : ZT s.heap z TI TO i1 i2 a b 0)
    (hdone : ∀ acc H' s, Inv X pins σ H' s → H' q = some (.lst acc) → acc.length = xs.length → PairsIn H' acc xs ys → But q H H' → Rs (.ok (.ret .none)) s) :
    wpAny (model X.prog X.w) A1.in1 (Builtin.List.listExtendWith (.ref q) (.ref z) .none)
      (fun fin s' => match fin with | .done f => Rs (.ok f) s' | .again c' => c'.quiet = true ∧ codeAny (model X.prog X.w) A1 c' Rs s') (fun e s' => Rs (.error e) s') s := by
  have ncq : ∀ c ∈ [z, TI, TO, i1, i2], c ≠ q := fun c hc w => by
    have := (hf c hc).1
    rw [w, hq] at this
    cases this
  have ty : s.TypeIs (.ref z) "zip" := ⟨_, hz, rfl⟩
  have g1 : Builtin.List.listSameRef (.ref q) (.ref z) = false := by simp [Builtin.List.listSameRef, (ncq z (by simp)).symm]
  have g2 : (Value.type "zip" == Value.type "list") = false := by decide
  have g3 : (Value.type "zip" == Value.type "tuple") = false := by decide
  unfold Builtin.List.listExtendWith
  apply wpAny_bind; apply wpAny_typeOf ty
  simp only [g1, g2, g3, Bool.or_false, Bool.false_eq_true, if_false]
  apply wpAny_bind; apply wpAny_pyIter_zip hz
  apply wpAny_bind; apply wpAny_holding; apply zt_hint ty
  have go := zl_loop (Rs := Rs) hh D hl hm hq qx qy hdone xs.length 0 [] H
  have p0 : PairsIn H [] xs ys := fun j v h => by simp at h
  refine wpAny_ite_split (fun _ => ?_) (fun _ => wpAny_pure ⟨plainId_quiet PySem.F.plain_extend_loop _, go s (by omega) I hf st (fun _ _ _ e => e) hq rfl p0⟩)
  apply wpAny_bind; apply wpAny_rule; apply wpAny_bind
  show wpAny _ _ (updateSeq q (·.push .none) >>= fun _ => updateSeq q (·.pop)) _ _ _
  obtain ⟨_, its, n, r3, _, e3⟩ := I.lstM hq
  cases r3
  refine wpAny_bind (wpAny_updateSeq e3 rfl ?_)
  have I2 := I.lset (f := (·.push Value.none)) (its' := [Value.none]) (ys := [.non]) (t' := s.toks) hq e3 (by simp) (.cons rfl .nil) (by rw [List.length_singleton, sizeLine_eq]; decide)
  obtain ⟨_, its4, k4, r4, _, e4⟩ := I2.lstM upd_same
  obtain ⟨u4, rfl, ru4⟩ := r4.one
  refine wpAny_updateSeq e4 rfl ?_ (by show 1 ≤ sizeLine; rw [sizeLine_eq]; decide) (by show 0 ≤ sizeLine + 1; exact Nat.zero_le _)
  have I3 := I2.lset (f := (·.pop)) (its := [u4]) (its' := []) (ys := []) (t' := s.toks) upd_same e4 (by rfl) .nil (Nat.zero_le _)
  rw [upd_upd] at I3
  have hH : upd H q (.lst []) = H := by
    funext c
    by_cases hb : c = q
    · rw [hb, upd_same, hq]
    · rw [upd_ne hb]
  rw [hH] at I3
  refine wpAny_pure ⟨plainId_quiet PySem.F.plain_extend_loop _, go _ (by omega) I3 hf (st.at (fun c hc o w => ?_) fun c o w => ?_) (fun _ _ _ e => e) hq rfl p0⟩
  · exact (Heap.get?_update_other _ _ (Ne.symm (ncq c hc))).trans ((Heap.get?_update_other _ _ (Ne.symm (ncq c hc))).trans w)
  · by_cases w' : c = q
    · rw [w']
      exact ⟨_, Heap.get?_update_self _ e4 rfl⟩
    · exact ⟨o, (Heap.get?_update_other _ _ (Ne.symm w')).trans ((Heap.get?_update_other _ _ (Ne.symm w')).trans w)⟩
end

end M

set_option Elab.async false
set_option linter.all false
set_option maxRecDepth 100000
set_option maxHeartbeats 2000000
namespace M
open PySem PySem.Spec PyProof.Rows L2

section
variable {X : Cx} {pins : List (Addr × Obj)} {σ : L2.St} {H : Hp} {s : Shared} {z TI TO i1 i2 a b : Addr} {xs ys : List V}
theorem zl_call {Q : VK} (hc : X.calm = true) (D : ZipApart z TI TO i1 i2 a b) (hl : xs.length = ys.length) (hm : xs.length ≤ 1000) (I : Inv X pins σ H s) (qx : SqT X.K H a xs) (qy : SqT X.K H b ys)
    (hf : ∀ c ∈ [z, TI, TO, i1, i2], FpOk X pins H c) (hz : IsZip s.heap z TI TO .none) (st : ZT s.heap z TI TO i1 i2 a b 0)
    (k : ∀ (l : Addr) (acc : List V) (H' : Hp), H l = none → Same H H' → H' l = some (.lst acc) → acc.length = xs.length → PairsIn H' acc xs ys → Q (.ref l) H') :
    wpAny (model X.prog X.w) X.A (call (.type "list") [.ref z]) (EP X pins σ Q) X.xe s := by
  refine callType_codes (Q₁ := fun obj s₁ => obj = .ref s.heap.objs.size ∧ s₁ = { s with heap := s.heap.push { cls := .type "list", data := .seq #[] } }) PySem.F.called_list (PySem.F.typeCall_list_1 _) PySem.F.entry_list_init (code_list_new _ ⟨rfl, rfl⟩) fun obj s₁ h₁ => ?_
  obtain ⟨rfl, rfl⟩ := h₁
  have hS : (s.heap.push { cls := .type "list", data := .seq #[] }).get? s.heap.objs.size = some { cls := .type "list", data := .seq #[] } := Heap.get?_push_size _ rfl
  have fr : H s.heap.objs.size = none := I.hok.fresh (Nat.le_refl _)
  have lt : ∀ c ∈ [z, TI, TO, i1, i2], c ≠ s.heap.objs.size := fun c hc => by
    obtain ⟨o, e⟩ := st.there c hc
    exact Nat.ne_of_lt (Heap.lt_size e)
  have I1 : Inv X pins σ (upd H s.heap.objs.size (.lst [])) { s with heap := s.heap.push { cls := .type "list", data := .seq #[] } } := I.lnew (its := []) (t' := s.toks) .nil (Nat.zero_le _)
  have w1 : Same H (upd H s.heap.objs.size (.lst [])) := same_new fr
  refine ⟨⟨_, hS, rfl⟩, PySem.F.args_list_init_2 _ _, ?_⟩
  show wpAny _ _ (do let old ← Builtin.List.listItems (.ref s.heap.objs.size); Builtin.List.listUpdate (.ref s.heap.objs.size) (fun _ => #[]); letGo old.toList.reverse; Builtin.List.listExtendWith (.ref s.heap.objs.size) (.ref z) .none) _ _ _
  apply wpAny_bind; unfold Builtin.List.listItems
  refine wpAny_bind (wpAny_seqItems hS rfl (wpAny_pure ?_))
  show wpAny _ _ (updateSeq s.heap.objs.size (fun _ => #[]) >>= fun _ => letGo (#[] : Array Value).toList.reverse >>= fun _ => Builtin.List.listExtendWith (.ref s.heap.objs.size) (.ref z) .none) _ _ _
  refine wpAny_bind (wpAny_updateSeq hS rfl ?_)
  have I2 := I1.lset (f := fun _ => #[]) (its := []) (its' := []) (ys := []) (t' := s.toks) upd_same hS rfl .nil (Nat.zero_le _)
  rw [upd_upd] at I2
  refine wpAny_bind (wpAny_letGo ?_)
  have oth : ∀ c, c ≠ s.heap.objs.size → ∀ o, s.heap.get? c = some o → ((s.heap.push { cls := .type "list", data := .seq #[] }).update s.heap.objs.size (Obj.mapSeq (fun _ => (#[] : Array Value)))).get? c = some o := fun c hc o e => (Heap.get?_update_other _ _ (Ne.symm hc)).trans (Heap.get?_push_of_some _ e)
  refine zl_extend (A1 := X.A.in1) (Rs := wants (fun r s₂ => r = .none ∧ EP X pins σ Q (.ref s.heap.objs.size) s₂) X.xe) (show X.A.handled = none from I.ok.hd hc) D hl hm I2 upd_same (same_t w1 qx) (same_t w1 qy)
    (fun c hc => ⟨by rw [upd_ne (lt c hc)]; exact (hf c hc).1, (hf c hc).2⟩) (oth z (lt z (by simp)) _ hz) (st.at (fun c hc o e => oth c (lt c hc) o e) fun c o e => ⟨o, oth c (Nat.ne_of_lt (Heap.lt_size e)) o e⟩) (fun acc H' s' I' hq la pr bt => ?_)
  exact ⟨rfl, .ref s.heap.objs.size, H', I', rfl, k _ acc H' fr (fun b o e => bt _ _ (ne_of_none e fr) (w1 _ _ e)) hq la pr⟩
/-- list(zip(x, y)) of two tuples of one length -/
def tZipL (K : PySem.W.Frag) (ta : TA) : TE := fun σ H Q => ta σ H fun vs H1 => ∃ (a b : Addr) (xs ys : List V), vs = [.ref a, .ref b] ∧ SqT K H1 a xs ∧ SqT K H1 b ys ∧ xs.length = ys.length ∧ xs.length ≤ 1000 ∧
  ∀ (l : Addr) (acc : List V) (H2 : Hp), H1 l = none → Same H1 H2 → H2 l = some (.lst acc) → acc.length = xs.length → PairsIn H2 acc xs ys → Q (.ref l) H2
theorem pe_lstZip {e e2 : Expr} {ta : TA} {p pos p2 pos2 : Pos} (hc : X.calm = true) (hgl : Gl X "list") (hml : X.mg "list" = none) (hg : Gl X "zip") (hm : X.mg "zip" = none) (ha : PA X [e, e2] ta)
    (hs : starEach [e, e2] X.env = (false, eval e X.env) :: starEach [e2] X.env := by rfl) (hpl : (backTo pos2 (starEach [e2] X.env)).any (·.1) = false := by rfl)
    (hs2 : starEach [.Call (.Name "zip" p2) [e, e2] [] pos2] X.env = (false, eval (.Call (.Name "zip" p2) [e, e2] [] pos2) X.env) :: starEach [] X.env := by rfl) (hpl2 : (backTo pos (starEach [] X.env)).any (·.1) = false := by rfl) :
    PE X (.Call (.Name "list" p) [.Call (.Name "zip" p2) [e, e2] [] pos2] [] pos) (tZipL X.K ta) := by
  refine ⟨fun pins s σ H Q I h => ?_⟩
  refine wpAny_Call_Name_kw (ld_blt I hgl hml boot_list ?_ (by decide) (by decide))
  refine PyProof.Rows.callWith_type1 ?_ hs2 hpl2
  rw [hs2]
  show wpAny _ _ (spliced ((false, eval (.Call (.Name "zip" p2) [e, e2] [] pos2) X.env) :: backTo pos (starEach [] X.env))) _ _ s
  refine Calls.spliced_cons ?_
  refine wpAny_Call_Name_kw (ld_blt I hg hm PyProof.Rows.boot_zip ?_ (by decide) (by decide))
  refine PyProof.Rows.callWith_type1 (thn (ha.run pos2 pins s σ H _ I h) fun us s1 ⟨vs, H1, I1, r1, q1⟩ => ?_) hs hpl
  obtain ⟨a, b, xs, ys, rfl, qx, qy, hl, hm', k⟩ := q1
  obtain ⟨its, rv, t1, _⟩ := I1.tuple qx
  obtain ⟨its2, rv2, t2, _⟩ := I1.tuple qy
  cases r1 with
  | cons r rr =>
    cases rr with
    | cons r' rr =>
      cases rr
      cases r
      cases r'
      refine RZ.call_zipT t1 t2 fun g hz hTI hTO h1 h2 hsz hk => Calls.spliced_nil ?_
      have I2 : Inv X pins σ H1 { s1 with heap := g } := I1.kept (t' := s1.toks) hk
      obtain ⟨o1, ho1, _⟩ := id t1
      obtain ⟨o2, ho2, _⟩ := id t2
      refine zl_call hc (PySem.W.ktu_apart s1.heap.objs.size a b (Heap.lt_size ho1) (Heap.lt_size ho2)) hl hm' I2 qx qy (fun c hcm => ?_) hz ⟨hTI, h1, h2, .inl ⟨hz, _, _, hTO⟩⟩ k
      have hle : s1.heap.objs.size ≤ c := by
        have e' : c = s1.heap.objs.size + 4 ∨ c = s1.heap.objs.size + 2 ∨ c = s1.heap.objs.size + 3 ∨ c = s1.heap.objs.size ∨ c = s1.heap.objs.size + 1 := by simpa using hcm
        rcases e' with w | w | w | w | w <;> rw [w]
        · exact Nat.le_add_right _ _
        · exact Nat.le_add_right _ _
        · exact Nat.le_add_right _ _
        · exact Nat.le_refl _
        · exact Nat.le_add_right _ _
      exact I1.fpOk hle (I1.hok.fresh hle)
end

end M

set_option Elab.async false
set_option linter.all false
set_option maxRecDepth 100000
set_option maxHeartbeats 2000000
namespace M
open PySem PySem.Spec PyProof.Rows L2

/-- the cells of a begun vault -/
def begunC (v : Vlt) (hs : List Int) : List (Int × Int) := (v.cells.map (·.1)).zip hs
theorem begun_good {v : Vlt} {hs : List Int} (g : VGood v) (so : StateOk (v.cells.map (·.1)) hs) : VGood ⟨begunC v hs, v.deeds⟩ := by
  have l : (begunC v hs).length = v.cells.length := by
    have := so.1
    rw [List.length_map] at this
    unfold begunC
    rw [List.length_zip, List.length_map]
    omega
  refine ⟨by show 1 ≤ (begunC v hs).length; rw [l]; exact g.c0, by show (begunC v hs).length ≤ 6; rw [l]; exact g.c1, fun c hc => ?_, g.d0, g.d1, fun d hd => by show DeedOk (begunC v hs).length d; rw [l]; exact g.ds d hd, g.nd⟩
  obtain ⟨i, hi, e⟩ := List.mem_iff_getElem.mp (show c ∈ begunC v hs from hc)
  have e2 : (begunC v hs)[i]? = some c := by rw [List.getElem?_eq_getElem hi, e]
  unfold begunC at e2
  rw [List.getElem?_zip_eq_some] at e2
  have st := so.2 i _ _ e2.1 e2.2
  rw [List.getElem?_map] at e2
  obtain ⟨c0, h0, h1⟩ := Option.map_eq_some_iff.mp e2.1
  have ok := g.cs c0 (List.mem_of_getElem? h0)
  rw [← h1] at st
  exact ⟨by rw [← h1]; exact ok.1, by rw [← h1]; exact ok.2.1, st.1, by rw [← h1]; exact st.2⟩
theorem dps_of {K : PySem.W.Frag} {H : Hp} : ∀ {vs : List V} {ds : List PyData}, vs.length = ds.length → (∀ (i : Nat) (v : V) (d : PyData), vs[i]? = some v → ds[i]? = some d → Dp K H v d) → DpAll K H vs ds
  | [], [], _, _ => .nil
  | v :: vs, d :: ds, l, h => .cons (h 0 v d rfl rfl) (dps_of (by simpa using l) fun i v' d' hv hd => h (i + 1) v' d' hv hd)
  | [], _ :: _, l, _ => by simp at l
  | _ :: _, [], l, _ => by simp at l
theorem pairs_cells {K : PySem.W.Frag} {H : Hp} {acc : List V} {ss hs : List Int} (l : acc.length = ss.length) (l2 : ss.length = hs.length) (h : PairsIn H acc (ss.map V.int) (hs.map V.int)) : DpAll K H acc ((ss.zip hs).map cellD) := by
  refine dps_of (by rw [l, List.length_map, List.length_zip]; omega) fun i v d hv hd => ?_
  obtain ⟨T, x, y, rfl, g1, g2, g3⟩ := h i v hv
  rw [List.getElem?_map] at g1 g2 hd
  obtain ⟨a, ha, rfl⟩ := Option.map_eq_some_iff.mp g1
  obtain ⟨b, hb, rfl⟩ := Option.map_eq_some_iff.mp g2
  obtain ⟨c, hc, rfl⟩ := Option.map_eq_some_iff.mp hd
  have := List.getElem?_zip_eq_some.mp hc
  have e1 : c.1 = a := Option.some.inj (this.1.symm.trans ha)
  have e2 : c.2 = b := Option.some.inj (this.2.symm.trans hb)
  show Dp K H (.ref T) (.tuple [.int c.1, .int c.2])
  rw [e1, e2]
  exact .tup (.of g3) (.cons (.int _) (.cons (.int _) .nil))
section
variable {P : Program} {w : World} {K : PySem.W.Frag} {mg : Str → Option Value} {base : Heap}
def spShape (K : PySem.W.Frag) : Sp := fun vs H Q _ => ∃ (p : Addr) (v : Vlt), vs = [.ref p] ∧ VaultAt K H p v ∧ ∀ (t : Addr) (x d : V) (H' : Hp), Same H H' → H' t = some (.tup [x, d]) → Dp K H' x (.tuple (v.cells.map cellD)) → Dp K H' d (.tuple (v.deeds.map deedD)) → Q (.ref t) H'
theorem me_Vault_shape (T : Txt w K mg) : Me P w K mg base 1 (He.ga K "Vault") "shape" (spShape K) := by
  refine me_of (N := ["self"]) (ps := ["self"]) T.f_Vault_shape T.c_Vault T.m_Vault_shape ⟨rfl, rfl, rfl, by decide +kernel, rfl, by decide +kernel, by decide +kernel⟩ (fun _ _ _ _ _ _ us hl => match us, hl with | [_], _ => rfl)
    (fun vs H Q E h => by obtain ⟨p, v, rfl, hv, q⟩ := h; rfl) (fun cdv A outer s H vs Q E hr h => ?_)
  have nd : (["self"] : List Str).Nodup := by decide +kernel
  obtain ⟨p, v, rfl, hv, q⟩ := h
  obtain ⟨dx, a, d, c, b, kvs, h1, h2, h3, h4, h5⟩ := hv.ob
  refine ⟨_, pss_one (ps_ret (pe_tup (pa_cons (pe_fld (pv 0) rfl) (pa_cons (pe_fld (pv 0) rfl) pa_nil)))), ?_⟩
  refine ⟨_, rfl, p, _, _, _, _, rfl, h1, T.c_Vault, T.n_Vault_cells, vf_cells .., _, rfl, p, _, _, _, _, rfl, h1, T.c_Vault, T.n_Vault_deeds, vf_deeds .., (by show 2 ≤ sizeLine; decide), fun t nt => ?_⟩
  exact q t _ _ _ (same_new nt) upd_same (dp_same (same_new nt) h2) (dp_same (same_new nt) h3)
def spBegun (K : PySem.W.Frag) : Sp := fun vs H Q _ => ∃ (p b : Addr) (v : Vlt) (hs : List Int), vs = [.ref p, .ref b] ∧ VaultAt K H p v ∧ VGood v ∧ SqT K H b (hs.map .int) ∧ StateOk (v.cells.map (·.1)) hs ∧ ∀ (x : Addr) (H' : Hp), Same H H' → H x = none → VaultAt K H' x ⟨begunC v hs, v.deeds⟩ → Q (.ref x) H'
theorem ca_begun (T : Txt w K mg) : Ca P w K mg base 55 "begun" (spBegun K) := by
  refine ca_of (N := ["vault", "state"]) (ps := ["vault", "state"]) T.f_begun T.g_begun ⟨rfl, rfl, rfl, by decide +kernel, rfl, by decide +kernel, by decide +kernel⟩ (fun _ _ _ _ _ _ us hl => match us, hl with | [_, _], _ => rfl)
    (fun vs H Q E h => by obtain ⟨p, b, v, hs, rfl, hv, gd, hb, so, q⟩ := h; rfl) (fun cdv A outer s H vs Q E hr h => ?_)
  have nd : (["vault", "state"] : List Str).Nodup := by decide +kernel
  obtain ⟨p, b, v, hs, rfl, hv, gd, hb, so, q⟩ := h
  refine ⟨_, (pss_cons (ps_expr (pe_ca (ca_check_state T) hr (pa_cons (pv 0) (pa_cons (pv 1) pa_nil))))
      (pss_one (ps_ret (pe_ma (ma_Vault T) hr (pa_cons (pe_lstZip (by rfl) (by rfl) T.b_list (by rfl) T.b_zip (pa_cons (pe_me0 (me_Vault_sizes T) hr (pv 0)) (pa_cons (pv 1) pa_nil))) (pa_cons (pe_callTy call_list_of (by rfl) T.b_list boot_list (pa_cons (pe_ix ix_tup (pe_me0 (me_Vault_shape T) hr (pv 0)) pe_int (fun _ _ => rfl)) pa_nil)) pa_nil)))))), ?_⟩
  refine ⟨_, rfl, _, rfl, p, b, v, hs, rfl, hv, gd.ok, hb, so, fun H1 s1 => ?_⟩
  obtain ⟨dx, gs, e1, e2⟩ := (hv.same s1).me "sizes"
  refine ⟨_, rfl, p, dx, gs, rfl, e1, e2, p, v, rfl, hv.same s1, gd.c1, fun sa H2 s2 hsz => ?_⟩
  have s12 := s1.trans s2
  have lhs : v.cells.length = hs.length := by
    have := so.1
    rw [List.length_map] at this
    exact this
  have c6 := gd.c1
  refine ⟨_, rfl, sa, b, _, _, rfl, .of hsz, same_t s12 hb, by simp [lhs], by simp; omega, fun l acc H3 nl s3 hl la pr => ?_⟩
  have s13 := s12.trans s3
  have la' : acc.length = (v.cells.map (·.1)).length := by simpa using la
  have dcs : DpAll K H3 acc ((begunC v hs).map cellD) := pairs_cells la' (by simp [lhs]) pr
  obtain ⟨dx2, gs2, e3, e4⟩ := (hv.same s13).me "shape"
  refine ⟨_, rfl, p, dx2, gs2, rfl, e3, e4, p, v, rfl, hv.same s13, fun t xx dd H4 s4 ht _ hdd => ?_⟩
  obtain ⟨da, dxs, rfl, hda, hdx⟩ := dp_tup hdd
  refine ⟨_, _, _, _, rfl, rfl, .of ht, at1, da, dxs, rfl, .inr hda, fun l2 nl2 => ?_⟩
  have s5 : Same H4 (upd H4 l2 (.lst dxs)) := same_new nl2
  have x2 : upd H4 l2 (.lst dxs) l2 = some (.lst dxs) := upd_same
  generalize upd H4 l2 (.lst dxs) = H5 at s5 x2 ⊢
  intro x dxa hx hdxa ne
  have w3 : Same H5 (upd (upd H5 dxa (.own x)) x (.ins (He.ga K "Vault") dxa [])) := (same_new hdxa).trans (same_new (by rw [upd_ne (Ne.symm ne)]; exact hx))
  have s35 := s4.trans s5
  have s05 := (s13.trans s4).trans s5
  refine ⟨x, dxa, l, l2, acc, dxs, ⟨begunC v hs, v.deeds⟩, rfl, upd_same, .of ((s35.trans w3) _ _ hl), dps_same (s35.trans w3) dcs, .of (w3 _ _ x2), dps_same (s5.trans w3) hdx, begun_good gd so, fun H6 b6 vt => ⟨rfl, q x H6 (fun b o e => b6 _ _ (ne_of_none (s05 _ _ e) hx) ((s05.trans w3) _ _ e)) (none_of s05 hx) vt⟩⟩
end

end M

set_option Elab.async false
set_option linter.all false
set_option maxRecDepth 100000
set_option maxHeartbeats 2000000
namespace M
open PySem PySem.Spec PyProof.Rows L2

/-! ### an own error without arguments -/
section
variable {X : Cx} {C : Addr} {bmB : List Value} {B newId initId : String}
theorem pmk_own0 {x : Str} {p pos : Pos} (F : ExcBaseFacts B newId initId bmB) (q : PySem.W.excIn X.K C bmB newId = true) (gC : X.mg x = some (.ref C)) (kC : PySem.W.keepIn X.K (.ref C) = true) (r : Raises X (.ref C)) (hg : Gl X x := by rfl)
    (hdb : (x == ("__debug__" : Str)) = false := by decide) : PMk X (.Call (.Name x p) [] [] pos) (fun _ H Q => Q (.ref C) none H) := by
  intro pins s σ H Q I h
  refine wpAny_Call_Name_kw (ld_glob I hg gC ?_ hdb)
  refine PySem.W.callWith_K0 I.kIn kC ?_
  show wpAny _ _ (call (.ref C) []) _ _ _
  obtain ⟨bm, N, nm, qn, bs, hdct, sn, sub, ab, col, dd, k0, k1, k2, k3, k5, mN, hC, hN, hni, T⟩ := exc_obj I.kIn q
  refine wpAny_call_exc_subT F T hC hN hni (fun h' e hm => ?_) (Nat.zero_le _)
  exact mk_of I hm r h (I.hok.gone hm.new)
end
/-! ### defs that may raise -/
structure CaX (P : Program) (w : World) (K : PySem.W.Frag) (mg : Str → Option Value) (base : Heap) (k : Nat) (x : Str) (sp : Sp) : Prop where
  ex : ∃ (f : Addr) (fd : FuncData) (ps : List Str), FnOk P w K mg base (L2.CX P w) k f fd ps sp ∧ mg x = some (.ref f) ∧ PySem.W.keepIn K (.ref f) = true ∧ Binds K fd ps []
structure CfX (P : Program) (w : World) (K : PySem.W.Frag) (mg : Str → Option Value) (base : Heap) (k : Nat) (x : Str) (ps : List Str) (sp : Sp) : Prop where
  ex : ∃ (fd : FuncData) (oc : Value) (od : Option Addr) (osl : Array (Option Value)), K.lookup (He.ga K x) = some ⟨oc, od, .func fd, osl⟩ ∧ FnOk P w K mg base (L2.CX P w) k (He.ga K x) fd ps sp ∧ PySem.W.keepIn K (.ref (He.ga K x)) = true ∧ Binds K fd ps []
  g : mg x = some (.ref (He.ga K x))
section
variable {P : Program} {w : World} {K : PySem.W.Frag} {mg : Str → Option Value} {base : Heap} {x m q : Str} {st : Stmt} {N ps : List Str} {k : Nat} {sp : Sp} {C f : Addr}
abbrev BodyX (P : Program) (w : World) (K : PySem.W.Frag) (mg : Str → Option Value) (base : Heap) (q : Str) (st : Stmt) (N : List Str) (k : Nat) (f : Addr) (sp : Sp) : Prop := ∀ (cdv : Value) (A : Around) (outer : List Env) (s : Shared) (H : Hp) (vs : List V) (Q : VK) (E : XK), Room k (A.deeper (envOfC q (defScope st) s.heap.objs.size f cdv)) → sp vs H Q E →
      ∃ t, PSs (cxOf (L2.CX P w) P w K mg base N q (defScope st) f cdv A outer s H E) (defBody st) t ∧ t { nx := fun _ H' => Q .non H', rt := Q } (start N vs) H
theorem ca_ofX (F : ∃ fd, FunD K x x (defArgs st) (defBody st) (defScope st) [] [] (He.fAd K (x, none)) fd) (g : mg x = some (.ref (He.ga K x))) (S : FnScope N ps (defScope st)) (hb : BindsH x x st ps) (len : ∀ vs H Q E, sp vs H Q E → vs.length = ps.length)
    (hbody : BodyX P w K mg base x st N k (He.fAd K (x, none)) sp) : CaX P w K mg base (k + 1) x sp := by
  obtain ⟨fd, F⟩ := F
  exact ⟨_, fd, ps, F.ok S len hbody, g, F.kp, F.bindsN hb⟩
theorem cf_ofX (F : ∃ fd, FunD K x x (defArgs st) (defBody st) (defScope st) [] [] (He.fAd K (x, none)) fd) (g : mg x = some (.ref (He.ga K x))) (S : FnScope N ps (defScope st)) (hb : BindsH x x st ps) (len : ∀ vs H Q E, sp vs H Q E → vs.length = ps.length)
    (hbody : BodyX P w K mg base x st N k (He.fAd K (x, none)) sp) : CfX P w K mg base (k + 1) x ps sp := by
  obtain ⟨fd, F⟩ := F
  obtain ⟨oc, od, dV, kV, doc, pm, an, cdv, ct, osl, e, lk, _⟩ := F.ex
  exact ⟨⟨fd, oc, od, osl, lk, F.ok S len hbody, F.kp, F.bindsN hb⟩, g⟩
theorem CfX.mono {j : Nat} (c : CfX P w K mg base j x ps sp) (h : j ≤ k) : CfX P w K mg base k x ps sp := by
  obtain ⟨fd, oc, od, osl, lk, F, r⟩ := c.ex
  exact ⟨⟨fd, oc, od, osl, lk, F.mono h, r⟩, c.g⟩
/-- who raises nothing may stand among those who may -/
theorem fn_toX {fd : FuncData} (F : FnOk P w K mg base CX0 k f fd ps sp) : FnOk P w K mg base (L2.CX P w) k f fd ps sp :=
  ⟨F.len, fun A outer s H args us vs Q E hr he hb hv h => codeAny_mono (F.run A outer s H args us vs Q E hr he hb hv h) fun r s' hq => by
    cases r with
    | error e => exact hq.elim
    | ok fl => cases fl <;> exact hq⟩
theorem Cf.toX (c : Cf P w K mg base k x ps sp) : CfX P w K mg base k x ps sp := by
  obtain ⟨fd, oc, od, osl, lk, F, r⟩ := c.ex
  exact ⟨⟨fd, oc, od, osl, lk, fn_toX F, r⟩, c.g⟩
end
section
variable {X : Cx} {k j : Nat} {x : Str} {sp : Sp} {p pos : Pos} {e : Expr} {es : List Expr} {t : TA}
theorem pe_caX {W : WX} (c : CaX X.prog X.w X.K X.mg X.base k x sp) (hr : Room j X.A) (tk : Takes X W) (ha : PA X (e :: es) t) (hk : k ≤ j := by decide) (hg : Gl X x := by rfl)
    (hdb : (x == ("__debug__" : Str)) = false := by decide) (he : starEach (e :: es) X.env = (false, eval e X.env) :: starEach es X.env := by rfl) (hpl : (backTo pos (starEach es X.env)).any (·.1) = false := by rfl) :
    PE X (.Call (.Name x p) (e :: es) [] pos) (tCallS sp (WE W) t) := by
  obtain ⟨f, fd, ps, F, hm, kp, b⟩ := c.ex
  exact pe_callS F (hr.mono hk) hg hm kp b (fun σ => passAt tk σ) ha hdb he hpl
/-- of several defs that the slot may hold, such as may raise -/
structure HeldX (P : Program) (w : World) (K : PySem.W.Frag) (mg : Str → Option Value) (base : Heap) (k : Nat) (f : Addr) (sp : Sp) : Prop where
  ex : ∃ (fd : FuncData) (ps : List Str), FnOk P w K mg base (L2.CX P w) k f fd ps sp ∧ PySem.W.keepIn K (.ref f) = true ∧ Binds K fd ps []
def tCallAX (i : Nat) (S : Addr → Option Sp) (E : XK) (t : TA) : TE := fun σ H Q => ∃ f sp, σ[i]? = some (some (.ref f)) ∧ S f = some sp ∧ t σ H fun vs H1 => sp vs H1 Q E
theorem pe_callAX {i : Nat} {S : Addr → Option Sp} {E : XK} (A : ∀ f sp, S f = some sp → HeldX X.prog X.w X.K X.mg X.base k f sp) (hr : Room k X.A) (tk : Takes X (fun cls d _ H => E cls d H)) (hN : X.N[i]? = some x) (hv : Vis X.env.scope x) (ha : PA X (e :: es) t)
    (hdb : (x == ("__debug__" : Str)) = false := by decide) (hcd : (x == ("__classdict__" : Str)) = false := by decide)
    (he : starEach (e :: es) X.env = (false, eval e X.env) :: starEach es X.env := by rfl) (hpl : (backTo pos (starEach es X.env)).any (·.1) = false := by rfl) : PE X (.Call (.Name x p) (e :: es) [] pos) (tCallAX i S E t) := by
  refine ⟨fun pins s σ H Q I h => ?_⟩
  obtain ⟨f, sp, hs, hS, ht⟩ := h
  obtain ⟨fd, ps, F, hk, hb⟩ := (A f sp hS).ex
  refine (pe_callL (i := i) (f := f) (sp := sp) (dvs := []) (E := E) F hr hN hv hk hb .nil (fun pins σ H s e s' I c => passAt tk σ pins H s e s' I c) ha hdb hcd he hpl).run pins s σ H Q I ⟨hs, ?_⟩
  have e0 : (fun (vs : List V) (H1 : Hp) => sp (vs ++ []) H1 Q E) = fun vs H1 => sp vs H1 Q E := by
    funext vs H1
    rw [List.append_nil]
  show t σ H (fun vs H1 => sp (vs ++ []) H1 Q E)
  rw [e0]
  exact ht
end

end M

set_option Elab.async false
set_option linter.all false
set_option maxRecDepth 100000
set_option maxHeartbeats 2000000
namespace M
open PySem PySem.Spec PyProof.Rows L2

section
variable {P : Program} {w : World} {K : PySem.W.Frag} {mg : Str → Option Value} {base : Heap}
def spCoinO (K : PySem.W.Frag) : Sp := fun vs H Q E => ∃ (R : RA) (y : V) (x : Str) (st : Mst), vs = [.ref R.x, y] ∧ RunAt K H R st ∧ MOk st ∧ Dp K H y (Row.coin x).d ∧ st.fallen = st.coins.length ∧ E (.ref (He.ga K "CoinsOut")) none H
theorem cfx_do_coin (T : Txt w K mg) : CfX P w K mg base 1 "do_coin" ["run", "row"] (spCoinO K) := by
  refine cf_ofX (N := ["run", "row"]) (ps := ["run", "row"]) T.f_do_coin T.g_do_coin ⟨rfl, rfl, rfl, by decide +kernel, rfl, by decide +kernel, by decide +kernel⟩ (fun _ _ _ _ _ _ us hl => match us, hl with | [_, _], _ => rfl)
    (fun vs H Q E h => by obtain ⟨R, y, x, st, rfl, r, m, hv, hc, q⟩ := h; rfl) (fun cdv A outer s H vs Q E hr h => ?_)
  have nd : (["run", "row"] : List Str).Nodup := by decide +kernel
  obtain ⟨R, y, x, st, rfl, r, m, hv, hc, q⟩ := h
  refine ⟨_, (pss_cons (ps_if (pt_cmpR op_eq (pe_fld (pv 0) rfl) (pe_callB call_len_seq (by rfl) T.b_len PySem.boot_len (pa_cons (pe_fld (pv 0) rfl) pa_nil)) (nomark _)) (pss_one (ps_raise rfl (takes_of rfl rfl rfl rfl) (pmk_own0 PySem.F.excBase_ValueError T.x_CoinsOut.1 T.g_CoinsOut T.x_CoinsOut.2.1 (raises_own T.x_CoinsOut.2.2.1 T.x_CoinsOut.2.2.2)))) pss_nil)
      (pss_cons (ps_dput (hu_of hr) (pe_fld (pv 0) rfl) (pe_ix ix_tup (pv 1) pe_int (fun _ _ => rfl)) (pe_ix ix_seq (pe_fld (pv 0) rfl) (pe_fld (pv 0) rfl) (fun _ _ => rfl)) rfl)
      (pss_one (ps_fldaug (pv 0) pe_int in_add)))), ?_⟩
  have cl : SqL K H R.n (st.coins.map V.int) ∨ SqT K H R.n (st.coins.map V.int) := r.coins.seq
  refine ⟨_, rfl, R.x, _, R.dx, _, _, rfl, r.ins, T.c_Run, T.n_Run_fallen, rf_fallen, _, rfl, R.x, _, R.dx, _, _, rfl, r.ins, T.c_Run, T.n_Run_coins, rf_coins, _, _, rfl, cl, rfl, _, rfl, ?_⟩
  rw [decide_eq_true (show V.int st.fallen = V.int ((st.coins.map V.int).length : Nat) from by rw [hc, List.length_map])]
  exact iteT q
end

end M

set_option Elab.async false
set_option linter.all false
set_option maxRecDepth 100000
set_option maxHeartbeats 2000000
namespace M
open PySem PySem.Spec PyProof.Rows L2

/-! ### the rows are done, or the coins run out -/
inductive OutM : Nat → Mst → Prop
  | here {st : Mst} {x : Str} (h : st.res = none) (h0 : 0 ≤ st.place) (hf : st.code[st.place.toNat]? = some (.row (.coin x))) (c : st.fallen = st.coins.length) : OutM 0 st
  | step {st : Mst} {f : FR} {n : Nat} (h : st.res = none) (h0 : 0 ≤ st.place) (hf : st.code[st.place.toNat]? = some f) (c : Can f { st with place := st.place + 1 }) (r : OutM n (stp1 f { st with place := st.place + 1 })) : OutM (n + 1) st
section
variable {P : Program} {w : World} {K : PySem.W.Frag} {mg : Str → Option Value} {base : Heap}
def GoodX (P : Program) (w : World) (K : PySem.W.Frag) (mg : Str → Option Value) (base : Heap) (k : Nat) (f : Addr) (sp : Sp) : Prop :=
  ∃ (fd : FuncData) (oc : Value) (od : Option Addr) (osl : Array (Option Value)), K.lookup f = some ⟨oc, od, .func fd, osl⟩ ∧ FnOk P w K mg base (L2.CX P w) k f fd ["run", "row"] sp ∧ PySem.W.keepIn K (.ref f) = true ∧ Binds K fd ["run", "row"] []
def spUX (P : Program) (w : World) (K : PySem.W.Frag) (mg : Str → Option Value) (base : Heap) (k : Nat) (f : Addr) : Sp := fun vs H Q E => ∃ sp, GoodX P w K mg base k f sp ∧ sp vs H Q E
open Classical in
noncomputable def SAX (P : Program) (w : World) (K : PySem.W.Frag) (mg : Str → Option Value) (base : Heap) (k : Nat) (f : Addr) : Option Sp := if ∃ sp, GoodX P w K mg base k f sp then some (spUX P w K mg base k f) else none
theorem sax_held {k : Nat} : ∀ f sp, SAX P w K mg base k f = some sp → HeldX P w K mg base k f sp := by
  intro f sp h
  unfold SAX at h
  split at h
  · rename_i g
    cases (Option.some.inj h)
    obtain ⟨sp0, fd, oc, od, osl, lk, F, kp, b⟩ := g
    refine ⟨fd, ["run", "row"], ⟨fun vs H Q E q => ?_, fun A outer s H args us vs Q E hr he hb hv q => ?_⟩, kp, b⟩
    · obtain ⟨sp1, ⟨fd1, _, _, _, lk1, F1, _⟩, q⟩ := q
      exact F1.len vs H Q E q
    · obtain ⟨sp1, ⟨fd1, _, _, _, lk1, F1, _⟩, q⟩ := q
      have e : fd1 = fd := by
        rw [lk] at lk1
        cases lk1
        rfl
      subst e
      exact F1.run A outer s H args us vs Q E hr he hb hv q
  · cases h
theorem sax_some {k : Nat} {x : Str} {sp : Sp} (c : CfX P w K mg base k x ["run", "row"] sp) : SAX P w K mg base k (He.ga K x) = some (spUX P w K mg base k (He.ga K x)) := if_pos ⟨sp, c.ex⟩
def spFinX (K : PySem.W.Frag) : Sp := fun vs H Q E => ∃ (R : RA) (st : Mst), vs = [.ref R.x] ∧ RunAt K H R st ∧ MOk st ∧ ((∃ n st', Fin n st st' ∧ ∀ H', Bt R H H' → RunAt K H' R st' → Q .non H') ∨ (∃ n, OutM n st ∧ ∀ H', Bt R H H' → E (.ref (He.ga K "CoinsOut")) none H'))
theorem cx_finish (T : Txt w K mg) : CaX P w K mg base 10 "finish" (spFinX K) := by
  refine ca_ofX (N := ["run", "code", "row", "action"]) (ps := ["run"]) T.f_finish T.g_finish ⟨rfl, rfl, rfl, by decide +kernel, rfl, by decide +kernel, by decide +kernel⟩ (fun _ _ _ _ _ _ us hl => match us, hl with | [_], _ => rfl)
    (fun vs H Q E h => by obtain ⟨R, st, rfl, r, m, hq⟩ := h; rfl) (fun cdv A outer s H vs Q E hr h => ?_)
  have nd : (["run", "code", "row", "action"] : List Str).Nodup := by decide +kernel
  obtain ⟨R, st, rfl, r, m, hq⟩ := h
  refine ⟨_, (pss_cons (ps_set (i := 1) nd rfl (.inl rfl) (pe_fld (pv 0) rfl))
      (pss_one (ps_while (passes_of rfl) (pt_cmp (pc_isN (pe_fld (pv 0) rfl))) (pss_cons (ps_set (i := 2) nd rfl (.inl rfl) (pe_ix ix_tup (pv 1) (pe_fld (pv 0) rfl) (fun _ _ => rfl)))
      (pss_cons (ps_fldaug (pv 0) pe_int in_add)
      (pss_cons (ps_set (i := 3) nd rfl (.inl rfl) (pe_ix ix_kdict (pe_gr T.g_ACTIONS) (pe_ix ix_tup (pv 2) pe_int (fun _ _ => rfl)) (fun _ _ => rfl)))
      (pss_one (ps_expr (pe_callAX (i := 3) sax_held hr (takes_of rfl rfl rfl rfl) rfl (.inl rfl) (pa_cons (pv 0) (pa_cons (pv 2) pa_nil))))))))))), ?_⟩
  refine ⟨_, rfl, R.x, _, R.dx, _, _, rfl, r.ins, T.c_Run, T.n_Run_code, rf_code, ?_⟩
  -- one row: the action's promise
  have turn : ∀ (st1 : Mst) (H' : Hp) (f : FR), RunAt K H' R st1 → MOk st1 → Bt R H H' → st1.res = none → 0 ≤ st1.place → st1.code[st1.place.toNat]? = some f → ∃ (H2 : Hp) (rb : Addr) (wd nm : Str) (zr : List V) (p : FR → Prop), True := fun _ _ _ _ _ _ _ _ _ => ⟨H, 0, "", "", [], fun _ => True, trivial⟩
  refine ⟨fun i σ' H' => ∃ (st1 : Mst) (x y : Option V), σ' = [some (.ref R.x), some (.ref R.c), x, y] ∧ RunAt K H' R st1 ∧ MOk st1 ∧ Bt R H H' ∧ ((∃ st', Fin i st1 st' ∧ ∀ H', Bt R H H' → RunAt K H' R st' → Q .non H') ∨ (OutM i st1 ∧ ∀ H', Bt R H H' → E (.ref (He.ga K "CoinsOut")) none H')), ?_, ?_⟩
  · rcases hq with ⟨n, st', fin, q⟩ | ⟨n, out, q⟩
    · exact ⟨n, st, none, none, rfl, r, m, Bt.refl R H, .inl ⟨st', fin, q⟩⟩
    · exact ⟨n, st, none, none, rfl, r, m, Bt.refl R H, .inr ⟨out, q⟩⟩
  rintro i σ' H' ⟨st1, x, y, rfl, r1, m1, bt, hq⟩
  refine ⟨_, rfl, R.x, _, R.dx, _, _, rfl, r1.ins, T.c_Run, T.n_Run_result, rf_result, ?_⟩
  -- what is to be done
  have todo : (∃ v, st1.res = some v ∧ Q .non H') ∨ (st1.res = none ∧ 0 ≤ st1.place ∧ ∃ f, st1.code[st1.place.toNat]? = some f ∧ FOk st1.cells.length f ∧
      ((Can f { st1 with place := st1.place + 1 } ∧ ∃ j, j < i ∧ ((∃ st', Fin j (stp1 f { st1 with place := st1.place + 1 }) st' ∧ ∀ H', Bt R H H' → RunAt K H' R st' → Q .non H') ∨ (OutM j (stp1 f { st1 with place := st1.place + 1 }) ∧ ∀ H', Bt R H H' → E (.ref (He.ga K "CoinsOut")) none H'))) ∨
       ((∃ x, f = .row (.coin x)) ∧ st1.fallen = st1.coins.length ∧ ∀ H', Bt R H H' → E (.ref (He.ga K "CoinsOut")) none H'))) := by
    rcases hq with ⟨st', fin, q⟩ | ⟨out, q⟩
    · cases fin with
      | stop h => exact .inl ⟨_, h, q H' bt r1⟩
      | @step _ _ f j h h0 hf c rest => exact .inr ⟨h, h0, f, hf, m1.fd f (List.mem_of_getElem? hf), .inl ⟨c, j, Nat.lt_succ_self _, .inl ⟨st', rest, q⟩⟩⟩
    · cases out with
      | @here _ x h h0 hf c => exact .inr ⟨h, h0, _, hf, m1.fd _ (List.mem_of_getElem? hf), .inr ⟨⟨x, rfl⟩, c, q⟩⟩
      | @step _ f j h h0 hf c rest => exact .inr ⟨h, h0, f, hf, m1.fd f (List.mem_of_getElem? hf), .inl ⟨c, j, Nat.lt_succ_self _, .inr ⟨rest, q⟩⟩⟩
  clear hq turn
  rcases todo with ⟨v, h, q⟩ | ⟨h, h0, f, hf, hfok, todo⟩
  · rw [h]
    exact ⟨_, rfl, iteF q⟩
  rw [h]
  refine ⟨_, rfl, iteT ?_⟩
  refine ⟨fun σ2 H2 => ∃ j, j < i ∧ ∃ (st1 : Mst) (x y : Option V), σ2 = [some (.ref R.x), some (.ref R.c), x, y] ∧ RunAt K H2 R st1 ∧ MOk st1 ∧ Bt R H H2 ∧ ((∃ st', Fin j st1 st' ∧ ∀ H', Bt R H H' → RunAt K H' R st' → Q .non H') ∨ (OutM j st1 ∧ ∀ H', Bt R H H' → E (.ref (He.ga K "CoinsOut")) none H')), fun σ2 H2 ⟨j, hj, h2⟩ => ⟨j, hj, h2⟩, ?_⟩
  obtain ⟨a, xs, ea, ha, hxs⟩ := dp_tup r1.code
  cases ea
  obtain ⟨y0, hy0, dy0⟩ := dps_at (i := st1.place.toNat) hxs (d := f.d) (by rw [List.getElem?_map, hf]; rfl)
  have ep : ((st1.place.toNat : Nat) : Int) = st1.place := Int.toNat_of_nonneg h0
  have hat : atI xs st1.place = some y0 := by
    have := atI_nat hy0
    rw [ep] at this
    exact this
  refine ⟨_, rfl, _, rfl, R.x, _, R.dx, _, _, rfl, r1.ins, T.c_Run, T.n_Run_place, rf_place, _, _, _, _, rfl, rfl, ha, hat, ?_⟩
  refine ⟨_, rfl, R.x, _, R.dx, _, _, rfl, r1.ins, T.c_Run, T.n_Run_place, rf_place, _, _, rfl, rfl, _, _, r1.ins, (by show 9 < 1000; decide), ?_⟩
  rw [rf_putP]
  have r2 := r1.setX st1.fallen (st1.place + 1) st1.res
  have b2 := But.upd (H := H') (D := R.x) (o := .ins (He.ga K "Run") R.dx (rf R.c R.s R.l R.n st1.fallen R.h R.u (st1.place + 1) (resV st1.res)))
  generalize upd H' R.x (.ins (He.ga K "Run") R.dx (rf R.c R.s R.l R.n st1.fallen R.h R.u (st1.place + 1) (resV st1.res))) = H2 at r2 b2
  have dy2 := dp_but (.ins r1.ins) b2 dy0 f.noL
  obtain ⟨wd, nm, p, hw, hin, hp, cf⟩ := do_ok T hfok
  have dy3 := dy2
  rw [fr_d hw] at dy3
  obtain ⟨rb, zs, rfl, hrb, hzs⟩ := dp_tup dy3
  obtain ⟨z0, zr, rfl, hz0⟩ : ∃ z0 zr, zs = z0 :: zr ∧ Dp K H2 z0 (.str wd) := by
    cases hzs with | cons h1 h2 => exact ⟨_, _, rfl, h1⟩
  cases dp_str hz0
  refine ⟨_, rfl, _, _, _, _, rfl, rfl, hrb, at0, _, _, _, rfl, rfl, act_at T hin, ?_⟩
  refine ⟨_, _, rfl, sax_some cf.toX, _, rfl, _, rfl, ?_⟩
  rcases todo with ⟨c, j, hj, rest⟩ | ⟨⟨x, rfl⟩, hc, q⟩
  · refine ⟨spDo K p, cf.toX.ex, R, .ref rb, f, { st1 with place := st1.place + 1 }, rfl, r2, m1.at _, dy2, hp, hfok, c, fun H3 b3 r3 => ?_⟩
    exact ⟨j, hj, _, _, _, rfl, r3, (m1.at _).step hfok c, (bt.trans (Bt.x b2)).trans b3, rest⟩
  · have enm : nm = "do_coin" := by
      have e : wd = "coin" := by
        have : (Row.coin x).word = wd := by
          have := hw
          exact Option.some.inj this
        rw [← this]
        rfl
      subst e
      simp only [acts, List.mem_cons, List.not_mem_nil, or_false, Prod.mk.injEq] at hin
      rcases hin with ⟨e, _⟩ | ⟨e, _⟩ | ⟨e, _⟩ | ⟨e, _⟩ | ⟨_, e⟩ | ⟨e, _⟩ | ⟨e, _⟩ | ⟨e, _⟩ | ⟨e, _⟩ | ⟨e, _⟩ <;> first | exact (He.Dv.glo.inj e) | exact absurd e (by decide +kernel)
    subst enm
    exact ⟨spCoinO K, ((cfx_do_coin T).mono (by decide)).ex, R, .ref rb, x, { st1 with place := st1.place + 1 }, rfl, r2, m1.at _, dy2, hc, q _ (bt.trans (Bt.x b2))⟩
end

end M

set_option Elab.async false
set_option linter.all false
set_option maxRecDepth 100000
set_option maxHeartbeats 2000000
namespace M
open PySem PySem.Spec PyProof.Rows L2

/-! ### a call, or its coins run out -/
def WayM (code : List FR) (sides hs : List Int) (a : Int) (fs : List Int) (r : Int) (cs : List Int) : Prop := ∃ (n : Nat) (st' : Mst), Fin n (mst0 code sides hs fs a) st' ∧ st'.res = some r ∧ st'.cells = cs
def OutW (code : List FR) (sides hs : List Int) (a : Int) (fs : List Int) : Prop := ∃ n, OutM n (mst0 code sides hs fs a)
/-- what is still due, the last one first, and the ways that come of it -/
inductive Trav (W : List Int → Int → List Int → Prop) (O : List Int → Prop) : Nat → List (List Int) → List (List Int × Int × List Int) → Prop
  | done : Trav W O 0 [] []
  | hit {n : Nat} {todo : List (List Int)} {ws : List (List Int × Int × List Int)} {fs : List Int} {r : Int} {cs : List Int} (h : W fs r cs) (k : Trav W O n todo ws) : Trav W O (n + 1) (todo ++ [fs]) ((fs, r, cs) :: ws)
  | out {n : Nat} {todo : List (List Int)} {ws : List (List Int × Int × List Int)} {fs : List Int} (h : O fs) (l : fs.length < 4) (k : Trav W O n (todo ++ [fs ++ [1], fs ++ [0]]) ws) : Trav W O (n + 1) (todo ++ [fs]) ws
theorem dps_snoc {K : PySem.W.Frag} {H : Hp} : ∀ {xs : List V} {v : V} {ds : List PyData} {d : PyData}, DpAll K H (xs ++ [v]) (ds ++ [d]) → DpAll K H xs ds ∧ Dp K H v d
  | [], v, [], d, .cons h .nil => ⟨.nil, h⟩
  | [], v, e :: ds, d, .cons h r => by
    have := dps_len r
    simp at this
  | x :: xs, v, [], d, .cons h r => by
    have := dps_len r
    simp at this
  | x :: xs, v, e :: ds, d, .cons h r => ⟨.cons h (dps_snoc r).1, (dps_snoc r).2⟩
def tupI (fs : List Int) : PyData := .tuple (fs.map .int)
def wayD (w : List Int × Int × List Int) : PyData := .tuple [tupI w.1, .int w.2.1, tupI w.2.2]
theorem tupI_noL (fs : List Int) : NoL (tupI fs) := .tup fun d h => by
  obtain ⟨i, _, rfl⟩ := List.mem_map.mp h
  exact .int i
theorem wayD_noL (w : List Int × Int × List Int) : NoL (wayD w) := .tup fun d h => by
  simp only [List.mem_cons, List.not_mem_nil, or_false] at h
  rcases h with rfl | rfl | rfl
  · exact tupI_noL _
  · exact .int _
  · exact tupI_noL _
/-- a way as it stands: its state is a tracked tuple -/
def WayAt (K : PySem.W.Frag) (H : Hp) (v : V) (w : List Int × Int × List Int) : Prop := ∃ (t c s : Addr), v = .ref t ∧ SqT K H t [.ref c, .int w.2.1, .ref s] ∧ SqT K H c (w.1.map .int) ∧ H s = some (.tup (w.2.2.map .int))
def WysAt (K : PySem.W.Frag) (H : Hp) : List V → List (List Int × Int × List Int) → Prop
  | [], [] => True
  | v :: vs, w :: ws => WayAt K H v w ∧ WysAt K H vs ws
  | _, _ => False
theorem wys_nil {K : PySem.W.Frag} {H : Hp} : WysAt K H [] [] := trivial
theorem wys_imp {K : PySem.W.Frag} {H H' : Hp} (ht : ∀ a xs, SqT K H a xs → SqT K H' a xs) (hu : ∀ a xs, H a = some (.tup xs) → H' a = some (.tup xs)) : ∀ {vs : List V} {ws : List (List Int × Int × List Int)}, WysAt K H vs ws → WysAt K H' vs ws
  | [], [], _ => trivial
  | _ :: _, _ :: _, ⟨⟨t, c, s, e, h1, h2, h3⟩, r⟩ => ⟨⟨t, c, s, e, ht _ _ h1, ht _ _ h2, hu _ _ h3⟩, wys_imp ht hu r⟩
  | [], _ :: _, h => h.elim
  | _ :: _, [], h => h.elim
theorem wys_same {K : PySem.W.Frag} {H H' : Hp} (s : Same H H') {vs : List V} {ws : List (List Int × Int × List Int)} (h : WysAt K H vs ws) : WysAt K H' vs ws := wys_imp (fun _ _ => same_t s) (fun _ _ => s _ _) h
theorem wys_but {K : PySem.W.Frag} {H H' : Hp} {D : Addr} (hD : Ch H D) (s : But D H H') {vs : List V} {ws : List (List Int × Int × List Int)} (h : WysAt K H vs ws) : WysAt K H' vs ws :=
  wys_imp (fun _ _ => sqT_but hD s) (fun a xs e => s _ _ (fun q => hD.1 _ (q ▸ e)) e) h
theorem wys_len {K : PySem.W.Frag} {H : Hp} : ∀ {vs : List V} {ws : List (List Int × Int × List Int)}, WysAt K H vs ws → vs.length = ws.length
  | [], [], _ => rfl
  | _ :: _, _ :: _, ⟨_, r⟩ => congrArg (· + 1) (wys_len r)
  | [], _ :: _, h => h.elim
  | _ :: _, [], h => h.elim
theorem wys_snoc {K : PySem.W.Frag} {H : Hp} {v : V} {w : List Int × Int × List Int} (hv : WayAt K H v w) : ∀ {vs : List V} {ws : List (List Int × Int × List Int)}, WysAt K H vs ws → WysAt K H (vs ++ [v]) (ws ++ [w])
  | [], [], _ => ⟨hv, trivial⟩
  | _ :: _, _ :: _, ⟨h, r⟩ => ⟨h, wys_snoc hv r⟩
  | [], _ :: _, h => h.elim
  | _ :: _, [], h => h.elim
theorem wys_at {K : PySem.W.Frag} {H : Hp} : ∀ {vs : List V} {ws : List (List Int × Int × List Int)} {i : Nat} {v : V}, WysAt K H vs ws → vs[i]? = some v → ∃ w, ws[i]? = some w ∧ WayAt K H v w
  | v :: _, w :: _, 0, u, ⟨h, _⟩, e => by
    cases (Option.some.inj e)
    exact ⟨w, rfl, h⟩
  | _ :: _, _ :: _, i + 1, u, ⟨_, r⟩, e => wys_at (i := i) r e
  | [], [], _, _, _, e => by simp at e
  | [], _ :: _, _, _, h, _ => h.elim
  | _ :: _, [], _, _, h, _ => h.elim
theorem wys_dp {K : PySem.W.Frag} {H : Hp} : ∀ {vs : List V} {ws : List (List Int × Int × List Int)}, WysAt K H vs ws → DpAll K H vs (ws.map wayD)
  | [], [], _ => .nil
  | _ :: _, _ :: _, ⟨⟨t, c, s, e, h1, h2, h3⟩, r⟩ => by
    subst e
    exact .cons (.tup h1 (.cons (.tup h2 ints_dps) (.cons (.int _) (.cons (.tup (.of h3) ints_dps) .nil)))) (wys_dp r)
  | [], _ :: _, h => h.elim
  | _ :: _, [], h => h.elim
theorem tups_noL (l : List (List Int)) : ∀ d ∈ l.map tupI, NoL d := fun d h => by
  obtain ⟨c, _, rfl⟩ := List.mem_map.mp h
  exact tupI_noL c
theorem ways_noL (l : List (List Int × Int × List Int)) : ∀ d ∈ l.map wayD, NoL d := fun d h => by
  obtain ⟨c, _, rfl⟩ := List.mem_map.mp h
  exact wayD_noL c
section
variable {P : Program} {w : World} {K : PySem.W.Frag} {mg : Str → Option Value} {base : Heap}
def spCalledX (K : PySem.W.Frag) : Sp := fun vs H Q E => ∃ (p b t f : Addr) (v : Vlt) (hs fs : List Int) (d : Str × Int × List Row) (a : Int), vs = [.ref p, .ref b, .ref t, .ref f] ∧ CallIs K H p b t f v hs fs d a ∧
  ((∃ r cs, WayM (codeOf d.2.2) (v.cells.map (·.1)) hs a fs r cs ∧ ∀ (z : Addr) (H' : Hp), Same H H' → H z = none → Dp K H' (.ref z) (.tuple [.int r, tupI cs]) → Q (.ref z) H') ∨ (OutW (codeOf d.2.2) (v.cells.map (·.1)) hs a fs ∧ ∀ H', Same H H' → E (.ref (He.ga K "CoinsOut")) none H'))
/-- all ways from a state -/
def spWays (K : PySem.W.Frag) : Sp := fun vs H Q _ => ∃ (y s b : Addr) (code : List FR) (sides hs : List Int) (a : Int) (n : Nat) (ws : List (List Int × Int × List Int)), vs = [.ref y, .ref s, .ref b] ∧ Dp K H (.ref y) (.tuple [.tuple (code.map FR.d), .int a]) ∧ SqT K H s (sides.map .int) ∧ SqT K H b (hs.map .int) ∧
  (∀ fs : List Int, (∀ f ∈ fs, 0 ≤ f ∧ f ≤ 1) → MOk (mst0 code sides hs fs a)) ∧ n ≤ 1000 ∧ Trav (WayM code sides hs a) (OutW code sides hs a) n [[]] ws ∧
  ∀ (z : Addr) (ys : List V) (H' : Hp), Same H H' → H z = none → H' z = some (.lst ys) → WysAt K H' ys ws → Q (.ref z) H'
theorem ca_ways_from (T : Txt w K mg) : Ca P w K mg base 12 "ways_from" (spWays K) := by
  refine ca_of (N := ["start", "sizes", "state", "ways", "due", "coins", "run"]) (ps := ["start", "sizes", "state"]) T.f_ways_from T.g_ways_from ⟨rfl, rfl, rfl, by decide +kernel, rfl, by decide +kernel, by decide +kernel⟩ (fun _ _ _ _ _ _ us hl => match us, hl with | [_, _, _], _ => rfl)
    (fun vs H Q E h => by obtain ⟨y, s0, b, code, sides, hs, a, n, ws, rfl, hy, hs0, hb, mok, hn, tr, q⟩ := h; rfl) (fun cdv A outer s H vs Q E hr h => ?_)
  have nd : (["start", "sizes", "state", "ways", "due", "coins", "run"] : List Str).Nodup := by decide +kernel
  obtain ⟨y, s0, b, code, sides, hs, a, n, ws, rfl, hy, hs0, hb, mok, hn, tr, q⟩ := h
  refine ⟨_, (pss_cons (ps_set (i := 3) nd rfl (.inl rfl) (pe_lst pa_nil))
      (pss_cons (ps_set (i := 4) nd rfl (.inl rfl) (pe_lst (pa_cons (pe_tup pa_nil) pa_nil)))
      (pss_cons (ps_while PassesOwn.never (pt_truth (pv 4) (by intro _; rfl)) (pss_cons (ps_set (i := 5) nd rfl (.inl rfl) (pe_bm0 PySem.F.plainAttrs_list PySem.F.slot_list_pop PySem.F.type_list_pop mt_pop (pv 4)))
      (pss_cons (ps_set (i := 6) nd rfl (.inl rfl) (pe_ma (ma_Run T) hr (pa_cons (pv 0) (pa_cons (pv 1) (pa_cons (pe_callTy call_list_of (by rfl) T.b_list boot_list (pa_cons (pv 2) pa_nil)) (pa_cons (pv 5) pa_nil))))))
      (pss_one (ps_try_onlyE (ts := fun _ _ _ => tSeq (tDrop (tBM K "list" rAppend (tVar 4) (tCons (tOp (rCatA K) (tVar 5) (tTup (tCons (tC (.int 1)) tNil))) tNil))) (tDrop (tBM K "list" rAppend (tVar 4) (tCons (tOp (rCatA K) (tVar 5) (tTup (tCons (tC (.int 0)) tNil))) tNil)))) (Wout := fun _ _ _ _ => False) (by exact (pss_one (ps_expr (pe_bm PySem.F.plainAttrs_list PySem.F.slot_list_append PySem.F.type_list_append mt_append (pv 3) (pa_cons (pe_tup (pa_cons (pv 5) (pa_cons (pe_fld (pv 6) rfl) (pa_cons (pe_tupleOf (by rfl) T.b_tuple (pe_fld (pv 6) rfl)) pa_nil)))) pa_nil))))) rfl rfl ⟨rfl, by decide, .inl T.g_CoinsOut⟩ takes0 (fun W pn xe tk _ => by exact (pss_one (ps_expr (pe_caX (cx_finish T) hr tk (pa_cons (pv 6) pa_nil))))) (fun _ _ _ _ _ _ _ => by exact (pss_cons (ps_expr (pe_bm PySem.F.plainAttrs_list PySem.F.slot_list_append PySem.F.type_list_append mt_append (pv 4) (pa_cons (pe_op op_catA (pv 5) (pe_tup (pa_cons pe_int pa_nil))) pa_nil)))
      (pss_one (ps_expr (pe_bm PySem.F.plainAttrs_list PySem.F.slot_list_append PySem.F.type_list_append mt_append (pv 4) (pa_cons (pe_op op_catA (pv 5) (pe_tup (pa_cons pe_int pa_nil))) pa_nil)))))))))))
      (pss_one (ps_ret (pv 3)))))), ?_⟩
  refine ⟨(by show 0 ≤ sizeLine; exact Nat.zero_le _), fun wl nwl => ⟨(by show 0 ≤ sizeLine; exact Nat.zero_le _), fun t0 nt0 => ⟨(by show 1 ≤ sizeLine; decide), fun du ndu => ?_⟩⟩⟩
  have a1 : Same H (upd H wl (.lst [])) := same_new nwl
  have e1 : upd H wl (.lst []) wl = some (.lst []) := upd_same
  generalize upd H wl (.lst []) = A1 at a1 e1 nt0 ndu ⊢
  have a2 : Same A1 (upd A1 t0 (.tup [])) := same_new nt0
  have e2 : upd A1 t0 (.tup []) t0 = some (.tup []) := upd_same
  generalize upd A1 t0 (.tup []) = A2 at a2 e2 ndu ⊢
  have a3 : Same A2 (upd A2 du (.lst [.ref t0])) := same_new ndu
  have e3 : upd A2 du (.lst [.ref t0]) du = some (.lst [.ref t0]) := upd_same
  have hwd : wl ≠ du := ne_of_none (a2 _ _ e1) ndu
  have ndu0 : H du = none := none_of (a1.trans a2) ndu
  generalize upd A2 du (.lst [.ref t0]) = A3 at a3 e3 ⊢
  refine ⟨fun m σ' H' => ∃ (x5 x6 : Option V) (ys dys : List V) (dn rest : List (List Int × Int × List Int)) (todo : List (List Int)), σ' = [some (.ref y), some (.ref s0), some (.ref b), some (.ref wl), some (.ref du), x5, x6] ∧ Same H H' ∧ H' wl = some (.lst ys) ∧ WysAt K H' ys dn ∧ H' du = some (.lst dys) ∧ DpAll K H' dys (todo.map tupI) ∧ Trav (WayM code sides hs a) (OutW code sides hs a) m todo rest ∧ ws = dn ++ rest ∧ dn.length + m ≤ n ∧ todo.length + m ≤ n + 1 ∧ ∀ fs ∈ todo, fs.length ≤ 4 ∧ ∀ f ∈ fs, 0 ≤ f ∧ f ≤ 1, ⟨n, none, none, [], [.ref t0], [], ws, [[]], rfl, (a1.trans a2).trans a3, (a2.trans a3) _ _ e1, wys_nil, e3, .cons (.tup (.of (a3 _ _ e2)) .nil) .nil, tr, rfl, by show 0 + n ≤ n; omega, by show 1 + n ≤ n + 1; omega, fun fs hf => by rw [List.mem_singleton.mp hf]; exact ⟨Nat.zero_le _, fun f h => nomatch h⟩⟩, ?_⟩
  rintro m σ' H' ⟨x5, x6, ys, dys, dn, rest, todo0, rfl, sH, hwl, dyw, hdu, dyd, trv, ews, hcount, htodo, hbits⟩
  refine ⟨_, rfl, _, .inl ⟨dys, .of hdu, rfl⟩, ?_⟩
  -- nothing is due, or the last one
  have todo : (todo0 = [] ∧ rest = [] ∧ m = 0) ∨ ∃ (m' : Nat) (todo : List (List Int)) (fs : List Int), todo0 = todo ++ [fs] ∧ m = m' + 1 ∧ ((∃ r cs ws', WayM code sides hs a fs r cs ∧ Trav (WayM code sides hs a) (OutW code sides hs a) m' todo ws' ∧ rest = (fs, r, cs) :: ws') ∨ (OutW code sides hs a fs ∧ fs.length < 4 ∧ Trav (WayM code sides hs a) (OutW code sides hs a) m' (todo ++ [fs ++ [1], fs ++ [0]]) rest)) := by
    cases trv with
    | done => exact .inl ⟨rfl, rfl, rfl⟩
    | hit h k => exact .inr ⟨_, _, _, rfl, rfl, .inl ⟨_, _, _, h, k, rfl⟩⟩
    | out h l k => exact .inr ⟨_, _, _, rfl, rfl, .inr ⟨h, l, k⟩⟩
  clear trv
  rcases todo with ⟨rfl, rfl, rfl⟩ | ⟨m', todo, fs, rfl, rfl, todoW⟩
  · cases dyd
    refine iteF ⟨_, rfl, ?_⟩
    rw [List.append_nil] at ews
    exact q wl ys H' sH nwl hwl (by rw [ews]; exact dyw)
  obtain ⟨dy0, v, rfl⟩ : ∃ dy0 v, dys = dy0 ++ [v] := by
    have l := dps_len dyd
    rw [List.length_map, List.length_append] at l
    have : dys ≠ [] := fun e => by rw [e] at l; simp at l
    exact ⟨_, _, (List.dropLast_concat_getLast this).symm⟩
  have l0 : dy0.length = todo.length := by
    have l := dps_len dyd
    simp only [List.length_map, List.length_append, List.length_cons, List.length_nil] at l
    omega
  obtain ⟨dyd0, dv⟩ : DpAll K H' dy0 (todo.map tupI) ∧ Dp K H' v (tupI fs) := by
    rw [List.map_append] at dyd
    exact dps_snoc dyd
  have hlen := (hbits fs (by simp)).1
  have hbit := (hbits fs (by simp)).2
  have hb0 : ∀ gs ∈ todo, gs.length ≤ 4 ∧ ∀ f ∈ gs, 0 ≤ f ∧ f ≤ 1 := fun gs hg => hbits gs (List.mem_append_left _ hg)
  rw [show (!(dy0 ++ [v]).isEmpty) = true from by simp]
  refine iteT ⟨fun σ2 H2 => ∃ j, j < m' + 1 ∧ ∃ (x5 x6 : Option V) (ys dys : List V) (dn rest : List (List Int × Int × List Int)) (todo : List (List Int)), σ2 = [some (.ref y), some (.ref s0), some (.ref b), some (.ref wl), some (.ref du), x5, x6] ∧ Same H H2 ∧ H2 wl = some (.lst ys) ∧ WysAt K H2 ys dn ∧ H2 du = some (.lst dys) ∧ DpAll K H2 dys (todo.map tupI) ∧ Trav (WayM code sides hs a) (OutW code sides hs a) j todo rest ∧ ws = dn ++ rest ∧ dn.length + j ≤ n ∧ todo.length + j ≤ n + 1 ∧ ∀ fs ∈ todo, fs.length ≤ 4 ∧ ∀ f ∈ fs, 0 ≤ f ∧ f ≤ 1, fun σ2 H2 ⟨j, hj, h2⟩ => ⟨j, hj, h2⟩, ?_⟩
  refine ⟨_, rfl, .inl ⟨rfl, _, .of hdu⟩, du, _, v, rfl, rfl, hdu, by simp, ?_⟩
  rw [List.dropLast_concat]
  have bd : But du H' (upd H' du (.lst dy0)) := But.upd
  have hdu1 : upd H' du (.lst dy0) du = some (.lst dy0) := upd_same
  generalize upd H' du (.lst dy0) = G0 at bd hdu1 ⊢
  have chd : Ch H' du := .lst hdu
  have sG : Same H G0 := fun b o e => bd _ _ (ne_of_none e ndu0) (sH _ _ e)
  have hwl1 := bd _ _ hwd hwl
  have dyw1 := wys_but chd bd dyw
  have dyd1 := dps_but chd bd dyd0 (tups_noL _)
  have dv1 := dp_but chd bd dv (tupI_noL _)
  obtain ⟨ca, cxs, rfl, hca, hcx⟩ := dp_tup dv1
  have := dps_ints hcx
  subst this
  -- the run
  refine ⟨_, rfl, _, rfl, _, rfl, b, _, rfl, .inr (same_t sG hb), fun l nl => ?_⟩
  have s1 : Same G0 (upd G0 l (.lst (hs.map V.int))) := same_new nl
  have hl1 : upd G0 l (.lst (hs.map V.int)) l = some (.lst (hs.map V.int)) := upd_same
  generalize upd G0 l (.lst (hs.map V.int)) = G1 at s1 hl1 ⊢
  refine ⟨_, rfl, fun x dxx hx hdx ne => ?_⟩
  have s2 : Same G1 (upd (upd G1 dxx (.own x)) x (.ins (He.ga K "Run") dxx [])) := (same_new hdx).trans (same_new (by rw [upd_ne (Ne.symm ne)]; exact hx))
  have hx2 : upd (upd G1 dxx (.own x)) x (.ins (He.ga K "Run") dxx []) x = some (.ins (He.ga K "Run") dxx []) := upd_same
  have s12 := s1.trans s2
  have sG2 := sG.trans s12
  refine ⟨x, dxx, y, s0, l, ca, true, code, sides, hs, fs, a, rfl, hx2, dp_same sG2 hy, same_t sG2 hs0, s2 _ _ hl1, .inr ⟨rfl, same_t s12 hca⟩, fun R H8 ex el ect en hh hu bt r => ⟨rfl, ?_⟩⟩
  have nx0 : G0 x = none := none_of s1 hx
  have rn : RunNew K G0 H8 R (mst0 code sides hs fs a) := ⟨fun b' o e => bt _ _ (ne_of_none e nx0) (s12 _ _ e), r, by rw [ex]; exact nx0, by rw [el]; exact nl, none_of s12 hh, none_of s12 hu⟩
  subst ex
  refine ⟨_, rfl, R, _, rfl, r, mok fs hbit, ?_⟩
  rcases todoW with ⟨r1, cs, ws', ⟨nn, st', fin, hres, rfl⟩, trv, rfl⟩ | ⟨⟨nn, out⟩, l4, trv⟩
  · refine .inl ⟨nn, st', fin, fun H9 bt9 r9 => ?_⟩
    have s9 := rn.fin bt9
    refine ⟨_, rfl, .inl ⟨rfl, _, .of (s9 _ _ hwl1)⟩, _, rfl, _, rfl, R.x, _, R.dx, _, _, rfl, r9.ins, T.c_Run, T.n_Run_result, rf_result, _, rfl, R.x, _, R.dx, _, _, rfl, r9.ins, T.c_Run, T.n_Run_cells, rf_cells, .inl ⟨R.l, _, rfl, .of r9.cells, fun u nu => ⟨(by show 3 ≤ sizeLine; decide), fun t nt => ?_⟩⟩⟩
    rw [hres, show resV (some r1) = V.int r1 from rfl]
    have t1 : Same H9 (upd H9 u (.tup (st'.cells.map V.int))) := same_new nu
    have f1 : upd H9 u (.tup (st'.cells.map V.int)) u = some (.tup (st'.cells.map V.int)) := upd_same
    generalize upd H9 u (.tup (st'.cells.map V.int)) = B1 at t1 f1 nt ⊢
    have t2 : Same B1 (upd B1 t (.tup [.ref ca, .int r1, .ref u])) := same_new nt
    have f2 : upd B1 t (.tup [.ref ca, .int r1, .ref u]) t = some (.tup [.ref ca, .int r1, .ref u]) := upd_same
    have t02 := (s9.trans t1).trans t2
    show _
    have dw : WayAt K (upd B1 t (.tup [.ref ca, .int r1, .ref u])) (.ref t) (fs, r1, st'.cells) := ⟨t, ca, u, rfl, .of f2, same_t t02 hca, t2 _ _ f1⟩
    have hwl2 := t02 _ _ hwl1
    have hdu2 := t02 _ _ hdu1
    have dyw2 := wys_same t02 dyw1
    have dyd2 := dps_same t02 dyd1
    have sB := sG.trans t02
    generalize upd B1 t (.tup [.ref ca, .int r1, .ref u]) = B2 at dw hwl2 hdu2 dyw2 dyd2 sB ⊢
    have bb : But wl B2 (upd B2 wl (.lst (ys ++ [.ref t]))) := But.upd
    have lys : ys.length = dn.length := by exact wys_len dyw2
    refine ⟨wl, ys, _, rfl, rfl, hwl2, by rw [sizeLine_eq]; omega, m', Nat.lt_succ_self _, _, _, ys ++ [.ref t], dy0, dn ++ [(fs, r1, st'.cells)], ws', todo, rfl, fun b o e => bb _ _ (ne_of_none e nwl) (sB _ _ e), upd_same, ?_, bb _ _ (Ne.symm hwd) hdu2, dps_but (.lst hwl2) bb dyd2 (tups_noL _), trv, by rw [ews]; simp, by simp; omega, by simp at htodo; omega, hb0⟩
    exact wys_but (.lst hwl2) bb (wys_snoc dw dyw2)
  · refine .inr ⟨nn, out, fun H9 bt9 => ⟨true, T.xm_CoinsOut, fun _ ea hea => ?_, fun z => nomatch z⟩⟩
    have s9 := rn.fin bt9
    have sH9 := sG.trans s9
    have hdu9 := s9 _ _ hdu1
    have hwl9 := s9 _ _ hwl1
    have dyd9 := dps_same s9 dyd1
    have dyw9 := wys_same s9 dyw1
    have hca9 := same_t s9 hca
    -- one more fall
    have more : ∀ (i : Int) (J : Hp) (t : Addr) (Z : VK), Same H9 J → SqT K J t [.int i] → (∀ (v : V) (J' : Hp), Same J J' → Dp K J' v (tupI (fs ++ [i])) → Z v J') → rCatA K (.ref ca) (.ref t) J Z := fun i J t Z sj ht k => by
      refine ⟨ca, t, _, _, rfl, rfl, same_t sj hca9, ht, by rw [List.length_map, sizeLine_eq]; simp; omega, fun e0 => ?_, fun _ e => (by cases e), fun _ _ p np => ?_⟩
      · have ef : fs = [] := List.map_eq_nil_iff.mp e0
        rw [ef] at k
        exact k _ _ (Same.refl _) (.tup ht (.cons (.int _) .nil))
      · refine k _ _ (same_new np) (.tup (.of upd_same) ?_)
        rw [List.map_append]
        exact dps_app ints_dps (.cons (.int _) .nil)
    refine ⟨_, rfl, .inl ⟨rfl, _, .of hdu9⟩, _, rfl, (by show 1 ≤ sizeLine; decide), fun t1 nt1 => ?_⟩
    have u1 : Same H9 (upd H9 t1 (.tup [.int 1])) := same_new nt1
    refine more 1 _ t1 _ u1 (.of upd_same) fun v1 J1 w1 d1 => ?_
    have u2 := u1.trans w1
    have hdu10 := u2 _ _ hdu9
    refine ⟨du, dy0, v1, rfl, rfl, hdu10, by rw [l0, sizeLine_eq]; simp at htodo; omega, ?_⟩
    have b1 : But du J1 (upd J1 du (.lst (dy0 ++ [v1]))) := But.upd
    have e11 : upd J1 du (.lst (dy0 ++ [v1])) du = some (.lst (dy0 ++ [v1])) := upd_same
    have d11 := dp_but (.lst hdu10) b1 d1 (tupI_noL _)
    have dyd11 := dps_but (.lst hdu10) b1 (dps_same u2 dyd9) (tups_noL _)
    have dyw11 := wys_but (.lst hdu10) b1 (wys_same u2 dyw9)
    have hwl11 := b1 _ _ hwd (u2 _ _ hwl9)
    have hca11 : SqT K (upd J1 du (.lst (dy0 ++ [v1]))) ca (fs.map V.int) := sqT_but (.lst hdu10) b1 (same_t u2 hca9)
    have sH11 : Same H (upd J1 du (.lst (dy0 ++ [v1]))) := fun b o e => b1 _ _ (ne_of_none e ndu0) (u2 _ _ (sH9 _ _ e))
    generalize upd J1 du (.lst (dy0 ++ [v1])) = J2 at b1 e11 d11 dyd11 dyw11 hwl11 hca11 sH11 ⊢
    have more2 : ∀ (i : Int) (J : Hp) (t : Addr) (Z : VK), Same J2 J → SqT K J t [.int i] → (∀ (v : V) (J' : Hp), Same J J' → Dp K J' v (tupI (fs ++ [i])) → Z v J') → rCatA K (.ref ca) (.ref t) J Z := fun i J t Z sj ht k => by
      refine ⟨ca, t, _, _, rfl, rfl, same_t sj hca11, ht, by rw [List.length_map, sizeLine_eq]; simp; omega, fun e0 => ?_, fun _ e => (by cases e), fun _ _ p np => ?_⟩
      · have ef : fs = [] := List.map_eq_nil_iff.mp e0
        rw [ef] at k
        exact k _ _ (Same.refl _) (.tup ht (.cons (.int _) .nil))
      · refine k _ _ (same_new np) (.tup (.of upd_same) ?_)
        rw [List.map_append]
        exact dps_app ints_dps (.cons (.int _) .nil)
    refine ⟨_, rfl, .inl ⟨rfl, _, .of e11⟩, _, rfl, (by show 1 ≤ sizeLine; decide), fun t2 nt2 => ?_⟩
    have u3 : Same J2 (upd J2 t2 (.tup [.int 0])) := same_new nt2
    refine more2 0 _ t2 _ u3 (.of upd_same) fun v2 J3 w3 d3 => ?_
    have u4 := u3.trans w3
    have hdu12 := u4 _ _ e11
    have b2 : But du J3 (upd J3 du (.lst (dy0 ++ [v1] ++ [v2]))) := But.upd
    refine ⟨du, dy0 ++ [v1], v2, rfl, rfl, hdu12, by rw [List.length_append, l0, sizeLine_eq]; simp at htodo ⊢; omega, m', Nat.lt_succ_self _, _, _, ys, dy0 ++ [v1] ++ [v2], dn, rest, todo ++ [fs ++ [1], fs ++ [0]], rfl, fun b o e => b2 _ _ (ne_of_none e ndu0) (u4 _ _ (sH11 _ _ e)), b2 _ _ hwd (u4 _ _ hwl11), wys_but (.lst hdu12) b2 (wys_same u4 dyw11), upd_same, ?_, trv, ews, by omega, by simp at htodo ⊢; omega, fun gs hg => ?_⟩
    · rw [show todo ++ [fs ++ [1], fs ++ [0]] = todo ++ [fs ++ [1]] ++ [fs ++ [0]] from by simp, List.map_append, List.map_append]
      exact dps_app (dps_app (dps_but (.lst hdu12) b2 (dps_same u4 dyd11) (tups_noL _)) (.cons (dp_but (.lst hdu12) b2 (dp_same u4 d11) (tupI_noL _)) .nil)) (.cons (dp_but (.lst hdu12) b2 d3 (tupI_noL _)) .nil)
    · rcases List.mem_append.mp hg with h | h
      · exact hb0 gs h
      · have hx : ∀ i : Int, (i = 0 ∨ i = 1) → (fs ++ [i]).length ≤ 4 ∧ ∀ f ∈ fs ++ [i], 0 ≤ f ∧ f ≤ 1 := fun i hi => ⟨by simp; omega, fun f hf => by
          rcases List.mem_append.mp hf with h | h
          · exact hbit f h
          · rw [List.mem_singleton.mp h]
            omega⟩
        simp only [List.mem_cons, List.not_mem_nil, or_false] at h
        rcases h with rfl | rfl
        · exact hx 1 (.inr rfl)
        · exact hx 0 (.inl rfl)
end

end M

set_option Elab.async false
set_option linter.all false
set_option maxRecDepth 100000
set_option maxHeartbeats 2000000
namespace M
open PySem PySem.Spec PyProof.Rows L2

/-! ### what "if" and "times" mean -/
def plainR : Row → Prop
  | .read .. => True
  | .set .. => True
  | .swap .. => True
  | .keep .. => True
  | _ => False
mutual
/-- a row done: the state behind it, the answer if there is one, the steps told -/
inductive RowS : Row → Mst → Mst → Option Int → List PyData → Prop
  | plain {r : Row} {st : Mst} (h : plainR r) : RowS r st (stp1 (.row r) st) none (tell (.row r) (stp1 (.row r) st))
  | coin {x : Str} {st : Mst} (h : 0 ≤ st.fallen ∧ st.fallen < st.coins.length) : RowS (.coin x) st (stp1 (.row (.coin x)) st) none []
  | ans {e : Exp} {st : Mst} : RowS (.ans e) st st (some (e.ev st.regs)) []
  | yes {e : Exp} {a b : List Row} {st s : Mst} {o : Option Int} {t : List PyData} (h : e.ev st.regs ≠ 0) (r : RowsS a st s o t) : RowS (.iff e a b) st s o t
  | no {e : Exp} {a b : List Row} {st s : Mst} {o : Option Int} {t : List PyData} (h : e.ev st.regs = 0) (r : RowsS b st s o t) : RowS (.iff e a b) st s o t
  | times {e : Exp} {a : List Row} {n : Nat} {st s : Mst} {o : Option Int} {t : List PyData} (hn : e.ev st.regs = ((n : Nat) : Int)) (r : TimesS n a st s o t) : RowS (.times e a) st s o t
inductive RowsS : List Row → Mst → Mst → Option Int → List PyData → Prop
  | nil {st : Mst} : RowsS [] st st none []
  | stop {r : Row} {rs : List Row} {st s : Mst} {v : Int} {t : List PyData} (h : RowS r st s (some v) t) : RowsS (r :: rs) st s (some v) t
  | cons {r : Row} {rs : List Row} {st s s' : Mst} {o : Option Int} {t u : List PyData} (h : RowS r st s none t) (k : RowsS rs s s' o u) : RowsS (r :: rs) st s' o (t ++ u)
inductive TimesS : Nat → List Row → Mst → Mst → Option Int → List PyData → Prop
  | zero {a : List Row} {st : Mst} : TimesS 0 a st st none []
  | stop {n : Nat} {a : List Row} {st s : Mst} {v : Int} {t : List PyData} (h : RowsS a st s (some v) t) : TimesS (n + 1) a st s (some v) t
  | more {n : Nat} {a : List Row} {st s s' : Mst} {o : Option Int} {t u : List PyData} (h : RowsS a st s none t) (k : TimesS n a s s' o u) : TimesS (n + 1) a st s' o (t ++ u)
end
/-- the machine that stands at p, with these rounds -/
def emb (C : List FR) (p : Int) (ro : List Int) (s : Mst) : Mst := { s with code := C, place := p, rounds := ro, res := none }
/-- what goes back from row to row -/
def Fut (P : Nat → Mst → List PyData → Prop) : Prop := ∀ (st : Mst) (f : FR) (n : Nat) (tr : List PyData), st.res = none → 0 ≤ st.place → st.code[st.place.toNat]? = some f → Can f { st with place := st.place + 1 } → P n (stp1 f { st with place := st.place + 1 }) tr → P (n + 1) st (tell f (stp1 f { st with place := st.place + 1 }) ++ tr)
theorem fut_fin (Z : Mst) : Fut fun n M u => FinT n M Z u := fun _ _ _ _ h h0 hf c r => .step h h0 hf c r
/-- from M the machine comes to M' and tells t -/
def ReachT (M M' : Mst) (t : List PyData) : Prop := ∀ P, Fut P → ∀ (m : Nat) (u : List PyData), P m M' u → ∃ n, P n M (t ++ u)
theorem ReachT.refl (M : Mst) : ReachT M M [] := fun _ _ m u h => ⟨m, h⟩
theorem ReachT.trans {M M' M'' : Mst} {t u : List PyData} (h : ReachT M M' t) (k : ReachT M' M'' u) : ReachT M M'' (t ++ u) := fun P F m w f => by
  obtain ⟨n, f⟩ := k P F m w f
  obtain ⟨n', f⟩ := h P F n _ f
  rw [← List.append_assoc] at f
  exact ⟨n', f⟩
/-- one step -/
theorem ReachT.one {M : Mst} {f : FR} (h : M.res = none) (h0 : 0 ≤ M.place) (hf : M.code[M.place.toNat]? = some f) (c : Can f { M with place := M.place + 1 }) : ReachT M (stp1 f { M with place := M.place + 1 }) (tell f (stp1 f { M with place := M.place + 1 })) := fun P F m u k => ⟨m + 1, F _ _ _ _ h h0 hf c k⟩
/-- the answer stands: the machine stops there -/
def StopT (M : Mst) (v : Int) (cells : List Int) (t : List PyData) : Prop := ∃ (n : Nat) (Z : Mst), FinT n M Z t ∧ Z.res = some v ∧ Z.cells = cells
theorem StopT.from {M M' : Mst} {v : Int} {cells : List Int} {t u : List PyData} (r : ReachT M M' t) (s : StopT M' v cells u) : StopT M v cells (t ++ u) := by
  obtain ⟨n, Z, f, h1, h2⟩ := s
  obtain ⟨n', f⟩ := r _ (fut_fin Z) n u f
  exact ⟨n', Z, f, h1, h2⟩
/-- C holds what c' holds, from c's end on -/
def Agr (C c c' : List FR) : Prop := ∀ i, c.length ≤ i → i < c'.length → C[i]? = c'[i]?
/-- what the rows from c to c' do -/
def Does (C c c' : List FR) (ro : List Int) (st s : Mst) (t : List PyData) : Option Int → Prop
  | none => ReachT (emb C c.length ro st) (emb C c'.length ro s) t
  | some v => StopT (emb C c.length ro st) v s.cells t
section
variable {C : List FR} {ro : List Int} {st s : Mst}
theorem emb_step {p : Nat} {f : FR} (hp : C[p]? = some f) (c : Can f (emb C ((p : Int) + 1) ro st)) : ReachT (emb C p ro st) (stp1 f (emb C ((p : Int) + 1) ro st)) (tell f (stp1 f (emb C ((p : Int) + 1) ro st))) :=
  ReachT.one (M := emb C p ro st) (f := f) rfl (Int.natCast_nonneg p) (by show C[((p : Nat) : Int).toNat]? = _; rw [Int.toNat_natCast]; exact hp) c
theorem emb_plain {r : Row} (h : plainR r) (p : Int) : stp1 (.row r) (emb C p ro st) = emb C p ro (stp1 (.row r) st) := by
  cases r with
  | swap r k e f =>
    show (if st.cells.getD k.toNat 0 = e.ev st.regs then ({ emb C p ro st with cells := st.cells.set k.toNat (f.ev st.regs % st.sides.getD k.toNat 0), regs := rset st.regs r 1 } : Mst) else { emb C p ro st with regs := rset st.regs r 0 }) = emb C p ro (if st.cells.getD k.toNat 0 = e.ev st.regs then { st with cells := st.cells.set k.toNat (f.ev st.regs % st.sides.getD k.toNat 0), regs := rset st.regs r 1 } else { st with regs := rset st.regs r 0 })
    split <;> rfl
  | read r k => rfl
  | set k e => rfl
  | keep r e => rfl
  | coin r => exact h.elim
  | iff e a b => exact h.elim
  | times e a => exact h.elim
  | ans e => exact h.elim
theorem tell_emb {r : Row} (p : Int) : tell (.row r) (emb C p ro s) = tell (.row r) s := by cases r <;> rfl
/-- on p -/
theorem emb_on {p q : Nat} (hp : C[p]? = some (.on q)) : ReachT (emb C p ro st) (emb C q ro st) [] := emb_step hp trivial
theorem emb_no {p q : Nat} {e : Exp} (hp : C[p]? = some (.unless e q)) (h : e.ev st.regs = 0) : ReachT (emb C p ro st) (emb C q ro st) [] := by
  have z := emb_step (ro := ro) (st := st) hp trivial
  have e1 : stp1 (.unless e q) (emb C ((p : Int) + 1) ro st) = emb C q ro st := if_pos h
  rw [e1] at z
  exact z
theorem emb_yes {p q : Nat} {e : Exp} (hp : C[p]? = some (.unless e q)) (h : e.ev st.regs ≠ 0) : ReachT (emb C p ro st) (emb C ((p + 1 : Nat) : Int) ro st) [] := by
  have z := emb_step (ro := ro) (st := st) hp trivial
  have e1 : stp1 (.unless e q) (emb C ((p : Int) + 1) ro st) = emb C ((p : Int) + 1) ro st := if_neg h
  rw [e1] at z
  exact z
theorem emb_rounds {p : Nat} {e : Exp} {n : Nat} (hp : C[p]? = some (.rounds e)) (h : e.ev st.regs = ((n : Nat) : Int)) (hr : ro.length < 9) : ReachT (emb C p ro st) (emb C ((p + 1 : Nat) : Int) (ro ++ [((n : Nat) : Int)]) st) [] := by
  have z := emb_step (ro := ro) (st := st) hp hr
  have e1 : stp1 (.rounds e) (emb C ((p : Int) + 1) ro st) = emb C ((p : Int) + 1) (ro ++ [((n : Nat) : Int)]) st := by
    show ({ emb C ((p : Int) + 1) ro st with rounds := ro ++ [e.ev st.regs] } : Mst) = _
    rw [h]
    rfl
  rw [e1] at z
  exact z
theorem emb_round {p q : Nat} (hp : C[p]? = some (.round q)) (n : Nat) : ReachT (emb C p (ro ++ [((n : Nat) : Int)]) st) (if n = 0 then emb C q ro st else emb C ((p + 1 : Nat) : Int) (ro ++ [((n : Nat) : Int) - 1]) st) [] := by
  have z := emb_step (ro := ro ++ [((n : Nat) : Int)]) (st := st) hp (by show ro ++ [((n : Nat) : Int)] ≠ []; simp)
  have el : (ro ++ [((n : Nat) : Int)]).getLast?.getD 0 = n := by simp
  have ed : (ro ++ [((n : Nat) : Int)]).dropLast = ro := List.dropLast_concat
  have e1 : stp1 (.round q) (emb C ((p : Int) + 1) (ro ++ [((n : Nat) : Int)]) st) = if n = 0 then emb C q ro st else emb C ((p + 1 : Nat) : Int) (ro ++ [((n : Nat) : Int) - 1]) st := by
    show (if (ro ++ [((n : Nat) : Int)]).getLast?.getD 0 = 0 then ({ emb C ((p : Int) + 1) (ro ++ [((n : Nat) : Int)]) st with rounds := (ro ++ [((n : Nat) : Int)]).dropLast, place := q } : Mst) else { emb C ((p : Int) + 1) (ro ++ [((n : Nat) : Int)]) st with rounds := (ro ++ [((n : Nat) : Int)]).dropLast ++ [(ro ++ [((n : Nat) : Int)]).getLast?.getD 0 - 1] }) = _
    rw [el, ed]
    by_cases c : n = 0
    · rw [if_pos c, if_pos (by omega)]
      rfl
    · rw [if_neg c, if_neg (by omega)]
      rfl
  rw [e1] at z
  exact z
end

end M

set_option Elab.async false
set_option linter.all false
set_option maxRecDepth 100000
set_option maxHeartbeats 2000000
namespace M
open PySem PySem.Spec PyProof.Rows L2

/-! ### the machine does what "if" and "times" mean -/
theorem lay_iff {e : Exp} {a b : List Row} {c c1 c2 : List FR} (h1 : c1 = putRows a (c ++ [FR.hole])) (h2 : c2 = putRows b ((c1 ++ [FR.hole]).set c.length (FR.unless e (c1.length + 1)))) :
    putRow (.iff e a b) c = c2.set c1.length (FR.on c2.length) ∧ c.length + 1 ≤ c1.length ∧ c1.length + 1 ≤ c2.length ∧ (c2.set c1.length (FR.on c2.length))[c.length]? = some (.unless e (c1.length + 1)) ∧ (∀ i, c.length + 1 ≤ i → i < c1.length → (c2.set c1.length (FR.on c2.length))[i]? = c1[i]?) ∧
    (c2.set c1.length (FR.on c2.length))[c1.length]? = some (.on c2.length) ∧ ∀ i, c1.length + 1 ≤ i → (c2.set c1.length (FR.on c2.length))[i]? = c2[i]? := by
  have g1 := putRows_goes a (c ++ [FR.hole])
  have g2 := putRows_goes b ((c1 ++ [FR.hole]).set c.length (FR.unless e (c1.length + 1)))
  rw [← h1] at g1
  rw [← h2] at g2
  have l1 := g1.le
  have l2 := g2.le
  simp only [List.length_append, List.length_set, List.length_cons, List.length_nil] at l1 l2
  refine ⟨by rw [h2, h1]; rfl, by omega, by omega, ?_, fun i hi hj => ?_, List.getElem?_set_self (by omega), fun i hi => List.getElem?_set_ne (by omega)⟩
  · rw [List.getElem?_set_ne (by omega), g2.old _ (by simp; omega), List.getElem?_set_self (by simp; omega)]
  · rw [List.getElem?_set_ne (by omega), g2.old _ (by simp; omega), List.getElem?_set_ne (by omega), List.getElem?_append_left hj]
theorem lay_times {e : Exp} {a : List Row} {c c1 : List FR} (h1 : c1 = putRows a (c ++ [FR.rounds e, FR.hole])) :
    putRow (.times e a) c = (c1 ++ [FR.on (c.length + 1)]).set (c.length + 1) (FR.round (c1.length + 1)) ∧ c.length + 2 ≤ c1.length ∧ ((c1 ++ [FR.on (c.length + 1)]).set (c.length + 1) (FR.round (c1.length + 1)))[c.length]? = some (.rounds e) ∧ ((c1 ++ [FR.on (c.length + 1)]).set (c.length + 1) (FR.round (c1.length + 1)))[c.length + 1]? = some (.round (c1.length + 1)) ∧
    (∀ i, c.length + 2 ≤ i → i < c1.length → ((c1 ++ [FR.on (c.length + 1)]).set (c.length + 1) (FR.round (c1.length + 1)))[i]? = c1[i]?) ∧ ((c1 ++ [FR.on (c.length + 1)]).set (c.length + 1) (FR.round (c1.length + 1)))[c1.length]? = some (.on (c.length + 1)) := by
  have g1 := putRows_goes a (c ++ [FR.rounds e, FR.hole])
  rw [← h1] at g1
  have l1 := g1.le
  simp only [List.length_append, List.length_cons, List.length_nil] at l1
  refine ⟨by rw [h1]; rfl, by omega, ?_, List.getElem?_set_self (by simp; omega), fun i hi hj => ?_, ?_⟩
  · rw [List.getElem?_set_ne (by omega), List.getElem?_append_left (by omega), g1.old _ (by simp)]
    simp
  · rw [List.getElem?_set_ne (by omega), List.getElem?_append_left hj]
  · rw [List.getElem?_set_ne (by omega)]
    simp
/-- what a body within rounds does -/
def DoesL (C : List FR) (q z : Nat) (ro : List Int) (n : Nat) (st s : Mst) (t : List PyData) : Option Int → Prop
  | none => ReachT (emb C q (ro ++ [((n : Nat) : Int)]) st) (emb C z ro s) t
  | some v => StopT (emb C q (ro ++ [((n : Nat) : Int)]) st) v s.cells t
theorem agr_one {C c : List FR} {f : FR} (h : Agr C c (c ++ [f])) : C[c.length]? = some f := (h _ (Nat.le_refl _) (by simp)).trans (by simp)
theorem ReachT.end {M M' : Mst} {t : List PyData} (r : ReachT M M' ([] ++ (t ++ []))) : ReachT M M' t := by
  rw [List.nil_append, List.append_nil] at r
  exact r
section
variable {C : List FR} {k : Int}
mutual
theorem simRow {ro : List Int} : ∀ {r : Row} {st s : Mst} {o : Option Int} {t : List PyData} {c : List FR} {deep loops : Nat}, RowS r st s o t → r.ok k deep loops → ro.length ≤ loops → Agr C c (putRow r c) → Does C c (putRow r c) ro st s t o
  | r, _, _, _, _, c, _, _, .plain (st := st) h, ok, _, ag => by
    have e : putRow r c = c ++ [.row r] := by cases r <;> first | rfl | exact h.elim
    rw [e] at ag ⊢
    have can : Can (.row r) (emb C ((c.length : Int) + 1) ro st) := by cases r <;> first | trivial | exact h.elim
    have z := emb_step (agr_one ag) can
    rw [emb_plain h, tell_emb] at z
    show ReachT _ (emb C ((c ++ [FR.row r]).length : Nat) ro _) _
    rw [List.length_append]
    exact z
  | _, _, _, _, _, c, _, _, .coin (x := x) (st := st) h, ok, _, ag => by
    have z := emb_step (ro := ro) (st := st) (agr_one (f := .row (.coin x)) ag) h
    show ReachT _ (emb C ((c ++ [FR.row (.coin x)]).length : Nat) ro _) _
    rw [List.length_append]
    exact z
  | _, _, _, _, _, c, _, _, .ans (e := e) (st := st), ok, _, ag => by
    have z := FinT.step (st := emb C c.length ro st) (f := .row (.ans e)) rfl (Int.natCast_nonneg _) (by show C[((c.length : Nat) : Int).toNat]? = _; rw [Int.toNat_natCast]; exact agr_one (f := .row (.ans e)) ag) trivial (.stop rfl)
    exact ⟨_, _, z, rfl, rfl⟩
  | _, _, _, o, t, c, _, _, .yes (e := e) (a := a) (b := b) h r, ok, hl, ag => by
    obtain ⟨c1, h1⟩ : ∃ c1, c1 = putRows a (c ++ [FR.hole]) := ⟨_, rfl⟩
    obtain ⟨c2, h2⟩ : ∃ c2, c2 = putRows b ((c1 ++ [FR.hole]).set c.length (FR.unless e (c1.length + 1))) := ⟨_, rfl⟩
    obtain ⟨ec, l1, l2, p0, pa, p1, pb⟩ := lay_iff h1 h2
    rw [ec] at ag ⊢
    have lc : (c2.set c1.length (FR.on c2.length)).length = c2.length := List.length_set
    have C0 := (ag c.length (Nat.le_refl _) (by omega)).trans p0
    have C1 := (ag c1.length (by omega) (by omega)).trans p1
    have lh : (c ++ [FR.hole]).length = c.length + 1 := by simp
    have ih := simRows r ok.2.1 hl (c := c ++ [FR.hole]) (fun i hi hj => (ag i (by omega) (by rw [← h1] at hj; omega)).trans ((pa i (by omega) (by rw [← h1] at hj; exact hj)).trans (by rw [h1])))
    rw [← h1] at ih
    unfold Does at ih ⊢
    rw [lh] at ih
    rw [lc]
    cases o with
    | none => exact ((emb_yes C0 h).trans (ReachT.trans ih (emb_on C1))).end
    | some v => exact StopT.from (emb_yes C0 h) ih
  | _, _, _, o, _, c, _, _, .no (e := e) (a := a) (b := b) h r, ok, hl, ag => by
    obtain ⟨c1, h1⟩ : ∃ c1, c1 = putRows a (c ++ [FR.hole]) := ⟨_, rfl⟩
    obtain ⟨c2, h2⟩ : ∃ c2, c2 = putRows b ((c1 ++ [FR.hole]).set c.length (FR.unless e (c1.length + 1))) := ⟨_, rfl⟩
    obtain ⟨ec, l1, l2, p0, pa, p1, pb⟩ := lay_iff h1 h2
    rw [ec] at ag ⊢
    have lc : (c2.set c1.length (FR.on c2.length)).length = c2.length := List.length_set
    have C0 := (ag c.length (Nat.le_refl _) (by omega)).trans p0
    have ld : ((c1 ++ [FR.hole]).set c.length (FR.unless e (c1.length + 1))).length = c1.length + 1 := by simp
    have ih := simRows r ok.2.2 hl (c := (c1 ++ [FR.hole]).set c.length (FR.unless e (c1.length + 1))) (fun i hi hj => (ag i (by omega) (by rw [← h2] at hj; omega)).trans ((pb i (by omega)).trans (by rw [h2])))
    rw [← h2] at ih
    unfold Does at ih ⊢
    rw [ld] at ih
    rw [lc]
    cases o with
    | none => exact (emb_no C0 h).trans ih
    | some v => exact StopT.from (emb_no C0 h) ih
  | _, _, _, o, _, c, _, loops, .times (e := e) (a := a) (n := n) hn r, ok, hl, ag => by
    obtain ⟨c1, h1⟩ : ∃ c1, c1 = putRows a (c ++ [FR.rounds e, FR.hole]) := ⟨_, rfl⟩
    obtain ⟨ec, l1, p0, p1, pa, p2⟩ := lay_times (e := e) h1
    rw [ec] at ag ⊢
    have lc : ((c1 ++ [FR.on (c.length + 1)]).set (c.length + 1) (FR.round (c1.length + 1))).length = c1.length + 1 := by simp
    have C0 := (ag c.length (Nat.le_refl _) (by omega)).trans p0
    have C1 := (ag (c.length + 1) (by omega) (by omega)).trans p1
    have C2 := (ag c1.length (by omega) (by omega)).trans p2
    have lh : (c ++ [FR.rounds e, FR.hole]).length = c.length + 1 + 1 := by simp
    have l2 : loops < 2 := ok.2.1
    have ih := simTimes (ro := ro) (q := c.length + 1) (z := c1.length + 1) r ok.2.2 (by omega) C1 lh (fun i hi hj => (ag i (by omega) (by rw [← h1] at hj; omega)).trans ((pa i (by omega) (by rw [← h1] at hj; exact hj)).trans (by rw [h1]))) (by rw [← h1]; exact C2)
    unfold Does
    unfold DoesL at ih
    rw [lc]
    cases o with
    | none => exact (emb_rounds C0 hn (by omega)).trans ih
    | some v => exact StopT.from (emb_rounds C0 hn (by omega)) ih
theorem simRows {ro : List Int} : ∀ {rs : List Row} {st s : Mst} {o : Option Int} {t : List PyData} {c : List FR} {deep loops : Nat}, RowsS rs st s o t → rowsOk k deep loops rs → ro.length ≤ loops → Agr C c (putRows rs c) → Does C c (putRows rs c) ro st s t o
  | _, _, _, _, _, c, _, _, .nil, _, _, _ => ReachT.refl _
  | _, _, _, _, _, c, _, _, .stop (r := r) (rs := rs) h, ok, hl, ag => by
    have g := putRows_goes rs (putRow r c)
    have ih := simRow h ok.2.1 hl (c := c) (fun i hi hj => (ag i hi (Nat.lt_of_lt_of_le hj g.le)).trans (g.old i hj))
    exact ih
  | _, _, _, o, _, c, _, _, .cons (r := r) (rs := rs) h kk, ok, hl, ag => by
    have g := putRows_goes rs (putRow r c)
    have g0 := (putRow_goes r c).le
    have i1 := simRow h ok.2.1 hl (c := c) (fun i hi hj => (ag i hi (Nat.lt_of_lt_of_le hj g.le)).trans (g.old i hj))
    have i2 := simRows kk ok.2.2 hl (c := putRow r c) (fun i hi hj => ag i (Nat.le_trans g0 hi) hj)
    cases o with
    | none => exact ReachT.trans i1 i2
    | some v => exact StopT.from i1 i2
theorem simTimes {ro : List Int} : ∀ {n : Nat} {a : List Row} {st s : Mst} {o : Option Int} {t : List PyData} {c0 : List FR} {q z deep loops : Nat}, TimesS n a st s o t → rowsOk k deep loops a → ro.length + 1 ≤ loops → C[q]? = some (.round z) → c0.length = q + 1 → Agr C c0 (putRows a c0) → C[(putRows a c0).length]? = some (.on q) → DoesL C q z ro n st s t o
  | _, a, _, _, _, _, c0, q, z, _, _, .zero (st := st), ok, hl, hq, h0, ag, hon => by
    have r := emb_round (ro := ro) (st := st) hq 0
    rw [if_pos rfl] at r
    exact r
  | _, a, _, _, _, _, c0, q, z, _, _, .stop (n := n) (st := st) h, ok, hl, hq, h0, ag, hon => by
    have r := emb_round (ro := ro) (st := st) hq (n + 1)
    rw [if_neg (Nat.succ_ne_zero n), show (((n + 1 : Nat) : Int) - 1) = ((n : Nat) : Int) from by omega] at r
    have ih := simRows (ro := ro ++ [((n : Nat) : Int)]) h ok (by simp; omega) ag
    unfold Does at ih
    rw [h0] at ih
    exact StopT.from r ih
  | _, a, _, _, o, _, c0, q, z, _, _, .more (n := n) (st := st) h kk, ok, hl, hq, h0, ag, hon => by
    have r := emb_round (ro := ro) (st := st) hq (n + 1)
    rw [if_neg (Nat.succ_ne_zero n), show (((n + 1 : Nat) : Int) - 1) = ((n : Nat) : Int) from by omega] at r
    have i1 := simRows (ro := ro ++ [((n : Nat) : Int)]) h ok (by simp; omega) ag
    unfold Does at i1
    rw [h0] at i1
    have i2 := simTimes kk ok hl hq h0 ag hon
    have i3 := (r.trans (ReachT.trans i1 (emb_on hon))).end
    cases o with
    | none => exact ReachT.trans i3 i2
    | some v => exact StopT.from i3 i2
end
end
/-- a body's run, from its beginning to its end -/
theorem body_fin {rs : List Row} {k : Int} {sides cells coins : List Int} {a : Int} {s : Mst} {o : Option Int} {t : List PyData} (ok : rowsOk k 1 0 rs) (r : RowsS rs (mst0 (codeOf rs) sides cells coins a) s o t) :
    ∃ (n : Nat) (Z : Mst), FinT n (mst0 (codeOf rs) sides cells coins a) Z t ∧ Z.res = some (o.getD 0) ∧ Z.cells = s.cells := by
  have g : Agr (codeOf rs) [] (putRows rs []) := fun i _ hj => List.getElem?_append_left hj
  have d := simRows (C := codeOf rs) (ro := []) r ok (Nat.le_refl 0) g
  cases o with
  | some v => exact d
  | none =>
    have hp : (codeOf rs)[(putRows rs []).length]? = some (.row (.ans (.num 0))) := by simp [codeOf]
    have z := FinT.step (st := emb (codeOf rs) (putRows rs []).length [] s) (f := .row (.ans (.num 0))) rfl (Int.natCast_nonneg _) (by show (codeOf rs)[((putRows rs []).length : Int).toNat]? = _; rw [Int.toNat_natCast]; exact hp) trivial (.stop rfl)
    obtain ⟨n, f⟩ := d _ (fut_fin _) _ _ z
    have e : t ++ (tell (.row (.ans (.num 0))) (stp1 (.row (.ans (.num 0))) { emb (codeOf rs) (putRows rs []).length [] s with place := (emb (codeOf rs) (putRows rs []).length [] s).place + 1 }) ++ []) = t := by
      show t ++ ([] ++ []) = t
      simp
    rw [e] at f
    exact ⟨n, _, f, rfl, rfl⟩

end M

set_option Elab.async false
set_option linter.all false
set_option maxRecDepth 100000
set_option maxHeartbeats 2000000
namespace M
open PySem PySem.Spec PyProof.Rows L2

/-! ### what the laws of the family of the box draw -/
/-- the box a and its list l: the numbers that are left, the one that is being taken apart, the seed, the count -/
def BoxAt (H : Hp) (a l : Addr) : Prop := ∃ (ns : List Int) (g s n : Int), H a = some (.lst [.ref l, .int g, .int s, .int n]) ∧ H l = some (.lst (ns.map .int)) ∧ a ≠ l ∧ (∀ i ∈ ns, 0 ≤ i) ∧ 0 ≤ g ∧ (0 ≤ s ∧ s < 1099511627776) ∧ 0 ≤ n
/-- all stays but the box and its list -/
def Bx (a l : Addr) (H H' : Hp) : Prop := ∀ b o, b ≠ a → b ≠ l → H b = some o → H' b = some o
theorem Bx.refl {a l : Addr} (H : Hp) : Bx a l H H := fun _ _ _ _ e => e
theorem Bx.trans {a l : Addr} {H H1 H2 : Hp} (h : Bx a l H H1) (k : Bx a l H1 H2) : Bx a l H H2 := fun b o n1 n2 e => k b o n1 n2 (h b o n1 n2 e)
theorem Same.bx {a l : Addr} {H H' : Hp} (s : Same H H') : Bx a l H H' := fun b o _ _ e => s b o e
theorem But.bxA {a l : Addr} {H H' : Hp} (s : But a H H') : Bx a l H H' := fun b o n1 _ e => s b o n1 e
theorem But.bxL {a l : Addr} {H H' : Hp} (s : But l H H') : Bx a l H H' := fun b o _ n2 e => s b o n2 e
/-- by way of a heap that differs at the box alone -/
theorem Bx.cut {a l : Addr} {H H' : Hp} (h : Bx a l H H') (o : ∃ u, H' a = some u) : But a H (fun x => if x = a then H' a else H x) ∧ But l (fun x => if x = a then H' a else H x) H' := by
  refine ⟨fun b u n e => ?_, fun b u n e => ?_⟩
  · show (if b = a then H' a else H b) = _
    rw [if_neg n]
    exact e
  · have e : (if b = a then H' a else H b) = some u := e
    by_cases c : b = a
    · rw [if_pos c] at e
      rw [c]
      exact e
    · rw [if_neg c] at e
      exact h b u c n e
theorem BoxAt.chA {H : Hp} {a l : Addr} (h : BoxAt H a l) : Ch H a := by
  obtain ⟨ns, g, s, n, e, _⟩ := h
  exact .lst e
theorem BoxAt.chL {H : Hp} {a l : Addr} (h : BoxAt H a l) : Ch H l := by
  obtain ⟨ns, g, s, n, _, e, _⟩ := h
  exact .lst e
theorem BoxAt.at {H : Hp} {a l : Addr} (h : BoxAt H a l) : ∃ u, H a = some u := by
  obtain ⟨ns, g, s, n, e, _⟩ := h
  exact ⟨_, e⟩
theorem BoxAt.chM {H H' : Hp} {a l : Addr} (h : BoxAt H a l) : Ch (fun x => if x = a then H' a else H x) l := by
  obtain ⟨ns, g, s, n, _, e, ne, _⟩ := h
  have e2 : (fun x => if x = a then H' a else H x) l = some (.lst (ns.map V.int)) := by
    show (if l = a then H' a else H l) = _
    rw [if_neg (Ne.symm ne)]
    exact e
  exact .lst e2
theorem BoxAt.same {H H' : Hp} {a l : Addr} (s : Same H H') (h : BoxAt H a l) : BoxAt H' a l := by
  obtain ⟨ns, g, sd, n, e1, e2, r⟩ := h
  exact ⟨ns, g, sd, n, s _ _ e1, s _ _ e2, r⟩
theorem BoxAt.but {H H' : Hp} {a l D : Addr} (s : But D H H') (n1 : a ≠ D) (n2 : l ≠ D) (h : BoxAt H a l) : BoxAt H' a l := by
  obtain ⟨ns, g, sd, n, e1, e2, r⟩ := h
  exact ⟨ns, g, sd, n, s _ _ n1 e1, s _ _ n2 e2, r⟩
theorem dp_bx {K : PySem.W.Frag} {a l : Addr} {H H' : Hp} (b : BoxAt H a l) (b' : BoxAt H' a l) (h : Bx a l H H') {v : V} {d : PyData} (k : Dp K H v d) (n : NoL d) : Dp K H' v d := dp_but b.chM (h.cut b'.at).2 (dp_but b.chA (h.cut b'.at).1 k n) n
theorem dps_bx {K : PySem.W.Frag} {a l : Addr} {H H' : Hp} (b : BoxAt H a l) (b' : BoxAt H' a l) (h : Bx a l H H') {vs : List V} {ds : List PyData} (k : DpAll K H vs ds) (n : ∀ d ∈ ds, NoL d) : DpAll K H' vs ds := dps_but b.chM (h.cut b'.at).2 (dps_but b.chA (h.cut b'.at).1 k n) n
theorem box_ne {H : Hp} {a l p : Addr} (h : BoxAt H a l) (np : H p = none) : p ≠ a ∧ p ≠ l := by
  obtain ⟨ns, g, sd, n, e1, e2, _⟩ := h
  exact ⟨(fun z => by rw [z, e1] at np; cases np), (fun z => by rw [z, e2] at np; cases np)⟩
theorem ints_nn : ∀ {ys : List V}, (∀ (i : Nat) (y : V), ys[i]? = some y → ∃ z : Int, y = .int z ∧ 0 ≤ z) → ∃ is : List Int, ys = is.map .int ∧ ∀ i ∈ is, 0 ≤ i
  | [], _ => ⟨[], rfl, (fun i h => nomatch h)⟩
  | y :: ys, h => by
    obtain ⟨z, e, z0⟩ := h 0 y rfl
    obtain ⟨is, e2, h2⟩ := ints_nn (ys := ys) fun i y e => h (i + 1) y e
    refine ⟨z :: is, by rw [e, e2]; rfl, fun i hi => ?_⟩
    rcases List.mem_cons.mp hi with rfl | hi
    · exact z0
    · exact h2 i hi
section
variable {P : Program} {w : World} {K : PySem.W.Frag} {mg : Str → Option Value} {base : Heap}
def spBox (K : PySem.W.Frag) : Sp := fun vs H Q _ => ∃ (t : Addr) (ns : List Int), vs = [.ref t] ∧ SqL K H t (ns.map .int) ∧ ns.length ≤ 63 ∧ ∀ (a l : Addr) (H' : Hp), Same H H' → H a = none → H l = none → BoxAt H' a l → Q (.ref a) H'
theorem ca_l_box (T : Txt w K mg) : Ca P w K mg base 1 "_law_box" (spBox K) := by
  refine ca_of (N := ["_law_script", "_law_seed", "_law_cell"]) (ps := ["_law_script"]) T.f_l_box T.g_law_box ⟨rfl, rfl, rfl, by decide +kernel, rfl, by decide +kernel, by decide +kernel⟩ (fun _ _ _ _ _ _ us hl => match us, hl with | [_], _ => rfl)
    (fun vs H Q E h => by obtain ⟨t, ns, rfl, ht, hl, q⟩ := h; rfl) (fun cdv A outer s H vs Q E hr h => ?_)
  have nd : (["_law_script", "_law_seed", "_law_cell"] : List Str).Nodup := by decide +kernel
  obtain ⟨t, ns, rfl, ht, hl, q⟩ := h
  refine ⟨_, (pss_cons (ps_set (i := 1) nd rfl (.inl rfl) pe_int)
      (pss_cons (ps_for PassesOwn.never rfl (pi_list (pv 0)) (pg_name (i := 2) nd rfl (.inl rfl)) (pss_one (ps_set (i := 1) nd rfl (.inl rfl) (pe_op op_mod (pe_callTy call_int1 (by rfl) T.b_int boot_int (pa_cons (pe_op op_add (pe_op op_add (pe_op op_mul (pv 1) pe_int) (pe_op op_mod (pe_callTy call_int1 (by rfl) T.b_int boot_int (pa_cons (pv 2) pa_nil)) pe_int)) pe_int) pa_nil)) pe_int))))
      (pss_one (ps_ret (pe_lst (pa_cons (pe_lc (own := [("_law_cell", 2)]) (tt := tYes) rfl nd (pi_reversed rfl T.b_reversed (pa_cons (pv 0) pa_nil)) (blkOk_by (N := ["_law_script", "_law_seed", "_law_cell"]) (sc := defScope s_l_box) (by decide +kernel)) (fun _ _ _ _ _ => pg_name (i := 2) nd rfl (.inl rfl)) (fun _ _ _ _ _ => pts_nil) (fun _ _ _ _ _ => pe_callB call_abs (by rfl) T.b_abs boot_abs (pa_cons (pv 2) pa_nil))) (pa_cons pe_int (pa_cons (pv 1) (pa_cons pe_int pa_nil))))))))), ?_⟩
  refine ⟨_, rfl, t, rfl, ⟨_, ht⟩, for_list (xs := ns.map V.int) (fun i σ' H' => ∃ (s : Int) (x : Option V), σ' = [some (.ref t), some (.int s), x] ∧ H' = H ∧ 0 ≤ s ∧ s < 1099511627776) ⟨7, none, rfl, rfl, by decide, by decide⟩ (fun i σ' H' _ ⟨_, _, _, e, _⟩ => e ▸ ht) ?_ ?_⟩
  · rintro i x σ' H' hx ⟨s, x2, rfl, rfl, s0, s1⟩
    obtain ⟨z, hz, rfl⟩ := get_map hx
    have z0 := Int.emod_nonneg z (show (2147483629 : Int) ≠ 0 by decide)
    have z1 := Int.emod_lt_of_pos z (show (0 : Int) < 2147483629 by decide)
    have y0 := Int.emod_nonneg (s * 48271 + z % 2147483629 + 11) (show (2147483647 : Int) ≠ 0 by decide)
    have y1 := Int.emod_lt_of_pos (s * 48271 + z % 2147483629 + 11) (show (0 : Int) < 2147483647 by decide)
    exact ⟨_, rfl, _, _, rfl, rfl, .inr ⟨by decide, by decide⟩, _, rfl, .inl ⟨_, rfl, _, _, rfl, rfl, (by show (0 : Int) < 2147483629; decide), _, _, rfl, rfl, _, _, rfl, rfl, .inl ⟨_, rfl, _, _, rfl, rfl, (by show (0 : Int) < 2147483647; decide), _, some (.int z), rfl, rfl, y0, by omega⟩⟩⟩
  · rintro σ' H1 ⟨s, x2, rfl, rfl, s0, s1⟩
    refine ⟨_, rfl, t, _, rfl, ht, fun D nD => ?_⟩
    refine lc_out (n := (ns.map V.int).length) walk_rev nD (by rw [List.length_map]; omega) (fun i y H => ∃ z : Int, y = .int z ∧ 0 ≤ z) (fun _ _ _ _ _ _ h => h) (fun H' s => s.seq ht) (fun i x H' H2 N F hi s y k => ?_) (fun H2 ys s2 hD el hz => ?_)
    · obtain ⟨rfl, ex⟩ := y
      obtain ⟨z, hz, rfl⟩ := get_map ex
      have z0 : 0 ≤ (if z < 0 then -z else z) := by split <;> omega
      exact ⟨rfl, iteT ⟨_, rfl, _, rfl, k _ _ (Same.refl _) ⟨_, rfl, z0⟩⟩⟩
    · obtain ⟨is, rfl, his⟩ := ints_nn hz
      refine ⟨_, rfl, (by show 4 ≤ sizeLine; decide), fun a na => q a D _ (s2.trans (same_new na)) (none_of s2 na) nD ⟨is, 0, s, 0, upd_same, same_new na _ _ hD, Ne.symm (ne_of_none hD na), his, by decide, ⟨s0, s1⟩, by decide⟩⟩
def spDrawB : Sp := fun vs H Q _ => ∃ (a l : Addr) (m : Int), vs = [.ref a, .int m] ∧ BoxAt H a l ∧ (1 ≤ m ∧ m ≤ 1000000000) ∧ ∀ (i : Int) (H' : Hp), Bx a l H H' → BoxAt H' a l → (0 ≤ i ∧ i < m) → Q (.int i) H'
theorem ca_l_draw (T : Txt w K mg) : Ca P w K mg base 1 "_law_draw" (spDrawB) := by
  refine ca_of (N := ["_law_box_here", "_law_many", "_law_digit", "_law_number"]) (ps := ["_law_box_here", "_law_many"]) T.f_l_draw T.g_law_draw ⟨rfl, rfl, rfl, by decide +kernel, rfl, by decide +kernel, by decide +kernel⟩ (fun _ _ _ _ _ _ us hl => match us, hl with | [_, _], _ => rfl)
    (fun vs H Q E h => by obtain ⟨a, l, m, rfl, hb, hm, q⟩ := h; rfl) (fun cdv A outer s H vs Q E hr h => ?_)
  have nd : (["_law_box_here", "_law_many", "_law_digit", "_law_number"] : List Str).Nodup := by decide +kernel
  obtain ⟨a, l, m, rfl, hb, hm, q⟩ := h
  refine ⟨_, (C8.pss_cut (ps_if (PW.pt (pw_and (pt_cmpR op_eq (pe_ix ix_list (pv 0) pe_int (fun _ _ => rfl)) pe_int (nomark _)) (pw_and1 (pt_cmpR op_gt (pe_callB call_len_seq (by rfl) T.b_len PySem.boot_len (pa_cons (pe_ix ix_list (pv 0) pe_int (fun _ _ => rfl)) pa_nil)) pe_int (nomark _))))) (pss_cons (ps_asg (pe_bm0 PySem.F.plainAttrs_list PySem.F.slot_list_pop PySem.F.type_list_pop mt_pop (pe_ix ix_list (pv 0) pe_int (fun _ _ => rfl))) (pg_sub (pv 0) pe_int set_list))
      (pss_one (ps_if (pt_cmpR op_lt (pe_ix ix_list (pv 0) pe_int (fun _ _ => rfl)) (pe_op op_pow pe_int pe_int) (nomark _)) (pss_cons (ps_asg (pe_op op_mod (pe_callTy call_int1 (by rfl) T.b_int boot_int (pa_cons (pe_op op_add (pe_op op_add (pe_op op_mul (pe_ix ix_list (pv 0) pe_int (fun _ _ => rfl)) pe_int) (pe_ix ix_list (pv 0) pe_int (fun _ _ => rfl))) pe_int) pa_nil)) pe_int) (pg_sub (pv 0) pe_int set_list))
      (pss_one (ps_asg pe_int (pg_sub (pv 0) pe_int set_list)))) pss_nil))) pss_nil)
      (pss_cons (ps_if (pt_cmpR op_gt (pe_ix ix_list (pv 0) pe_int (fun _ _ => rfl)) pe_int (nomark _)) (pss_cons (ps_set (i := 2) nd rfl (.inl rfl) (pe_op op_mod (pe_callTy call_int1 (by rfl) T.b_int boot_int (pa_cons (pe_ix ix_list (pv 0) pe_int (fun _ _ => rfl)) pa_nil)) (pv 1)))
      (pss_cons (ps_asg (pe_op op_fdiv (pe_ix ix_list (pv 0) pe_int (fun _ _ => rfl)) (pv 1)) (pg_sub (pv 0) pe_int set_list))
      (pss_one (ps_ret (pv 2))))) pss_nil)
      (pss_cons (ps_asg (pe_op op_add (pe_ix ix_list (pv 0) pe_int (fun _ _ => rfl)) pe_int) (pg_sub (pv 0) pe_int set_list))
      (pss_cons (ps_set (i := 3) nd rfl (.inl rfl) (pe_op op_mod (pe_callTy call_int1 (by rfl) T.b_int boot_int (pa_cons (pe_op op_mul (pe_op op_add (pe_ix ix_list (pv 0) pe_int (fun _ _ => rfl)) pe_int) (pe_op op_add (pe_op op_mul pe_int (pe_ix ix_list (pv 0) pe_int (fun _ _ => rfl))) pe_int)) pa_nil)) pe_int))
      (pss_cons (ps_set (i := 3) nd rfl (.inl rfl) (pe_op op_mod (pe_callTy call_int1 (by rfl) T.b_int boot_int (pa_cons (pe_op op_mul (pv 3) (pe_op op_add (pe_op op_fdiv (pv 3) pe_int) pe_int)) pa_nil)) pe_int))
      (pss_cons (ps_set (i := 3) nd rfl (.inl rfl) (pe_op op_mod (pe_callTy call_int1 (by rfl) T.b_int boot_int (pa_cons (pe_op op_mul (pv 3) (pe_op op_add (pe_op op_fdiv (pv 3) pe_int) pe_int)) pa_nil)) pe_int))
      (pss_one (ps_ret (pe_op op_mod (pe_callTy call_int1 (by rfl) T.b_int boot_int (pa_cons (pe_op op_fdiv (pv 3) pe_int) pa_nil)) (pv 1)))))))))), ?_⟩
  refine ⟨fun σ' H' => σ' = [some (.ref a), some (.int m), none, none] ∧ Bx a l H H' ∧ BoxAt H' a l, ?_, ?_⟩
  · obtain ⟨ns, g, sd, n, e1, e2, nal, hns, hg, hs, hn⟩ := id hb
    have hsq : SqL K H a [.ref l, .int g, .int sd, .int n] := .of e1
    refine ⟨_, rfl, _, _, _, _, rfl, rfl, hsq, at1, rfl, _, rfl, ?_⟩
    by_cases c : g = 0
    · subst c
      rw [decide_eq_true rfl]
      refine iteT ⟨_, rfl, _, _, _, _, rfl, rfl, hsq, at0, l, _, rfl, .inl (.of e2), _, _, rfl, rfl, _, rfl, ?_⟩
      by_cases cl : ns = []
      · rw [decide_eq_false (show ¬ (0 : Int) < ((ns.map V.int).length : Nat) from by rw [cl]; exact (by decide : ¬ (0 : Int) < 0))]
        exact iteF ⟨rfl, Bx.refl H, hb⟩
      · obtain ⟨ns0, z, rfl⟩ : ∃ ns0 z, ns = ns0 ++ [z] := ⟨_, _, (List.dropLast_concat_getLast cl).symm⟩
        rw [decide_eq_true (show (0 : Int) < (((ns0 ++ [z]).map V.int).length : Nat) from by simp)]
        refine iteT ?_
        have z0 : 0 ≤ z := hns z (by simp)
        have hns0 : ∀ i ∈ ns0, 0 ≤ i := fun i hi => hns i (List.mem_append_left _ hi)
        refine ⟨_, rfl, _, _, _, _, rfl, rfl, hsq, at0, .inl ⟨rfl, _, .of e2⟩, l, _, .int z, rfl, rfl, e2, by simp, ?_⟩
        have ed : ((ns0 ++ [z]).map V.int).dropLast = ns0.map V.int := by rw [List.map_append]; exact List.dropLast_concat
        rw [ed]
        have bl : But l H (upd H l (.lst (ns0.map V.int))) := But.upd
        have el1 : upd H l (.lst (ns0.map V.int)) l = some (.lst (ns0.map V.int)) := upd_same
        have ea1 := bl _ _ nal e1
        generalize upd H l (.lst (ns0.map V.int)) = H1 at bl el1 ea1 ⊢
        refine ⟨_, rfl, a, _, _, 1, rfl, rfl, ea1, rfl, ?_⟩
        have b2 : But a H1 (upd H1 a (.lst (([.ref l, .int 0, .int sd, .int n] : List V).set 1 (.int z)))) := But.upd
        have ea2 : upd H1 a (.lst (([.ref l, .int 0, .int sd, .int n] : List V).set 1 (.int z))) a = some (.lst [.ref l, .int z, .int sd, .int n]) := upd_same
        have el2 := b2 _ _ (Ne.symm nal) el1
        generalize upd H1 a (.lst (([.ref l, .int 0, .int sd, .int n] : List V).set 1 (.int z))) = H2 at b2 ea2 el2 ⊢
        have hsq2 : SqL K H2 a [.ref l, .int z, .int sd, .int n] := .of ea2
        have bx2 : Bx a l H H2 := bl.bxL.trans b2.bxA
        refine ⟨_, rfl, _, _, _, _, rfl, rfl, hsq2, at1, _, _, rfl, rfl, ⟨by decide, by decide, by decide⟩, _, _, rfl, rfl, _, rfl, ?_⟩
        by_cases c2 : z < (10 ^ (18 : Int).toNat : Int)
        · rw [decide_eq_true c2]
          refine iteT ⟨_, rfl, _, _, _, _, rfl, rfl, hsq2, at2, _, _, rfl, rfl, .inr ⟨by decide, by decide⟩, _, rfl, _, _, _, _, rfl, rfl, hsq2, at1, _, _, rfl, rfl, _, _, rfl, rfl, .inl ⟨_, rfl, _, _, rfl, rfl, (by show (0 : Int) < 2147483399; decide), _, rfl, a, _, _, 2, rfl, rfl, ea2, rfl, ?_⟩⟩
          have y0 := Int.emod_nonneg (sd * 69621 + z + 5) (show (2147483399 : Int) ≠ 0 by decide)
          have y1 := Int.emod_lt_of_pos (sd * 69621 + z + 5) (show (0 : Int) < 2147483399 by decide)
          dsimp only
          generalize (sd * 69621 + z + 5) % 2147483399 = sd2 at y0 y1
          have b3 : But a H2 (upd H2 a (.lst (([.ref l, .int z, .int sd, .int n] : List V).set 2 (.int sd2)))) := But.upd
          have ea3 : upd H2 a (.lst (([.ref l, .int z, .int sd, .int n] : List V).set 2 (.int sd2))) a = some (.lst [.ref l, .int z, .int sd2, .int n]) := upd_same
          have el3 := b3 _ _ (Ne.symm nal) el2
          generalize upd H2 a (.lst (([.ref l, .int z, .int sd, .int n] : List V).set 2 (.int sd2))) = H3 at b3 ea3 el3 ⊢
          refine ⟨_, rfl, a, _, _, 1, rfl, rfl, ea3, rfl, ?_⟩
          have b4 : But a H3 (upd H3 a (.lst (([.ref l, .int z, .int sd2, .int n] : List V).set 1 (.int 0)))) := But.upd
          exact ⟨rfl, (bx2.trans b3.bxA).trans b4.bxA, ns0, 0, sd2, n, upd_same, b4 _ _ (Ne.symm nal) el3, nal, hns0, by decide, ⟨y0, by omega⟩, hn⟩
        · rw [decide_eq_false c2]
          exact iteF ⟨rfl, bx2, ns0, z, sd, n, ea2, el2, nal, hns0, z0, hs, hn⟩
    · rw [decide_eq_false (show ¬ V.int g = V.int 0 from fun z => c (V.int.inj z))]
      exact iteF (iteF ⟨rfl, Bx.refl H, hb⟩)
  · rintro σ' H1 ⟨rfl, b1, hb1⟩
    obtain ⟨ns, g, sd, n, e1, e2, nal, hns, hg, hs, hn⟩ := hb1
    have hsq : SqL K H1 a [.ref l, .int g, .int sd, .int n] := .of e1
    refine ⟨_, rfl, _, _, _, _, rfl, rfl, hsq, at1, _, _, rfl, rfl, _, rfl, ?_⟩
    by_cases c : (0 : Int) < g
    · rw [decide_eq_true c]
      refine iteT ?_
      refine ⟨_, rfl, _, _, _, _, rfl, rfl, hsq, at1, .inl ⟨_, rfl, _, rfl, _, _, rfl, rfl, (by show (0 : Int) < m; omega), ?_⟩⟩
      refine ⟨_, rfl, _, _, _, _, rfl, rfl, hsq, at1, _, rfl, _, _, rfl, rfl, ⟨(by show (0 : Int) < m; omega), (by show m < 1073741824; omega)⟩, ?_⟩
      refine ⟨_, rfl, a, _, _, 1, rfl, rfl, e1, rfl, ?_⟩
      have bb : But a H1 (upd H1 a (.lst (([.ref l, .int g, .int sd, .int n] : List V).set 1 (.int (g / m))))) := But.upd
      exact ⟨_, rfl, q _ _ (b1.trans bb.bxA) ⟨ns, g / m, sd, n, upd_same, bb _ _ (Ne.symm nal) e2, nal, hns, Int.ediv_nonneg (by omega) (by omega), hs, hn⟩ ⟨Int.emod_nonneg _ (by omega), Int.emod_lt_of_pos _ (by omega)⟩⟩
    · rw [decide_eq_false c]
      refine iteF ?_
      refine ⟨_, rfl, _, _, _, _, rfl, rfl, hsq, at3, _, _, rfl, rfl, _, rfl, a, _, _, 3, rfl, rfl, e1, rfl, ?_⟩
      have b2 : But a H1 (upd H1 a (.lst (([.ref l, .int g, .int sd, .int n] : List V).set 3 (.int (n + 1))))) := But.upd
      have hp2 : upd H1 a (.lst (([.ref l, .int g, .int sd, .int n] : List V).set 3 (.int (n + 1)))) a = some (.lst [.ref l, .int g, .int sd, .int (n + 1)]) := upd_same
      have e22 := b2 _ _ (Ne.symm nal) e2
      generalize upd H1 a (.lst (([.ref l, .int g, .int sd, .int n] : List V).set 3 (.int (n + 1)))) = H2 at b2 hp2 e22 ⊢
      have hsq2 : SqL K H2 a [.ref l, .int g, .int sd, .int (n + 1)] := .of hp2
      refine ⟨_, rfl, _, _, _, _, rfl, rfl, hsq2, at2, _, _, rfl, rfl, _, rfl, _, _, _, _, rfl, rfl, hsq2, at3, _, _, rfl, rfl, .inl (by decide), _, _, rfl, rfl, _, _, rfl, rfl, .inl ?_, .inl ⟨_, rfl, _, _, rfl, rfl, (by show (0 : Int) < 2147483647; decide), ?_⟩⟩
      · show -(2 ^ 64) < sd + 1 ∧ sd + 1 < 2 ^ 64
        omega
      have mb : ∀ u : Int, -(2 ^ 64) < u % 2147483647 ∧ u % 2147483647 < 2 ^ 64 := fun u => by
        have h0 := Int.emod_nonneg u (show (2147483647 : Int) ≠ 0 by decide)
        have h1 := Int.emod_lt_of_pos u (show (0 : Int) < 2147483647 by decide)
        omega
      refine ⟨_, rfl, _, rfl, _, _, rfl, rfl, ⟨(by show (0 : Int) < 1009; decide), (by show (1009 : Int) < 1073741824; decide)⟩, _, _, rfl, rfl, _, _, rfl, rfl, .inl (by constructor <;> omega), .inl ⟨_, rfl, _, _, rfl, rfl, (by show (0 : Int) < 2147483647; decide), ?_⟩⟩
      refine ⟨_, rfl, _, rfl, _, _, rfl, rfl, ⟨(by show (0 : Int) < 2003; decide), (by show (2003 : Int) < 1073741824; decide)⟩, _, _, rfl, rfl, _, _, rfl, rfl, .inl (by constructor <;> omega), .inl ⟨_, rfl, _, _, rfl, rfl, (by show (0 : Int) < 2147483399; decide), ?_⟩⟩
      refine ⟨_, rfl, _, _, rfl, rfl, ⟨(by show (0 : Int) < 16; decide), (by show (16 : Int) < 1073741824; decide)⟩, .inl ⟨_, rfl, _, rfl, _, _, rfl, rfl, (by show (0 : Int) < m; omega), ?_⟩⟩
      exact q _ _ (b1.trans b2.bxA) ⟨ns, g, sd, n + 1, hp2, e22, nal, hns, hg, hs, by omega⟩ ⟨Int.emod_nonneg _ (by omega), Int.emod_lt_of_pos _ (by omega)⟩
end

end M

set_option Elab.async false
set_option linter.all false
set_option maxRecDepth 100000
set_option maxHeartbeats 2000000
namespace M
open PySem PySem.Spec PyProof.Rows L2

theorem let5 {i : Int} (h : 0 ≤ i ∧ i < 5) : ∃ c, atI ("abcdx" : Str).cps.toList i = some c ∧ (⟨#[c]⟩ : Str) ∈ regs5 := by
  have : i = 0 ∨ i = 1 ∨ i = 2 ∨ i = 3 ∨ i = 4 := by omega
  rcases this with rfl | rfl | rfl | rfl | rfl
  · exact ⟨97, by decide +kernel, by decide +kernel⟩
  · exact ⟨98, by decide +kernel, by decide +kernel⟩
  · exact ⟨99, by decide +kernel, by decide +kernel⟩
  · exact ⟨100, by decide +kernel, by decide +kernel⟩
  · exact ⟨120, by decide +kernel, by decide +kernel⟩
theorem let4 {i : Int} (h : 0 ≤ i ∧ i < 4) : ∃ c, atI ("abcd" : Str).cps.toList i = some c ∧ (⟨#[c]⟩ : Str) ∈ regs4 := by
  have : i = 0 ∨ i = 1 ∨ i = 2 ∨ i = 3 := by omega
  rcases this with rfl | rfl | rfl | rfl
  · exact ⟨97, by decide +kernel, by decide +kernel⟩
  · exact ⟨98, by decide +kernel, by decide +kernel⟩
  · exact ⟨99, by decide +kernel, by decide +kernel⟩
  · exact ⟨100, by decide +kernel, by decide +kernel⟩
theorem sgn5 {i : Int} (h : 0 ≤ i ∧ i < 5) : ∃ c, atI ("+-*=<" : Str).cps.toList i = some c ∧ (⟨#[c]⟩ : Str) ∈ signs := by
  have : i = 0 ∨ i = 1 ∨ i = 2 ∨ i = 3 ∨ i = 4 := by omega
  rcases this with rfl | rfl | rfl | rfl | rfl
  · exact ⟨43, by decide +kernel, by decide +kernel⟩
  · exact ⟨45, by decide +kernel, by decide +kernel⟩
  · exact ⟨42, by decide +kernel, by decide +kernel⟩
  · exact ⟨61, by decide +kernel, by decide +kernel⟩
  · exact ⟨60, by decide +kernel, by decide +kernel⟩
section
variable {P : Program} {w : World} {K : PySem.W.Frag} {mg : Str → Option Value} {base : Heap}
def spXpr (K : PySem.W.Frag) (n : Nat) : Sp := fun vs H Q _ => ∃ (a l : Addr) (k : Nat), vs = [.ref a, .int (k : Int)] ∧ BoxAt H a l ∧ k < n ∧ k ≤ 100 ∧ ∀ (v : V) (e : Exp) (H' : Hp), Bx a l H H' → BoxAt H' a l → e.ok → e.dep ≤ k → Dp K H' v e.d → Q v H'
theorem ca_l_expr : ∀ (n : Nat) (T : Txt w K mg), Ca P w K mg base (n + 2) "_law_expr" (spXpr K n)
  | 0, T => by
    refine ca_of (N := ["_law_box_here", "_law_deep", "_law_kind", "_law_one"]) (ps := ["_law_box_here", "_law_deep"]) T.f_l_expr T.g_law_expr ⟨rfl, rfl, rfl, by decide +kernel, rfl, by decide +kernel, by decide +kernel⟩ (fun _ _ _ _ _ _ us hl => match us, hl with | [_, _], _ => rfl)
      (fun vs H Q E h => by obtain ⟨a, l, k, rfl, hp, hk, k9, q⟩ := h; rfl) (fun cdv A outer s H vs Q E hr h => ?_)
    have nd : (["_law_box_here", "_law_deep", "_law_kind", "_law_one"] : List Str).Nodup := by decide +kernel
    obtain ⟨a, l, k, rfl, hp, hk, k9, q⟩ := h
    omega
  | n + 1, T => by
    refine ca_of (N := ["_law_box_here", "_law_deep", "_law_kind", "_law_one"]) (ps := ["_law_box_here", "_law_deep"]) T.f_l_expr T.g_law_expr ⟨rfl, rfl, rfl, by decide +kernel, rfl, by decide +kernel, by decide +kernel⟩ (fun _ _ _ _ _ _ us hl => match us, hl with | [_, _], _ => rfl)
      (fun vs H Q E h => by obtain ⟨a, l, k, rfl, hp, hk, k9, q⟩ := h; rfl) (fun cdv A outer s H vs Q E hr h => ?_)
    have nd : (["_law_box_here", "_law_deep", "_law_kind", "_law_one"] : List Str).Nodup := by decide +kernel
    obtain ⟨a, l, k, rfl, hp, hk, k9, q⟩ := h
    refine ⟨_, (pss_cons (ps_set (i := 2) nd rfl (.inl rfl) (pe_ca (ca_l_draw T) hr (pa_cons (pv 0) (pa_cons (pe_op op_add pe_int (pe_op op_mul pe_int (pv 1))) pa_nil)) (by omega)))
      (pss_cons (ps_if (pt_cmpR op_lt (pv 2) pe_int (nomark _)) (pss_one (ps_ret (pe_ix ix_str pe_str (pv 2) (fun _ _ => rfl)))) pss_nil)
      (pss_cons (ps_if (pt_cmpR op_lt (pv 2) pe_int (nomark _)) (pss_one (ps_ret (pe_ca (ca_l_draw T) hr (pa_cons (pv 0) (pa_cons pe_int pa_nil)) (by omega)))) pss_nil)
      (pss_cons (ps_set (i := 3) nd rfl (.inl rfl) (pe_ca (ca_l_expr n T) hr (pa_cons (pv 0) (pa_cons (pe_op op_sub (pv 1) pe_int) pa_nil)) (by omega)))
      (pss_one (ps_ret (pe_tup (pa_cons (pe_ix ix_str pe_str (pe_ca (ca_l_draw T) hr (pa_cons (pv 0) (pa_cons pe_int pa_nil)) (by omega)) (fun _ _ => rfl)) (pa_cons (pv 3) (pa_cons (pe_ca (ca_l_expr n T) hr (pa_cons (pv 0) (pa_cons (pe_op op_sub (pv 1) pe_int) pa_nil)) (by omega)) pa_nil)))))))))), ?_⟩
    refine ⟨_, rfl, _, rfl, _, _, rfl, rfl, .inl ⟨by decide, by decide⟩, _, _, rfl, rfl, a, l, 7 + 4 * (k : Int), rfl, hp, by omega, fun i H1 b1 p1 hi => ?_⟩
    refine ⟨_, rfl, _, _, rfl, rfl, _, rfl, ?_⟩
    by_cases c5 : i < 5
    · rw [decide_eq_true c5]
      obtain ⟨cd, hcd, hsg⟩ := let5 ⟨hi.1, c5⟩
      exact iteT ⟨_, rfl, _, i, cd, rfl, rfl, (by decide +kernel), hcd, q _ (.reg ⟨#[cd]⟩) H1 b1 p1 hsg (Nat.zero_le _) (.str _)⟩
    · rw [decide_eq_false c5]
      refine iteF ⟨_, rfl, _, _, rfl, rfl, _, rfl, ?_⟩
      by_cases c7 : i < 7
      · rw [decide_eq_true c7]
        exact iteT ⟨_, rfl, a, l, 10, rfl, p1, by omega, fun j H2 b2 p2 hj => q _ (.num j) H2 (b1.trans b2) p2 (by show 0 ≤ j ∧ j ≤ 9; omega) (Nat.zero_le _) (.int j)⟩
      · rw [decide_eq_false c7]
        have k1 : 1 ≤ k := by omega
        have ek : ((k : Nat) : Int) - 1 = ((k - 1 : Nat) : Int) := by omega
        refine iteF ⟨_, rfl, _, rfl, _, _, rfl, rfl, a, l, k - 1, by rw [← ek]; rfl, p1, by omega, by omega, fun v1 e1 H3 b3 p3 o1 d1 y1 => ?_⟩
        refine ⟨_, rfl, a, l, 5, rfl, p3, by omega, fun j H4 b4 p4 hj => ?_⟩
        obtain ⟨cd, hcd, hsg⟩ := sgn5 hj
        refine ⟨_, j, cd, rfl, rfl, (by decide +kernel), hcd, _, rfl, _, rfl, _, rfl, _, _, rfl, rfl, a, l, k - 1, by rw [← ek]; rfl, p4, by omega, by omega, fun v2 e2 H5 b5 p5 o2 d2 y2 => ?_⟩
        refine ⟨(by show 3 ≤ sizeLine; decide), fun t nt => ?_⟩
        have s6 : Same H5 (upd H5 t (.tup [.str ⟨#[cd]⟩, v1, v2])) := same_new nt
        refine q _ (.op ⟨#[cd]⟩ e1 e2) _ ((((b1.trans b3).trans b4).trans b5).trans (Same.bx s6)) (p5.same s6) ⟨hsg, o1, o2⟩ ?_ (.tup (.of upd_same) (.cons (.str _) (.cons (dp_same s6 (dp_bx p3 p5 (b4.trans b5) y1 e1.noL)) (.cons (dp_same s6 y2) .nil))))
        show Nat.max e1.dep e2.dep + 1 ≤ k
        have : Nat.max e1.dep e2.dep ≤ k - 1 := Nat.max_le.mpr ⟨d1, d2⟩
        omega
end
/-! ### what an expression is worth -/
theorem idx5 {s : Str} (h : s ∈ signs) : ∃ k : Nat, PySem.Txt.index0 ("+-*=<" : Str) s = some k ∧ ∀ a b : Int, ∀ e : List V, e = [.int ((a + b) % 10), .int ((a - b) % 10), .int (a * b % 10), .int (if a = b then 1 else 0), .int (if a < b then 1 else 0)] → atI e ((k : Nat) : Int) = some (.int (opv s a b)) := by
  unfold signs at h
  simp only [List.mem_cons, List.not_mem_nil, or_false] at h
  rcases h with rfl | rfl | rfl | rfl | rfl
  · exact ⟨0, by decide +kernel, fun a b e he => by rw [he]; rfl⟩
  · exact ⟨1, by decide +kernel, fun a b e he => by rw [he]; rfl⟩
  · exact ⟨2, by decide +kernel, fun a b e he => by rw [he]; rfl⟩
  · exact ⟨3, by decide +kernel, fun a b e he => by rw [he]; rfl⟩
  · exact ⟨4, by decide +kernel, fun a b e he => by rw [he]; rfl⟩
section
variable {P : Program} {w : World} {K : PySem.W.Frag} {mg : Str → Option Value} {base : Heap}
def spWorth (K : PySem.W.Frag) (n : Nat) : Sp := fun vs H Q _ => ∃ (v : V) (e : Exp) (h : Addr) (r : Str → Int), vs = [v, .ref h] ∧ Dp K H v e.d ∧ e.ok ∧ e.dep < n ∧ H h = some (.dK (heldK r)) ∧ RegOk r ∧ ∀ H', Same H H' → Q (.int (e.ev r)) H'
theorem ca_l_worth : ∀ (n : Nat) (T : Txt w K mg), Ca P w K mg base (n + 1) "_law_worth" (spWorth K n)
  | 0, T => by
    refine ca_of (N := ["_law_e", "_law_regs", "_law_one", "_law_other", "_law_sums"]) (ps := ["_law_e", "_law_regs"]) T.f_l_worth T.g_law_worth ⟨rfl, rfl, rfl, by decide +kernel, rfl, by decide +kernel, by decide +kernel⟩ (fun _ _ _ _ _ _ us hl => match us, hl with | [_, _], _ => rfl)
      (fun vs H Q E h => by obtain ⟨v, e, h, r, rfl, hv, ok, hd, hh, ro, q⟩ := h; rfl) (fun cdv A outer s H vs Q E hr h => ?_)
    have nd : (["_law_e", "_law_regs", "_law_one", "_law_other", "_law_sums"] : List Str).Nodup := by decide +kernel
    obtain ⟨v, e, h, r, rfl, hv, ok, hd, hh, ro, q⟩ := h
    omega
  | n + 1, T => by
    refine ca_of (N := ["_law_e", "_law_regs", "_law_one", "_law_other", "_law_sums"]) (ps := ["_law_e", "_law_regs"]) T.f_l_worth T.g_law_worth ⟨rfl, rfl, rfl, by decide +kernel, rfl, by decide +kernel, by decide +kernel⟩ (fun _ _ _ _ _ _ us hl => match us, hl with | [_, _], _ => rfl)
      (fun vs H Q E h => by obtain ⟨v, e, h, r, rfl, hv, ok, hd, hh, ro, q⟩ := h; rfl) (fun cdv A outer s H vs Q E hr h => ?_)
    have nd : (["_law_e", "_law_regs", "_law_one", "_law_other", "_law_sums"] : List Str).Nodup := by decide +kernel
    obtain ⟨v, e, h, r, rfl, hv, ok, hd, hh, ro, q⟩ := h
    refine ⟨_, (pss_cons (ps_if (pt_val (pe_is .str T.b_isinstance (pv 0) T.b_str boot_str)) (pss_one (ps_ret (pe_dget (hu_of hr) (pv 1) (pv 0) (fun _ _ => rfl)))) pss_nil)
      (pss_cons (ps_if (pt_val (pe_is .int T.b_isinstance (pv 0) T.b_int boot_int)) (pss_one (ps_ret (pv 0))) pss_nil)
      (pss_cons (ps_set (i := 2) nd rfl (.inl rfl) (pe_ca (ca_l_worth n T) hr (pa_cons (pe_ix ix_tup (pv 0) pe_int (fun _ _ => rfl)) (pa_cons (pv 1) pa_nil)) (by omega)))
      (pss_cons (ps_set (i := 3) nd rfl (.inl rfl) (pe_ca (ca_l_worth n T) hr (pa_cons (pe_ix ix_tup (pv 0) pe_int (fun _ _ => rfl)) (pa_cons (pv 1) pa_nil)) (by omega)))
      (pss_cons (ps_set (i := 4) nd rfl (.inl rfl) (pe_lst (pa_cons (pe_op op_mod (pe_callTy call_int1 (by rfl) T.b_int boot_int (pa_cons (pe_op op_add (pv 2) (pv 3)) pa_nil)) pe_int) (pa_cons (pe_op op_mod (pe_callTy call_int1 (by rfl) T.b_int boot_int (pa_cons (pe_op op_sub (pv 2) (pv 3)) pa_nil)) pe_int) (pa_cons (pe_op op_mod (pe_callTy call_int1 (by rfl) T.b_int boot_int (pa_cons (pe_op op_mul (pv 2) (pv 3)) pa_nil)) pe_int) (pa_cons (pe_callTy call_int1 (by rfl) T.b_int boot_int (pa_cons (pe_cmpR op_eq (pv 2) (pv 3) (nomark _)) pa_nil)) (pa_cons (pe_callTy call_int1 (by rfl) T.b_int boot_int (pa_cons (pe_cmpR op_lt (pv 2) (pv 3) (nomark _)) pa_nil)) pa_nil)))))))
      (pss_one (ps_ret (pe_ix ix_list (pv 4) (pe_bmS PySem.F.plainAttrs_str PySem.F.slot_str_index PySem.F.type_str_index (mt_indexX rfl takes0) pe_str (pa_cons (pe_ix ix_tup (pv 0) pe_int (fun _ _ => rfl)) pa_nil)) (fun _ _ => rfl))))))))), ?_⟩
    cases e with
    | num m =>
      cases dp_int hv
      exact ⟨_, rfl, _, _, rfl, .int m, _, rfl, iteF ⟨_, rfl, _, _, rfl, .int m, _, rfl, iteT ⟨_, rfl, q H (Same.refl H)⟩⟩⟩
    | reg s =>
      cases dp_str hv
      refine ⟨_, rfl, _, _, rfl, .str s, _, rfl, iteT ⟨_, rfl, _, rfl, h, _, rfl, ?_, q H (Same.refl H)⟩⟩
      show DGet H h (.str s) (some (V.int (r s)))
      rw [← held_get ok]
      exact DGet.k (k := Sum.inr s) hh
    | op s a b =>
      obtain ⟨t, x1, x2, x3, rfl, ht, e1, e2, e3⟩ := dp3 hv
      cases dp_str e1
      obtain ⟨o1, o2, o3⟩ := ok
      have hd : Nat.max a.dep b.dep + 1 < n + 1 := hd
      have da : a.dep < n := Nat.lt_of_le_of_lt (Nat.le_max_left _ _) (Nat.lt_of_succ_lt_succ hd)
      have db : b.dep < n := Nat.lt_of_le_of_lt (Nat.le_max_right _ _) (Nat.lt_of_succ_lt_succ hd)
      have ba := ev_bd ro o2
      have bb := ev_bd ro o3
      refine ⟨_, rfl, _, _, rfl, .tuple ht, _, rfl, iteF ⟨_, rfl, _, _, rfl, .tuple ht, _, rfl, iteF ?_⟩⟩
      refine ⟨_, rfl, _, _, _, _, rfl, rfl, ht, at1, _, rfl, x2, a, h, r, rfl, e2, o2, da, hh, ro, fun H1 s1 => ?_⟩
      refine ⟨_, rfl, _, _, _, _, rfl, rfl, same_t s1 ht, at2, _, rfl, x3, b, h, r, rfl, dp_same s1 e3, o3, db, s1 _ _ hh, ro, fun H2 s2 => ?_⟩
      have s12 := s1.trans s2
      refine ⟨_, rfl, _, rfl, _, _, rfl, rfl, .inl ⟨_, rfl, _, _, rfl, rfl, (by show (0 : Int) < 10; decide), ?_⟩⟩
      refine ⟨_, rfl, _, rfl, _, _, rfl, rfl, .inl ⟨_, rfl, _, _, rfl, rfl, (by show (0 : Int) < 10; decide), ?_⟩⟩
      refine ⟨_, rfl, _, rfl, _, _, rfl, rfl, .inl ⟨by omega, by omega⟩, .inl ⟨_, rfl, _, _, rfl, rfl, (by show (0 : Int) < 10; decide), ?_⟩⟩
      refine ⟨_, rfl, _, rfl, rfl, .inr ⟨_, rfl, _, rfl, _, rfl, _, _, rfl, rfl, .inr ⟨_, rfl, (by show 5 ≤ sizeLine; decide), fun p np => ?_⟩⟩⟩
      have s3 := same_new (o := .lst [.int ((a.ev r + b.ev r) % 10), .int ((a.ev r - b.ev r) % 10), .int (a.ev r * b.ev r % 10), .int (if decide (V.int (a.ev r) = V.int (b.ev r)) = true then 1 else 0), .int (if decide (a.ev r < b.ev r) = true then 1 else 0)]) np
      obtain ⟨k, hk, hv2⟩ := idx5 o1
      refine ⟨_, rfl, rfl, _, rfl, _, _, _, _, rfl, rfl, same_t (s12.trans s3) ht, at0, _, _, rfl, rfl, fun k2 hk2 => ?_, fun z => by rw [hk] at z; cases z⟩
      rw [hk] at hk2
      cases (Option.some.inj hk2)
      refine ⟨_, _, _, _, rfl, rfl, .of upd_same, hv2 (a.ev r) (b.ev r) _ ?_, q _ (s12.trans s3)⟩
      have k1 : (if decide (V.int (a.ev r) = V.int (b.ev r)) = true then (1 : Int) else 0) = if a.ev r = b.ev r then 1 else 0 := by
        by_cases c : a.ev r = b.ev r
        · rw [if_pos c, if_pos (by rw [c]; exact decide_eq_true rfl)]
        · rw [if_neg c, if_neg (fun z => c (V.int.inj (of_decide_eq_true z)))]
      have k2 : (if decide (a.ev r < b.ev r) = true then (1 : Int) else 0) = if a.ev r < b.ev r then 1 else 0 := by
        by_cases c : a.ev r < b.ev r
        · rw [if_pos c, if_pos (decide_eq_true c)]
        · rw [if_neg c, if_neg (fun z => c (of_decide_eq_true z))]
      rw [← k1, ← k2]
end

end M

set_option Elab.async false
set_option linter.all false
set_option maxRecDepth 100000
set_option maxHeartbeats 2000000
namespace M
open PySem PySem.Spec PyProof.Rows L2

/-! ### free rows -/
def cB : Nat → Nat
  | 0 => 1
  | d + 1 => 1 + 3 * cB d
theorem cB_pos : ∀ d, 1 ≤ cB d
  | 0 => Nat.le_refl 1
  | d + 1 => Nat.le_add_right 1 _
/-- a row that may stand so deep, the i-th of its kind -/
structure RowGd (c : Int) (deep : Nat) (co : Nat) (r : Row) : Prop where
  ok : ∀ dp loops, dp + deep ≤ 12 → loops + deep ≤ 2 → r.ok c dp loops
  cc : r.cc ≤ co
  cl : r.cl ≤ cB deep
theorem RowGd.more {c : Int} {deep a b : Nat} {r : Row} (h : RowGd c deep a r) (l : a ≤ b) : RowGd c deep b r := ⟨h.ok, Nat.le_trans h.cc l, h.cl⟩
theorem cl_app : ∀ (as bs : List Row), rowsCl (as ++ bs) = rowsCl as + rowsCl bs
  | [], bs => (Nat.zero_add _).symm
  | a :: as, bs => by
    show a.cl + rowsCl (as ++ bs) = a.cl + rowsCl as + rowsCl bs
    rw [cl_app as bs, Nat.add_assoc]
theorem cc_app : ∀ (as bs : List Row), rowsCc (as ++ bs) = rowsCc as + rowsCc bs
  | [], bs => (Nat.zero_add _).symm
  | a :: as, bs => by
    show a.cc + rowsCc (as ++ bs) = a.cc + rowsCc as + rowsCc bs
    rw [cc_app as bs, Nat.add_assoc]
theorem ok_app {c : Int} {deep loops : Nat} : ∀ {as bs : List Row}, rowsOk c deep loops as → rowsOk c deep loops bs → rowsOk c deep loops (as ++ bs)
  | [], bs, _, h => h
  | a :: as, bs, h, k => ⟨h.1, h.2.1, ok_app h.2.2 k⟩
theorem in_x : ("x" : Str) ∈ regs5 := by decide +kernel
theorem rows_noL' {rs : List Row} : ∀ d ∈ rs.map Row.d, NoL d := fun d hd => by
  obtain ⟨r, _, rfl⟩ := List.mem_map.mp hd
  exact r.noL
/-- where the making of a row stands: v the row so far -/
def MidB (K : PySem.W.Frag) (a l f z : Addr) (many deep i : Nat) (coins kind cell c : Int) (cd : Nat) (ev : V) (H5 : Hp) (co : Nat) : L2.St → Hp → Prop := fun σ' G => ∃ (v : V) (r : Row) (x12 : Option V), σ' = [some (.ref a), some (.int (many : Int)), some (.int (deep : Int)), some (.ref f), some (.int coins), some (.ref z), some (.int (0 + (i : Int))), some (.int kind), some (.str ⟨#[cd]⟩), some (.int cell), some ev, some v, x12] ∧ Bx a l H5 G ∧ BoxAt G a l ∧ Dp K G v r.d ∧ RowGd c deep co r
section
variable {P : Program} {w : World} {K : PySem.W.Frag} {mg : Str → Option Value} {base : Heap}
def spRowsB (K : PySem.W.Frag) (n : Nat) : Sp := fun vs H Q _ => ∃ (a l f : Addr) (many deep : Nat) (fs : List Int) (coins c : Int), vs = [.ref a, .int (many : Int), .int (deep : Int), .ref f, .int coins] ∧ BoxAt H a l ∧ H f = some (.lst (fs.map .int)) ∧ (1 ≤ fs.length ∧ fs.length ≤ 1000) ∧ (∀ x ∈ fs, 0 ≤ x ∧ x < c) ∧ f ≠ a ∧ f ≠ l ∧ many ≤ 10 ∧ deep < n ∧ deep ≤ 2 ∧
  ∀ (v : V) (rs : List Row) (H' : Hp), Bx a l H H' → BoxAt H' a l → Dp K H' v (.tuple (rowsD rs)) → rs.length = many → (∀ dp loops, dp + deep ≤ 12 → loops + deep ≤ 2 → rowsOk c dp loops rs) → rowsCc rs ≤ 2 → (coins ≤ 1 ∨ deep < 2 → rowsCc rs = 0) → rowsCl rs ≤ many * cB deep → Q v H'
theorem ca_l_rowsB1 {n : Nat} (R : Ca P w K mg base (n + 9) "_law_rows" (spRowsB K n)) (T : Txt w K mg) : Ca P w K mg base (n + 10) "_law_rows" (spRowsB K (n + 1)) := by
    refine ca_of (N := ["_law_box_here", "_law_many", "_law_deep", "_law_free", "_law_coins", "_law_rows_here", "_law_k", "_law_kind", "_law_reg", "_law_cell", "_law_e", "_law_row", "_law_first"]) (ps := ["_law_box_here", "_law_many", "_law_deep", "_law_free", "_law_coins"]) T.f_l_rows T.g_law_rows ⟨rfl, rfl, rfl, by decide +kernel, rfl, by decide +kernel, by decide +kernel⟩ (fun _ _ _ _ _ _ us hl => match us, hl with | [_, _, _, _, _], _ => rfl)
      (fun vs H Q E h => by obtain ⟨a, l, f, many, deep, fs, coins, c, rfl, hp, hf, hfl, hfs, nfa, nfl, hmany, hn, hdp, q⟩ := h; rfl) (fun cdv A outer s H vs Q E hr h => ?_)
    have nd : (["_law_box_here", "_law_many", "_law_deep", "_law_free", "_law_coins", "_law_rows_here", "_law_k", "_law_kind", "_law_reg", "_law_cell", "_law_e", "_law_row", "_law_first"] : List Str).Nodup := by decide +kernel
    obtain ⟨a, l, f, many, deep, fs, coins, c, rfl, hp, hf, hfl, hfs, nfa, nfl, hmany, hn, hdp, q⟩ := h
    refine ⟨_, (pss_cons (ps_set (i := 5) nd rfl (.inl rfl) (pe_lst pa_nil))
      (pss_cons (ps_for PassesOwn.never rfl (pi_range1 rfl T.b_range (pa_cons (pv 1) pa_nil)) (pg_name (i := 6) nd rfl (.inl rfl)) (pss_cons (ps_set (i := 7) nd rfl (.inl rfl) (pe_ca (ca_l_draw T) hr (pa_cons (pv 0) (pa_cons pe_int pa_nil)) (by omega)))
      (pss_cons (ps_set (i := 8) nd rfl (.inl rfl) (pe_ix ix_str pe_str (pe_ca (ca_l_draw T) hr (pa_cons (pv 0) (pa_cons pe_int pa_nil)) (by omega)) (fun _ _ => rfl)))
      (pss_cons (ps_set (i := 9) nd rfl (.inl rfl) (pe_ix ix_list (pv 3) (pe_ca (ca_l_draw T) hr (pa_cons (pv 0) (pa_cons (pe_callB call_len_seq (by rfl) T.b_len PySem.boot_len (pa_cons (pv 3) pa_nil)) pa_nil)) (by omega)) (fun _ _ => rfl)))
      (pss_cons (ps_set (i := 10) nd rfl (.inl rfl) (pe_ca (ca_l_expr 2 T) hr (pa_cons (pv 0) (pa_cons pe_int pa_nil)) (by omega)))
      (pss_cons (ps_set (i := 11) nd rfl (.inl rfl) (pe_tup (pa_cons pe_str (pa_cons (pv 8) (pa_cons (pv 9) pa_nil)))))
      (C8.pss_cut (ps_if (pt_cmpR op_in_seq (pv 7) (pe_tup (pa_cons pe_int (pa_cons pe_int (pa_cons pe_int pa_nil)))) (by rfl)) (pss_one (ps_set (i := 11) nd rfl (.inl rfl) (pe_ix ix_list (pe_lst (pa_cons (pe_tup (pa_cons pe_str (pa_cons (pv 9) (pa_cons (pv 10) pa_nil)))) (pa_cons (pe_tup (pa_cons pe_str (pa_cons (pv 8) (pa_cons (pv 10) pa_nil)))) (pa_cons (pe_tup (pa_cons pe_str (pa_cons (pv 10) pa_nil))) pa_nil)))) (pe_op op_sub (pv 7) pe_int) (fun _ _ => rfl)))) pss_nil)
      (C8.pss_cut (ps_if (pt_cmpR op_eq (pv 7) pe_int (nomark _)) (pss_one (ps_set (i := 11) nd rfl (.inl rfl) (pe_tup (pa_cons pe_str (pa_cons (pv 8) (pa_cons (pv 9) (pa_cons (pv 10) (pa_cons (pe_ca (ca_l_expr 2 T) hr (pa_cons (pv 0) (pa_cons pe_int pa_nil)) (by omega)) pa_nil)))))))) pss_nil)
      (C8.pss_cut (ps_if (PW.pt (pw_and (pt_cmpR op_eq (pv 7) pe_int (nomark _)) (pw_and (pt_cmpR op_gt (pv 4) pe_int (nomark _)) (pw_and (pt_cmpR op_eq (pv 2) pe_int (nomark _)) (pw_and1 (pt_cmpR op_lt (pv 6) pe_int (nomark _))))))) (pss_one (ps_set (i := 11) nd rfl (.inl rfl) (pe_tup (pa_cons pe_str (pa_cons (pv 8) pa_nil))))) pss_nil)
      (C8.pss_cut (ps_if (PW.pt (pw_and (pt_cmpR op_gt (pv 7) pe_int (nomark _)) (pw_and1 (pt_cmpR op_gt (pv 2) pe_int (nomark _))))) (pss_cons (ps_set (i := 12) nd rfl (.inl rfl) (pe_ca R hr (pa_cons (pv 0) (pa_cons pe_int (pa_cons (pe_op op_sub (pv 2) pe_int) (pa_cons (pv 3) (pa_cons pe_int pa_nil))))) (by omega)))
      (pss_cons (ps_set (i := 11) nd rfl (.inl rfl) (pe_tup (pa_cons pe_str (pa_cons (pe_ix ix_list (pe_lst (pa_cons pe_int (pa_cons pe_int (pa_cons pe_int (pa_cons pe_str pa_nil))))) (pe_ca (ca_l_draw T) hr (pa_cons (pv 0) (pa_cons pe_int pa_nil)) (by omega)) (fun _ _ => rfl)) (pa_cons (pv 12) pa_nil)))))
      (pss_one (ps_if (pt_cmpR op_eq (pv 7) pe_int (nomark _)) (pss_one (ps_set (i := 11) nd rfl (.inl rfl) (pe_tup (pa_cons pe_str (pa_cons (pv 10) (pa_cons (pv 12) (pa_cons (pe_ca R hr (pa_cons (pv 0) (pa_cons pe_int (pa_cons (pe_op op_sub (pv 2) pe_int) (pa_cons (pv 3) (pa_cons pe_int pa_nil))))) (by omega)) pa_nil))))))) pss_nil)))) pss_nil)
      (pss_one (ps_expr (pe_bm PySem.F.plainAttrs_list PySem.F.slot_list_append PySem.F.type_list_append mt_append (pv 5) (pa_cons (pv 11) pa_nil))))))))))))))
      (pss_one (ps_ret (pe_tupleOf (by rfl) T.b_tuple (pv 5)))))), ?_⟩
    refine ⟨(by show 0 ≤ sizeLine; exact Nat.zero_le _), fun z nz => ?_⟩
    obtain ⟨nza, nzl⟩ := box_ne hp nz
    have s0 : Same H (upd H z (.lst [])) := same_new nz
    have hz0 : upd H z (.lst []) z = some (.lst []) := upd_same
    have nzf : z ≠ f := Ne.symm (ne_of_none hf nz)
    generalize upd H z (.lst []) = H0 at s0 hz0 ⊢
    refine ⟨_, rfl, _, rfl, by omega, by omega, for_it (n := ((many : Nat) : Int).toNat) walk_range (fun i σ' H' => ∃ (x6 x7 x8 x9 x10 x11 x12 : Option V) (ys : List V) (rs : List Row), σ' = [some (.ref a), some (.int (many : Int)), some (.int (deep : Int)), some (.ref f), some (.int coins), some (.ref z), x6, x7, x8, x9, x10, x11, x12] ∧ Bx a l H H' ∧ BoxAt H' a l ∧ H' z = some (.lst ys) ∧ DpAll K H' ys (rs.map Row.d) ∧ rs.length = i ∧ (∀ dp loops, dp + deep ≤ 12 → loops + deep ≤ 2 → rowsOk c dp loops rs) ∧ rowsCc rs ≤ min i 2 ∧ (coins ≤ 1 ∨ deep < 2 → rowsCc rs = 0) ∧ rowsCl rs ≤ i * cB deep) ⟨none, none, none, none, none, none, none, [], [], rfl, Same.bx s0, hp.same s0, hz0, .nil, rfl, (fun _ _ _ _ => trivial), Nat.zero_le _, (fun _ => rfl), Nat.zero_le _⟩ (fun _ _ _ _ _ => trivial) ?_ ?_⟩
    · rintro i y σ' Hz H' hi ⟨_, _, _, _, _, x11, x12, ys, rs, rfl, bt, pt, hz, hys, hlen, hok, hcc, hcc0, hcl⟩ ⟨rfl, rfl⟩
      refine ⟨_, rfl, a, l, 8, rfl, pt, by omega, fun kind H2 b2 p2 hkind => ?_⟩
      refine ⟨_, rfl, a, l, 4, rfl, p2, by omega, fun ri H3 b3 p3 hri => ?_⟩
      obtain ⟨cd, hcd, hreg⟩ := let4 hri
      refine ⟨_, ri, cd, rfl, rfl, (by decide +kernel), hcd, ?_⟩
      have hf3 := (bt.trans (b2.trans b3)) _ _ nfa nfl hf
      refine ⟨_, rfl, _, rfl, _, rfl, f, _, rfl, .inl (.of hf3), a, l, ((fs.map V.int).length : Nat), rfl, p3, by rw [List.length_map]; omega, fun ci H4 b4 p4 hci => ?_⟩
      have hf4 := b4 _ _ nfa nfl hf3
      have hci2 : ci.toNat < fs.length := by rw [List.length_map] at hci; omega
      obtain ⟨cell, hcell⟩ : ∃ cell, fs[ci.toNat]? = some cell := ⟨_, List.getElem?_eq_getElem hci2⟩
      have gcell := hfs cell (List.mem_of_getElem? hcell)
      have hat : atI (fs.map V.int) ci = some (.int cell) := by
        have := atI_nat (j := ci.toNat) (v := V.int cell) (show (fs.map V.int)[ci.toNat]? = some (.int cell) from by rw [List.getElem?_map, hcell]; rfl)
        rw [Int.toNat_of_nonneg hci.1] at this
        exact this
      refine ⟨_, _, _, _, rfl, rfl, .of hf4, hat, ?_⟩
      refine ⟨_, rfl, a, l, 1, rfl, p4, by omega, by omega, fun ev e H5 b5 p5 eo ed de => ?_⟩
      have b15 : Bx a l H' H5 := ((b2.trans b3).trans b4).trans b5
      have bt5 := bt.trans b15
      have hz5 := b15 _ _ nza nzl hz
      have hys5 := dps_bx pt p5 b15 hys rows_noL'
      have ge : e.good := ⟨eo, by omega⟩
      refine ⟨_, rfl, _, rfl, (by show 3 ≤ sizeLine; decide), fun t nt => ?_⟩
      have s6 := same_new (o := .tup [.str "read", .str ⟨#[cd]⟩, .int cell]) nt
      have d6 : Dp K (upd H5 t (.tup [.str "read", .str ⟨#[cd]⟩, .int cell])) (.ref t) (Row.read ⟨#[cd]⟩ cell).d := .tup (.of upd_same) (.cons (.str _) (.cons (.str _) (.cons (.int _) .nil)))
      generalize upd H5 t (.tup [.str "read", .str ⟨#[cd]⟩, .int cell]) = H6 at s6 d6 ⊢
      have i0 : ∀ r : Row, r.cc = 0 → (∀ dp loops, dp + deep ≤ 12 → loops + deep ≤ 2 → r.ok c dp loops) → r.cl = 1 → RowGd c deep 0 r := fun r h1 h2 h3 => ⟨h2, by omega, by rw [h3]; exact cB_pos deep⟩
      refine ⟨MidB K a l f z many deep i coins kind cell c cd ev H5 0, ?_, ?_⟩
      · -- set, keep, answer
        refine ⟨_, rfl, (by show 3 ≤ sizeLine; decide), fun p np => ⟨_, _, rfl, .inr (.of upd_same), rfl, (by decide +kernel), ?_⟩⟩
        have sp := same_new (o := .tup [.int 1, .int 2, .int 3]) np
        generalize upd H6 p (.tup [.int 1, .int 2, .int 3]) = H7 at sp ⊢
        have s67 := s6.trans sp
        by_cases hk : kind = 1 ∨ kind = 2 ∨ kind = 3
        · have hin : inV (.int kind) [.int 1, .int 2, .int 3] = true := by rcases hk with rfl | rfl | rfl <;> decide +kernel
          refine ⟨true, congrArg V.bl hin, iteT ?_⟩
          refine ⟨_, rfl, _, rfl, (by show 3 ≤ sizeLine; decide), fun t1 nt1 => ?_⟩
          have u1 := same_new (o := .tup [.str "set", .int cell, ev]) nt1
          have f1 : Dp K (upd H7 t1 (.tup [.str "set", .int cell, ev])) (.ref t1) (Row.set cell e).d := .tup (.of upd_same) (.cons (.str _) (.cons (.int _) (.cons (dp_same (s67.trans u1) de) .nil)))
          generalize upd H7 t1 (.tup [.str "set", .int cell, ev]) = H8 at u1 f1 ⊢
          refine ⟨_, rfl, _, rfl, (by show 3 ≤ sizeLine; decide), fun t2 nt2 => ?_⟩
          have u2 := same_new (o := .tup [.str "keep", .str ⟨#[cd]⟩, ev]) nt2
          have f2 : Dp K (upd H8 t2 (.tup [.str "keep", .str ⟨#[cd]⟩, ev])) (.ref t2) (Row.keep ⟨#[cd]⟩ e).d := .tup (.of upd_same) (.cons (.str _) (.cons (.str _) (.cons (dp_same ((s67.trans u1).trans u2) de) .nil)))
          generalize upd H8 t2 (.tup [.str "keep", .str ⟨#[cd]⟩, ev]) = H9 at u2 f2 ⊢
          refine ⟨_, rfl, (by show 2 ≤ sizeLine; decide), fun t3 nt3 => ?_⟩
          have u3 := same_new (o := .tup [.str "answer", ev]) nt3
          have f3 : Dp K (upd H9 t3 (.tup [.str "answer", ev])) (.ref t3) (Row.ans e).d := .tup (.of upd_same) (.cons (.str _) (.cons (dp_same (((s67.trans u1).trans u2).trans u3) de) .nil))
          generalize upd H9 t3 (.tup [.str "answer", ev]) = H10 at u3 f3 ⊢
          refine ⟨(by show 3 ≤ sizeLine; decide), fun ls nls => ?_⟩
          have u4 := same_new (o := .lst [.ref t1, .ref t2, .ref t3]) nls
          have hls : upd H10 ls (.lst [.ref t1, .ref t2, .ref t3]) ls = some (.lst [.ref t1, .ref t2, .ref t3]) := upd_same
          generalize upd H10 ls (.lst [.ref t1, .ref t2, .ref t3]) = H11 at u4 hls ⊢
          have s11 := (((s67.trans u1).trans u2).trans u3).trans u4
          rcases hk with rfl | rfl | rfl
          · exact ⟨_, rfl, _, _, rfl, rfl, _, _, _, _, rfl, rfl, .of hls, at0, _, .set cell e, _, rfl, Same.bx s11, p5.same s11, dp_same ((u2.trans u3).trans u4) f1, i0 _ rfl (fun dp loops _ _ => ⟨gcell, ge⟩) rfl⟩
          · exact ⟨_, rfl, _, _, rfl, rfl, _, _, _, _, rfl, rfl, .of hls, at1, _, .keep ⟨#[cd]⟩ e, _, rfl, Same.bx s11, p5.same s11, dp_same (u3.trans u4) f2, i0 _ rfl (fun dp loops _ _ => ⟨hreg, ge⟩) rfl⟩
          · exact ⟨_, rfl, _, _, rfl, rfl, _, _, _, _, rfl, rfl, .of hls, at2, _, .ans e, _, rfl, Same.bx s11, p5.same s11, dp_same u4 f3, i0 _ rfl (fun dp loops _ _ => ge) rfl⟩
        · have hin : inV (.int kind) [.int 1, .int 2, .int 3] = false := by
            have : kind = 0 ∨ kind = 4 ∨ kind = 5 ∨ kind = 6 ∨ kind = 7 := by omega
            rcases this with rfl | rfl | rfl | rfl | rfl <;> decide +kernel
          exact ⟨false, congrArg V.bl hin, iteF ⟨_, .read ⟨#[cd]⟩ cell, _, rfl, Same.bx s67, p5.same s67, dp_same sp d6, i0 _ rfl (fun dp loops _ _ => ⟨hreg, gcell⟩) rfl⟩⟩
      rintro σ1 G1 ⟨v1, r1, y12, rfl, c1, q1, e1, g1⟩
      refine ⟨MidB K a l f z many deep i coins kind cell c cd ev H5 0, ?_, ?_⟩
      · refine ⟨_, rfl, rfl, _, rfl, ?_⟩
        by_cases k4 : kind = 4
        · rw [decide_eq_true (show V.int kind = V.int 4 from congrArg V.int k4)]
          refine iteT ⟨_, rfl, _, rfl, _, rfl, _, rfl, a, l, 0, rfl, q1, by omega, by omega, fun fv fe J1 b1 p1 fo fd df => ⟨(by show 5 ≤ sizeLine; decide), fun t2 nt2 => ?_⟩⟩
          have s7 := same_new (o := .tup [.str "swap", .str ⟨#[cd]⟩, .int cell, ev, fv]) nt2
          have de1 := dp_bx p5 p1 (c1.trans b1) de e.noL
          exact ⟨_, .swap ⟨#[cd]⟩ cell e fe, _, rfl, (c1.trans b1).trans (Same.bx s7), p1.same s7, .tup (.of upd_same) (.cons (.str _) (.cons (.str _) (.cons (.int _) (.cons (dp_same s7 de1) (.cons (dp_same s7 df) .nil))))), i0 _ rfl (fun dp loops _ _ => ⟨hreg, gcell, ge, fo, by omega⟩) rfl⟩
        · rw [decide_eq_false (show ¬ V.int kind = V.int 4 from fun z => k4 (V.int.inj z))]
          exact iteF ⟨v1, r1, y12, rfl, c1, q1, e1, g1⟩
      rintro σ2 G2 ⟨v2, r2, y12, rfl, c2, q2, e2, g2⟩
      refine ⟨MidB K a l f z many deep i coins kind cell c cd ev H5 (if coins ≤ 1 ∨ deep < 2 ∨ 2 ≤ i then 0 else 1), ?_, ?_⟩
      · have g2' : RowGd c deep (if coins ≤ 1 ∨ deep < 2 ∨ 2 ≤ i then 0 else 1) r2 := g2.more (Nat.zero_le _)
        have keep : MidB K a l f z many deep i coins kind cell c cd ev H5 (if coins ≤ 1 ∨ deep < 2 ∨ 2 ≤ i then 0 else 1) [some (.ref a), some (.int (many : Int)), some (.int (deep : Int)), some (.ref f), some (.int coins), some (.ref z), some (.int (0 + (i : Int))), some (.int kind), some (.str ⟨#[cd]⟩), some (.int cell), some ev, some v2, y12] G2 := ⟨v2, r2, y12, rfl, c2, q2, e2, g2'⟩
        refine ⟨_, rfl, rfl, _, rfl, ?_⟩
        by_cases k5 : kind = 5
        · rw [decide_eq_true (show V.int kind = V.int 5 from congrArg V.int k5)]
          refine iteT ⟨_, rfl, _, _, rfl, rfl, _, rfl, ?_⟩
          by_cases kc : 1 < coins
          · rw [decide_eq_true kc]
            refine iteT ⟨_, rfl, rfl, _, rfl, ?_⟩
            by_cases kd : deep = 2
            · rw [decide_eq_true (show V.int (deep : Int) = V.int 2 from by rw [kd]; rfl)]
              refine iteT ⟨_, rfl, _, _, rfl, rfl, _, rfl, ?_⟩
              by_cases ki : (0 : Int) + (i : Int) < 2
              · rw [decide_eq_true ki]
                refine iteT ⟨_, rfl, (by show 2 ≤ sizeLine; decide), fun t2 nt2 => ?_⟩
                have s7 := same_new (o := .tup [.str "coin", .str ⟨#[cd]⟩]) nt2
                exact ⟨_, .coin ⟨#[cd]⟩, _, rfl, c2.trans (Same.bx s7), q2.same s7, .tup (.of upd_same) (.cons (.str _) (.cons (.str _) .nil)), fun dp loops _ h => ⟨hreg, by omega⟩, by rw [if_neg (by omega)]; exact Nat.le_refl 1, cB_pos deep⟩
              · rw [decide_eq_false ki]
                exact iteF keep
            · rw [decide_eq_false (show ¬ V.int (deep : Int) = V.int 2 from fun z => kd (by have := V.int.inj z; omega))]
              exact iteF (iteF keep)
          · rw [decide_eq_false kc]
            exact iteF (iteF keep)
        · rw [decide_eq_false (show ¬ V.int kind = V.int 5 from fun z => k5 (V.int.inj z))]
          exact iteF (iteF keep)
      rintro σ3 G3 ⟨v3, r3, y12, rfl, c3, q3, e3, g3⟩
      refine ⟨MidB K a l f z many deep i coins kind cell c cd ev H5 (if coins ≤ 1 ∨ deep < 2 ∨ 2 ≤ i then 0 else 1), ?_, ?_⟩
      · have keep : MidB K a l f z many deep i coins kind cell c cd ev H5 (if coins ≤ 1 ∨ deep < 2 ∨ 2 ≤ i then 0 else 1) [some (.ref a), some (.int (many : Int)), some (.int (deep : Int)), some (.ref f), some (.int coins), some (.ref z), some (.int (0 + (i : Int))), some (.int kind), some (.str ⟨#[cd]⟩), some (.int cell), some ev, some v3, y12] G3 := ⟨v3, r3, y12, rfl, c3, q3, e3, g3⟩
        refine ⟨_, rfl, _, _, rfl, rfl, _, rfl, ?_⟩
        by_cases k6 : 5 < kind
        · rw [decide_eq_true k6]
          refine iteT ⟨_, rfl, _, _, rfl, rfl, _, rfl, ?_⟩
          by_cases kd : (0 : Int) < (deep : Int)
          · rw [decide_eq_true kd]
            have ek : ((deep : Nat) : Int) - 1 = ((deep - 1 : Nat) : Int) := by omega
            have hf7 := (bt5.trans c3) _ _ nfa nfl hf
            refine iteT ⟨_, rfl, _, rfl, _, _, rfl, rfl, _, rfl, a, l, f, 2, deep - 1, fs, 0, c, by rw [← ek]; rfl, q3, hf7, hfl, hfs, nfa, nfl, by decide, by omega, by omega, fun va ra J1 b1 p1 da la oka _ cca cla => ?_⟩
            have cca := cca (.inl (by decide))
            refine ⟨(by show 4 ≤ sizeLine; decide), fun ls nls => ?_⟩
            obtain ⟨nla, nll⟩ := box_ne p1 nls
            have u1 := same_new (o := .lst [.int 2, .int 3, .int 0, .str "x"]) nls
            have hls : upd J1 ls (.lst [.int 2, .int 3, .int 0, .str "x"]) ls = some (.lst [.int 2, .int 3, .int 0, .str "x"]) := upd_same
            have p1' := p1.same u1
            generalize upd J1 ls (.lst [.int 2, .int 3, .int 0, .str "x"]) = J2 at u1 hls p1' ⊢
            refine ⟨_, rfl, a, l, 4, rfl, p1', by omega, fun j J3 b3 p3' hj => ?_⟩
            obtain ⟨wv, we, hat, hwd, hwg⟩ : ∃ (wv : V) (we : Exp), atI ([.int 2, .int 3, .int 0, .str "x"] : List V) j = some wv ∧ (∀ G, Dp K G wv we.d) ∧ we.good := by
              have : j = 0 ∨ j = 1 ∨ j = 2 ∨ j = 3 := by omega
              rcases this with rfl | rfl | rfl | rfl
              · exact ⟨_, .num 2, at0, fun _ => .int 2, ⟨(show (0 : Int) ≤ 2 ∧ (2 : Int) ≤ 9 by decide), Nat.zero_le _⟩⟩
              · exact ⟨_, .num 3, at1, fun _ => .int 3, ⟨(show (0 : Int) ≤ 3 ∧ (3 : Int) ≤ 9 by decide), Nat.zero_le _⟩⟩
              · exact ⟨_, .num 0, at2, fun _ => .int 0, ⟨(show (0 : Int) ≤ 0 ∧ (0 : Int) ≤ 9 by decide), Nat.zero_le _⟩⟩
              · exact ⟨_, .reg "x", at3, fun _ => .str "x", ⟨in_x, Nat.zero_le _⟩⟩
            refine ⟨_, _, _, _, rfl, rfl, .of (b3 _ _ nla nll hls), hat, _, rfl, (by show 3 ≤ sizeLine; decide), fun t nt => ?_⟩
            have b13 : Bx a l J1 J3 := (Same.bx u1).trans b3
            have da3 := dp_bx p1 p3' b13 da (.tup (rows_noL ra))
            have u4 := same_new (o := .tup [.str "times", wv, va]) nt
            have d4 : Dp K (upd J3 t (.tup [.str "times", wv, va])) (.ref t) (Row.times we ra).d := .tup (.of upd_same) (.cons (.str _) (.cons (hwd _) (.cons (dp_same u4 da3) .nil)))
            have da4 := dp_same u4 da3
            have p4' := p3'.same u4
            generalize upd J3 t (.tup [.str "times", wv, va]) = J4 at u4 d4 da4 p4' ⊢
            have b04 : Bx a l H5 J4 := ((c3.trans b1).trans b13).trans (Same.bx u4)
            have ec : cB deep = 1 + 3 * cB (deep - 1) := by
              obtain ⟨d, rfl⟩ : ∃ d, deep = d + 1 := ⟨deep - 1, by omega⟩
              rfl
            have gt : RowGd c deep (if coins ≤ 1 ∨ deep < 2 ∨ 2 ≤ i then 0 else 1) (.times we ra) := ⟨fun dp loops h1 h2 => ⟨hwg, by omega, oka (dp + 1) (loops + 1) (by omega) (by omega)⟩, by show rowsCc ra ≤ _; rw [cca]; exact Nat.zero_le _, by show 1 + rowsCl ra ≤ _; rw [ec]; omega⟩
            refine ⟨_, rfl, rfl, _, rfl, ?_⟩
            by_cases k7 : kind = 6
            · rw [decide_eq_true (show V.int kind = V.int 6 from congrArg V.int k7)]
              have hf8 := (bt5.trans b04) _ _ nfa nfl hf
              refine iteT ⟨_, rfl, _, rfl, _, rfl, _, rfl, _, _, rfl, rfl, _, rfl, a, l, f, 1, deep - 1, fs, 0, c, by rw [← ek]; rfl, p4', hf8, hfl, hfs, nfa, nfl, by decide, by omega, by omega, fun vb rb J5 b5 p5' db lb okb _ ccb clb => ?_⟩
              have ccb := ccb (.inl (by decide))
              refine ⟨(by show 4 ≤ sizeLine; decide), fun t2 nt2 => ?_⟩
              have u6 := same_new (o := .tup [.str "if", ev, va, vb]) nt2
              have da5 := dp_bx p4' p5' b5 da4 (.tup (rows_noL ra))
              have de5 := dp_bx p5 p5' (b04.trans b5) de e.noL
              exact ⟨_, .iff e ra rb, _, rfl, (b04.trans b5).trans (Same.bx u6), p5'.same u6, .tup (.of upd_same) (.cons (.str _) (.cons (dp_same u6 de5) (.cons (dp_same u6 da5) (.cons (dp_same u6 db) .nil)))), fun dp loops h1 h2 => ⟨ge, oka (dp + 1) loops (by omega) (by omega), okb (dp + 1) loops (by omega) (by omega)⟩, by show rowsCc ra + rowsCc rb ≤ _; rw [cca, ccb]; exact Nat.zero_le _, by show 1 + (rowsCl ra + rowsCl rb) ≤ _; rw [ec]; omega⟩
            · rw [decide_eq_false (show ¬ V.int kind = V.int 6 from fun z => k7 (V.int.inj z))]
              refine iteF ?_
              exact ⟨.ref t, .times we ra, some va, rfl, b04, p4', d4, gt⟩
          · rw [decide_eq_false kd]
            exact iteF keep
        · rw [decide_eq_false k6]
          exact iteF (iteF keep)
      rintro σ4 G4 ⟨v4, r4, y12, rfl, c4, q4, e4, g4⟩
      have hz6 := c4 _ _ nza nzl hz5
      have hys6 := dps_bx p5 q4 c4 hys5 rows_noL'
      have lys : ys.length = i := by rw [dps_len hys, List.length_map, hlen]
      refine ⟨_, rfl, .inl ⟨rfl, _, .of hz6⟩, _, rfl, z, ys, _, rfl, rfl, hz6, by rw [lys, sizeLine_eq]; omega, ?_⟩
      have bb : But z G4 (upd G4 z (.lst (ys ++ [v4]))) := But.upd
      refine ⟨_, _, _, _, _, _, _, ys ++ [v4], rs ++ [r4], rfl, fun b o n1 n2 e => bb _ _ (ne_of_none e nz) ((bt5.trans c4) _ _ n1 n2 e), q4.but bb (Ne.symm nza) (Ne.symm nzl), upd_same, ?_, by rw [List.length_append, hlen]; rfl, fun dp loops h1 h2 => ok_app (hok dp loops h1 h2) ⟨by omega, g4.ok dp loops h1 h2, trivial⟩, ?_, fun h => ?_, ?_⟩
      · rw [List.map_append]
        exact dps_app (dps_but (.lst hz6) bb hys6 rows_noL') (.cons (dp_but (.lst hz6) bb e4 r4.noL) .nil)
      · rw [cc_app]
        have := g4.cc
        show rowsCc rs + (r4.cc + 0) ≤ min (i + 1) 2
        split at this <;> omega
      · rw [cc_app, hcc0 h]
        have := g4.cc
        rw [if_pos (by omega)] at this
        show 0 + (r4.cc + 0) = 0
        omega
      · rw [cl_app, Nat.succ_mul]
        have := g4.cl
        show rowsCl rs + (r4.cl + 0) ≤ _
        omega
    · rintro σ' H' ⟨_, _, _, _, _, _, _, ys, rs, rfl, bt, pt, hz, hys, hlen, hok, hcc, hcc0, hcl⟩
      have lys : ys.length = rs.length := by rw [dps_len hys, List.length_map]
      have e1 : (((many : Nat) : Int).toNat) = many := Int.toNat_natCast many
      rw [e1] at hlen hcc hcl
      refine ⟨_, rfl, .inl ⟨z, ys, rfl, .of hz, fun t nt => ?_⟩⟩
      have s := same_new (o := .tup ys) nt
      exact q _ rs _ (bt.trans (Same.bx s)) (pt.same s) (.tup (.of upd_same) (by rw [rowsD_map]; exact dps_same s hys)) hlen hok (by omega) hcc0 hcl
theorem ca_l_rowsB : ∀ (n : Nat) (T : Txt w K mg), Ca P w K mg base (n + 9) "_law_rows" (spRowsB K n)
  | 0, T => by
    refine ca_of (N := ["_law_box_here", "_law_many", "_law_deep", "_law_free", "_law_coins", "_law_rows_here", "_law_k", "_law_kind", "_law_reg", "_law_cell", "_law_e", "_law_row", "_law_first"]) (ps := ["_law_box_here", "_law_many", "_law_deep", "_law_free", "_law_coins"]) T.f_l_rows T.g_law_rows ⟨rfl, rfl, rfl, by decide +kernel, rfl, by decide +kernel, by decide +kernel⟩ (fun _ _ _ _ _ _ us hl => match us, hl with | [_, _, _, _, _], _ => rfl)
      (fun vs H Q E h => by obtain ⟨a, l, f, many, deep, fs, coins, c, rfl, hp, hf, hfl, hfs, nfa, nfl, hmany, hn, hdp, q⟩ := h; rfl) (fun cdv A outer s H vs Q E hr h => ?_)
    have nd : (["_law_box_here", "_law_many", "_law_deep", "_law_free", "_law_coins", "_law_rows_here", "_law_k", "_law_kind", "_law_reg", "_law_cell", "_law_e", "_law_row", "_law_first"] : List Str).Nodup := by decide +kernel
    obtain ⟨a, l, f, many, deep, fs, coins, c, rfl, hp, hf, hfl, hfs, nfa, nfl, hmany, hn, hdp, q⟩ := h
    omega
  | n + 1, T => ca_l_rowsB1 (ca_l_rowsB n T) T
end

end M

set_option Elab.async false
set_option linter.all false
set_option maxRecDepth 100000
set_option maxHeartbeats 2000000
namespace M
open PySem PySem.Spec PyProof.Rows L2

/-! ### displays of data that hang on what was drawn -/
section
variable {X : Cx} {K : PySem.W.Frag} {γ : Type} {C : γ → L2.St → Hp → Prop} {D : γ → PyData} {Ds : γ → List PyData} {e : Expr} {es : List Expr} {pos : Pos}
def Stg (C : γ → L2.St → Hp → Prop) : Prop := ∀ g σ H H', Same H H' → C g σ H → C g σ H'
def tGc (K : PySem.W.Frag) (C : γ → L2.St → Hp → Prop) (D : γ → PyData) : TE := fun σ H Q => ∃ g, C g σ H ∧ ∀ v H', Same H H' → Dp K H' v (D g) → Q v H'
def tGs (K : PySem.W.Frag) (C : γ → L2.St → Hp → Prop) (Ds : γ → List PyData) : TA := fun σ H Q => ∃ g, C g σ H ∧ ∀ vs H', Same H H' → DpAll K H' vs (Ds g) → Q vs H'
theorem pa_impG {t t' : TA} (h : PA X es t) (i : ∀ σ H Q, t' σ H Q → t σ H Q) : PA X es t' := ⟨fun pos pins s σ H Q I q => h.run pos pins s σ H Q I (i σ H Q q)⟩
theorem gd_str {x : Str} {j : Nat} : PE X (.Constant (.str x) j pos) (tGc K C fun _ => .str x) := pe_imp pe_str fun σ H Q ⟨_, _, q⟩ => q _ H (Same.refl _) (.str _)
theorem gd_int {x : Int} {j : Nat} : PE X (.Constant (.int x) j pos) (tGc K C fun _ => .int x) := pe_imp pe_int fun σ H Q ⟨_, _, q⟩ => q _ H (Same.refl _) (.int _)
theorem gd_nil : PA X [] (tGs K C fun _ => []) := pa_impG pa_nil fun σ H Q ⟨_, _, q⟩ => q [] H (Same.refl _) .nil
theorem gd_cons (hC : Stg C) (he : PE X e (tGc K C D)) (ht : PA X es (tGs K C Ds)) (hs : starEach (e :: es) X.env = (false, eval e X.env) :: starEach es X.env := by rfl) : PA X (e :: es) (tGs K C fun g => D g :: Ds g) :=
  pa_impG (pa_cons he ht hs) fun σ H Q ⟨g, c, q⟩ => ⟨g, c, fun v H1 s1 dv => ⟨g, hC _ _ _ _ s1 c, fun vs H2 s2 dvs => q _ H2 (s1.trans s2) (.cons (dp_same s2 dv) dvs)⟩⟩
theorem gd_tup {n : Nat} (h : PA X es (tGs K C Ds)) (hl : ∀ g, (Ds g).length ≤ 100 := by intro _; exact Nat.le_of_ble_eq_true rfl) : PE X (.Tuple es n pos) (tGc K C fun g => .tuple (Ds g)) :=
  pe_imp (pe_tup h) fun σ H Q ⟨g, c, q⟩ => ⟨g, c, fun vs H1 s1 dvs => ⟨by have := hl g; rw [dps_len dvs, sizeLine_eq]; omega, fun t nt => q _ _ (s1.trans (same_new nt)) (.tup (.of upd_same) (dps_same (same_new nt) dvs))⟩⟩
theorem gd_of {t : TE} (h : PE X e t) (k : ∀ g σ H, C g σ H → ∀ Q : VK, (∀ v H', Same H H' → Dp K H' v (D g) → Q v H') → t σ H Q) : PE X e (tGc K C D) := pe_imp h fun σ H Q ⟨g, c, q⟩ => k g σ H c Q q
end
section
variable {P : Program} {w : World} {K : PySem.W.Frag} {mg : Str → Option Value} {base : Heap}
def spBodyB (K : PySem.W.Frag) : Sp := fun vs H Q _ => ∃ (a l f : Addr) (fs : List Int) (coins c : Int), vs = [.ref a, .ref f, .int coins] ∧ BoxAt H a l ∧ H f = some (.lst (fs.map .int)) ∧ (1 ≤ fs.length ∧ fs.length ≤ 1000) ∧ (∀ x ∈ fs, 0 ≤ x ∧ x < c) ∧ f ≠ a ∧ f ≠ l ∧
  ∀ (v : V) (rs : List Row) (H' : Hp), Bx a l H H' → BoxAt H' a l → Dp K H' v (.tuple (rowsD rs)) → rowsOk c 1 0 rs → rowsCc rs ≤ 2 → (coins ≤ 1 → rowsCc rs = 0) → rowsCl rs ≤ 100 → rs.length ≤ 100 → Q v H'
theorem ca_l_body (T : Txt w K mg) : Ca P w K mg base 13 "_law_body" (spBodyB K) := by
  refine ca_of (N := ["_law_box_here", "_law_free", "_law_coins", "_law_kind", "_law_one", "_law_other", "_law_e", "_law_read", "_law_turn", "_law_plain"]) (ps := ["_law_box_here", "_law_free", "_law_coins"]) T.f_l_body T.g_law_body ⟨rfl, rfl, rfl, by decide +kernel, rfl, by decide +kernel, by decide +kernel⟩ (fun _ _ _ _ _ _ us hl => match us, hl with | [_, _, _], _ => rfl)
    (fun vs H Q E h => by obtain ⟨a, l, f, fs, coins, c, rfl, hp, hf, hfl, hfs, nfa, nfl, q⟩ := h; rfl) (fun cdv A outer s H vs Q E hr h => ?_)
  have nd : (["_law_box_here", "_law_free", "_law_coins", "_law_kind", "_law_one", "_law_other", "_law_e", "_law_read", "_law_turn", "_law_plain"] : List Str).Nodup := by decide +kernel
  obtain ⟨a, l, f, fs, coins, c, rfl, hp, hf, hfl, hfs, nfa, nfl, q⟩ := h
  let C0 : Int × Int × Exp → L2.St → Hp → Prop := fun g σ H => σ[4]? = some (some (.int g.1)) ∧ σ[5]? = some (some (.int g.2.1)) ∧ (∃ v, σ[6]? = some (some v) ∧ Dp K H v g.2.2.d) ∧ ∃ v, σ[7]? = some (some v) ∧ Dp K H v (Row.read "a" g.1).d
  have h0 : Stg C0 := fun g σ H H' s ⟨e1, e2, ⟨v, e3, d⟩, v2, e4, d2⟩ => ⟨e1, e2, ⟨v, e3, dp_same s d⟩, v2, e4, dp_same s d2⟩
  have f4 : ∀ g σ H, C0 g σ H → ∀ Q : VK, (∀ v H', Same H H' → Dp K H' v (.int g.1) → Q v H') → tVar 4 σ H Q := fun g σ H ⟨e1, _⟩ Q q => ⟨_, e1, q _ H (Same.refl _) (.int _)⟩
  have f5 : ∀ g σ H, C0 g σ H → ∀ Q : VK, (∀ v H', Same H H' → Dp K H' v (.int g.2.1) → Q v H') → tVar 5 σ H Q := fun g σ H ⟨_, e2, _⟩ Q q => ⟨_, e2, q _ H (Same.refl _) (.int _)⟩
  have f6 : ∀ g σ H, C0 g σ H → ∀ Q : VK, (∀ v H', Same H H' → Dp K H' v g.2.2.d → Q v H') → tVar 6 σ H Q := fun g σ H ⟨_, _, ⟨v, e3, d⟩, _⟩ Q q => ⟨_, e3, q _ H (Same.refl _) d⟩
  have f7 : ∀ g σ H, C0 g σ H → ∀ Q : VK, (∀ v H', Same H H' → Dp K H' v (Row.read "a" g.1).d → Q v H') → tVar 7 σ H Q := fun g σ H ⟨_, _, _, v, e3, d⟩ Q q => ⟨_, e3, q _ H (Same.refl _) d⟩
  refine ⟨_, (pss_cons (ps_set (i := 3) nd rfl (.inl rfl) (pe_ca (ca_l_draw T) hr (pa_cons (pv 0) (pa_cons pe_int pa_nil))))
      (pss_cons (ps_set (i := 4) nd rfl (.inl rfl) (pe_ix ix_list (pv 1) (pe_ca (ca_l_draw T) hr (pa_cons (pv 0) (pa_cons (pe_callB call_len_seq (by rfl) T.b_len PySem.boot_len (pa_cons (pv 1) pa_nil)) pa_nil))) (fun _ _ => rfl)))
      (pss_cons (ps_set (i := 5) nd rfl (.inl rfl) (pe_ix ix_list (pv 1) (pe_ca (ca_l_draw T) hr (pa_cons (pv 0) (pa_cons (pe_callB call_len_seq (by rfl) T.b_len PySem.boot_len (pa_cons (pv 1) pa_nil)) pa_nil))) (fun _ _ => rfl)))
      (pss_cons (ps_set (i := 6) nd rfl (.inl rfl) (pe_ca (ca_l_expr 2 T) hr (pa_cons (pv 0) (pa_cons pe_int pa_nil))))
      (pss_cons (ps_set (i := 7) nd rfl (.inl rfl) (pe_tup (pa_cons pe_str (pa_cons pe_str (pa_cons (pv 4) pa_nil)))))
      (C8.pss_cut (ps_if (PW.pt (pw_and (pt_cmpR op_eq (pv 3) pe_int (nomark _)) (pw_and1 (pt_cmpR op_gt (pv 2) pe_int (nomark _))))) (pss_one (ps_ret (gd_tup (K := K) (gd_cons h0 (gd_tup (K := K) (gd_cons h0 gd_str (gd_cons h0 gd_str gd_nil))) (gd_cons h0 (gd_tup (K := K) (gd_cons h0 gd_str (gd_cons h0 (gd_of (C := C0) (pv 4) f4) (gd_cons h0 (gd_tup (K := K) (gd_cons h0 gd_str (gd_cons h0 gd_str (gd_cons h0 gd_str gd_nil)))) gd_nil)))) (gd_cons h0 (gd_tup (K := K) (gd_cons h0 gd_str (gd_cons h0 (gd_of (C := C0) (pv 6) f6) gd_nil))) gd_nil)))))) pss_nil)
      (C8.pss_cut (ps_if (pt_cmpR op_gt (pv 3) pe_int (nomark _)) (pss_one (ps_ret (pe_ca (ca_l_rowsB 3 T) hr (pa_cons (pv 0) (pa_cons (pe_op op_add pe_int (pe_ca (ca_l_draw T) hr (pa_cons (pv 0) (pa_cons pe_int pa_nil)))) (pa_cons pe_int (pa_cons (pv 1) (pa_cons (pv 2) pa_nil)))))))) pss_nil)
      (pss_cons (ps_set (i := 8) nd rfl (.inl rfl) (gd_tup (K := K) (gd_cons h0 gd_str (gd_cons h0 (gd_tup (K := K) (gd_cons h0 gd_str (gd_cons h0 gd_str (gd_cons h0 gd_str gd_nil)))) (gd_cons h0 (gd_tup (K := K) (gd_cons h0 (gd_tup (K := K) (gd_cons h0 gd_str (gd_cons h0 (gd_of (C := C0) (pv 4) f4) (gd_cons h0 gd_str gd_nil)))) (gd_cons h0 (gd_tup (K := K) (gd_cons h0 gd_str (gd_cons h0 (gd_of (C := C0) (pv 5) f5) (gd_cons h0 gd_str gd_nil)))) gd_nil))) (gd_cons h0 (gd_tup (K := K) gd_nil) gd_nil))))))
      (pss_cons (ps_set (i := 9) nd rfl (.inl rfl) (pe_lst (pa_cons (gd_tup (K := K) (gd_cons h0 (gd_tup (K := K) (gd_cons h0 gd_str (gd_cons h0 (gd_of (C := C0) (pv 4) f4) (gd_cons h0 gd_str gd_nil)))) gd_nil)) (pa_cons (gd_tup (K := K) (gd_cons h0 (gd_of (C := C0) (pv 7) f7) (gd_cons h0 (gd_tup (K := K) (gd_cons h0 gd_str (gd_cons h0 gd_str gd_nil))) gd_nil))) (pa_cons (gd_tup (K := K) (gd_cons h0 (gd_of (C := C0) (pv 7) f7) (gd_cons h0 (gd_tup (K := K) (gd_cons h0 gd_str (gd_cons h0 (gd_of (C := C0) (pv 5) f5) (gd_cons h0 gd_str gd_nil)))) (gd_cons h0 (gd_tup (K := K) (gd_cons h0 gd_str (gd_cons h0 (gd_of (C := C0) (pv 4) f4) (gd_cons h0 gd_str gd_nil)))) gd_nil)))) pa_nil)))))
      (pss_cons (ps_expr (pe_bm PySem.F.plainAttrs_list PySem.F.slot_list_append PySem.F.type_list_append mt_append (pv 9) (pa_cons (gd_tup (K := K) (gd_cons h0 (gd_of (C := C0) (pv 7) f7) (gd_cons h0 (gd_tup (K := K) (gd_cons h0 gd_str (gd_cons h0 (gd_of (C := C0) (pv 4) f4) (gd_cons h0 (gd_tup (K := K) (gd_cons h0 gd_str (gd_cons h0 gd_str (gd_cons h0 gd_int gd_nil)))) gd_nil)))) (gd_cons h0 (gd_tup (K := K) (gd_cons h0 gd_str (gd_cons h0 (gd_tup (K := K) (gd_cons h0 gd_str (gd_cons h0 gd_str (gd_cons h0 gd_str gd_nil)))) gd_nil))) gd_nil)))) pa_nil)))
      (pss_cons (ps_expr (pe_bm PySem.F.plainAttrs_list PySem.F.slot_list_append PySem.F.type_list_append mt_append (pv 9) (pa_cons (gd_tup (K := K) (gd_cons h0 (gd_tup (K := K) (gd_cons h0 gd_str (gd_cons h0 gd_str (gd_cons h0 (gd_of (C := C0) (pv 4) f4) (gd_cons h0 gd_str (gd_cons h0 (gd_of (C := C0) (pv 6) f6) gd_nil)))))) (gd_cons h0 (gd_tup (K := K) (gd_cons h0 gd_str (gd_cons h0 gd_str gd_nil))) gd_nil))) pa_nil)))
      (pss_cons (ps_set (i := 9) nd rfl (.inl rfl) (pe_op op_cat (pv 9) (pe_lst (pa_cons (pe_tup (pa_cons (pv 7) (pa_cons (pe_tup (pa_cons pe_str (pa_cons pe_str (pa_cons (pv 5) pa_nil)))) (pa_cons (pv 8) pa_nil)))) (pa_cons (gd_tup (K := K) (gd_cons h0 (gd_tup (K := K) (gd_cons h0 gd_str (gd_cons h0 (gd_of (C := C0) (pv 4) f4) (gd_cons h0 (gd_of (C := C0) (pv 6) f6) gd_nil)))) gd_nil)) pa_nil)))))
      (pss_one (ps_ret (pe_ix ix_list (pv 9) (pv 3) (fun _ _ => rfl)))))))))))))))), ?_⟩
  refine ⟨_, rfl, a, l, 10, rfl, hp, by omega, fun kind H1 b1 p1 hkind => ?_⟩
  have ix : ∀ (ci : Int), 0 ≤ ci ∧ ci < ((fs.map V.int).length : Nat) → ∃ cell, atI (fs.map V.int) ci = some (.int cell) ∧ 0 ≤ cell ∧ cell < c := fun ci hci => by
    have hci2 : ci.toNat < fs.length := by rw [List.length_map] at hci; omega
    obtain ⟨cell, hcell⟩ : ∃ cell, fs[ci.toNat]? = some cell := ⟨_, List.getElem?_eq_getElem hci2⟩
    have hat := atI_nat (j := ci.toNat) (v := V.int cell) (show (fs.map V.int)[ci.toNat]? = some (.int cell) from by rw [List.getElem?_map, hcell]; rfl)
    rw [Int.toNat_of_nonneg hci.1] at hat
    exact ⟨cell, hat, hfs cell (List.mem_of_getElem? hcell)⟩
  have fl : (1 : Int) ≤ ((fs.map V.int).length : Nat) ∧ (((fs.map V.int).length : Nat) : Int) ≤ 1000000000 := by rw [List.length_map]; omega
  have hf1 := b1 _ _ nfa nfl hf
  refine ⟨_, rfl, _, rfl, _, rfl, f, _, rfl, .inl (.of hf1), a, l, ((fs.map V.int).length : Nat), rfl, p1, fl, fun c1 H2 b2 p2 hc1 => ?_⟩
  obtain ⟨one, hat1, gone⟩ := ix c1 hc1
  have hf2 := b2 _ _ nfa nfl hf1
  refine ⟨_, _, _, _, rfl, rfl, .of hf2, hat1, ?_⟩
  refine ⟨_, rfl, _, rfl, _, rfl, f, _, rfl, .inl (.of hf2), a, l, ((fs.map V.int).length : Nat), rfl, p2, fl, fun c2 H3 b3 p3 hc2 => ?_⟩
  obtain ⟨other, hat2, goth⟩ := ix c2 hc2
  have hf3 := b3 _ _ nfa nfl hf2
  refine ⟨_, _, _, _, rfl, rfl, .of hf3, hat2, ?_⟩
  refine ⟨_, rfl, a, l, 1, rfl, p3, by omega, by omega, fun ev e H4 b4 p4 eo ed de => ?_⟩
  have ge : e.good := ⟨eo, by omega⟩
  refine ⟨_, rfl, (by show 3 ≤ sizeLine; decide), fun tr ntr => ?_⟩
  have s5 := same_new (o := .tup [.str "read", .str "a", .int one]) ntr
  have d5 : Dp K (upd H4 tr (.tup [.str "read", .str "a", .int one])) (.ref tr) (Row.read "a" one).d := .tup (.of upd_same) (.cons (.str _) (.cons (.str _) (.cons (.int _) .nil)))
  have de5 := dp_same s5 de
  have p5 := p4.same s5
  generalize upd H4 tr (.tup [.str "read", .str "a", .int one]) = H5 at s5 d5 de5 p5 ⊢
  have b05 : Bx a l H H5 := (((b1.trans b2).trans b3).trans b4).trans (Same.bx s5)
  have fin : ∀ (v : V) (H' : Hp) (rs : List Row), Same H5 H' → Dp K H' v (.tuple (rowsD rs)) → rowsOk c 1 0 rs → rowsCc rs ≤ 2 → (coins ≤ 1 → rowsCc rs = 0) → rowsCl rs ≤ 100 → rs.length ≤ 100 → Q v H' := fun v H' rs s d o1 o2 o3 o4 o5 => q v rs H' (b05.trans (Same.bx s)) (p5.same s) d o1 o2 o3 o4 o5
  have ra : ("a" : Str) ∈ regs4 := by decide +kernel
  have rb : ("b" : Str) ∈ regs4 := by decide +kernel
  have rc : ("c" : Str) ∈ regs4 := by decide +kernel
  have xa : ("a" : Str) ∈ regs5 := by decide +kernel
  have xb : ("b" : Str) ∈ regs5 := by decide +kernel
  have xc : ("c" : Str) ∈ regs5 := by decide +kernel
  have sp : ("+" : Str) ∈ signs := by decide +kernel
  have se : ("=" : Str) ∈ signs := by decide +kernel
  have sl : ("<" : Str) ∈ signs := by decide +kernel
  have z0 : (0 : Nat) ≤ 6 := by decide
  have z1 : (1 : Nat) ≤ 6 := by decide
  have gx : Exp.good (.reg "x") := ⟨in_x, z0⟩
  have ga : Exp.good (.reg "a") := ⟨xa, z0⟩
  have gb : Exp.good (.reg "b") := ⟨xb, z0⟩
  have g1 : Exp.good (.num 1) := ⟨(by show (0 : Int) ≤ 1 ∧ (1 : Int) ≤ 9; decide), z0⟩
  have gcx : Exp.good (.op "+" (.reg "c") (.reg "x")) := ⟨⟨sp, xc, in_x⟩, z1⟩
  have ga1 : Exp.good (.op "+" (.reg "a") (.num 1)) := ⟨⟨sp, xa, g1.1⟩, z1⟩
  have gax : Exp.good (.op "=" (.reg "a") (.reg "x")) := ⟨⟨se, xa, in_x⟩, z1⟩
  have gab : Exp.good (.op "<" (.reg "a") (.reg "b")) := ⟨⟨sl, xa, xb⟩, z1⟩
  have cc0 : ∀ G, Same H5 G → C0 (one, other, e) [some (.ref a), some (.ref f), some (.int coins), some (.int kind), some (.int one), some (.int other), some ev, some (.ref tr), none, none] G := fun G s => ⟨rfl, rfl, ⟨ev, rfl, dp_same s de5⟩, _, rfl, dp_same s d5⟩
  refine ⟨fun σ' G => σ' = [some (.ref a), some (.ref f), some (.int coins), some (.int kind), some (.int one), some (.int other), some ev, some (.ref tr), none, none] ∧ G = H5, ?_, ?_⟩
  · refine ⟨_, rfl, rfl, _, rfl, ?_⟩
    by_cases k0 : kind = 0
    · rw [decide_eq_true (show V.int kind = V.int 0 from congrArg V.int k0)]
      refine iteT ⟨_, rfl, _, _, rfl, rfl, _, rfl, ?_⟩
      by_cases kc : 1 < coins
      · rw [decide_eq_true kc]
        exact iteT ⟨(one, other, e), cc0 _ (Same.refl _), fun v6 H6 s6 d6 => fin v6 H6 [.coin "c", .set one (.op "+" (.reg "c") (.reg "x")), .ans e] s6 d6 ⟨by decide, ⟨rc, rfl⟩, by decide, ⟨gone, gcx⟩, by decide, ge, trivial⟩ (Nat.le_of_ble_eq_true rfl) (fun h => by omega) (Nat.le_of_ble_eq_true rfl) (Nat.le_of_ble_eq_true rfl)⟩
      · rw [decide_eq_false kc]
        exact iteF ⟨rfl, rfl⟩
    · rw [decide_eq_false (show ¬ V.int kind = V.int 0 from fun z => k0 (V.int.inj z))]
      exact iteF (iteF ⟨rfl, rfl⟩)
  rintro σ1 G1 ⟨rfl, rfl⟩
  refine ⟨fun σ' G => σ' = [some (.ref a), some (.ref f), some (.int coins), some (.int kind), some (.int one), some (.int other), some ev, some (.ref tr), none, none] ∧ G = G1 ∧ kind ≤ 6, ?_, ?_⟩
  · refine ⟨_, rfl, _, _, rfl, rfl, _, rfl, ?_⟩
    by_cases k6 : 6 < kind
    · rw [decide_eq_true k6]
      refine iteT ⟨_, rfl, _, rfl, a, l, 4, rfl, p5, by omega, fun m H6 b6 p6 hm => ?_⟩
      have hf6 := (b05.trans b6) _ _ nfa nfl hf
      have em : (1 : Int) + m = ((1 + m.toNat : Nat) : Int) := by omega
      refine ⟨_, _, rfl, rfl, _, rfl, _, rfl, a, l, f, 1 + m.toNat, 2, fs, coins, c, by rw [← em]; rfl, p6, hf6, hfl, hfs, nfa, nfl, by omega, by decide, by decide, fun v7 r7 H7 b7 p7 d7 l7 o7 c7 z7 cl7 => ?_⟩
      refine q v7 r7 H7 ((b05.trans b6).trans b7) p7 d7 (o7 1 0 (by decide) (by decide)) c7 (fun h => z7 (.inl h)) ?_ (by omega)
      have : cB 2 = 13 := rfl
      rw [this] at cl7
      omega
    · rw [decide_eq_false k6]
      exact iteF ⟨rfl, rfl, by omega⟩
  rintro σ2 G2 ⟨rfl, rfl, k6⟩
  -- the plain ones
  refine ⟨(one, other, e), cc0 _ (Same.refl _), fun vt H6 s6 d6 => ?_⟩
  refine ⟨(one, other, e), ⟨rfl, rfl, ⟨ev, rfl, dp_same s6 de5⟩, _, rfl, dp_same s6 d5⟩, fun v0 J0 t0 e0 => ?_⟩
  have u0 := s6.trans t0
  refine ⟨(one, other, e), ⟨rfl, rfl, ⟨ev, rfl, dp_same u0 de5⟩, _, rfl, dp_same u0 d5⟩, fun v1 J1 t1 e1 => ?_⟩
  have u1 := u0.trans t1
  refine ⟨(one, other, e), ⟨rfl, rfl, ⟨ev, rfl, dp_same u1 de5⟩, _, rfl, dp_same u1 d5⟩, fun v2 J2 t2 e2 => ?_⟩
  have u2 := u1.trans t2
  refine ⟨(by show 3 ≤ sizeLine; decide), fun pl npl => ?_⟩
  have t3 := same_new (o := .lst [v0, v1, v2]) npl
  have hpl : upd J2 pl (.lst [v0, v1, v2]) pl = some (.lst [v0, v1, v2]) := upd_same
  have npl5 : G2 pl = none := none_of u2 npl
  have u3 := u2.trans t3
  have e0' := dp_same ((t1.trans t2).trans t3) e0
  have e1' := dp_same (t2.trans t3) e1
  have e2' := dp_same t3 e2
  have dt3 : Dp K (upd J2 pl (.lst [v0, v1, v2])) vt (Row.iff (.op "<" (.reg "a") (.reg "b")) [.set one (.reg "b"), .set other (.reg "a")] []).d := dp_same (((t0.trans t1).trans t2).trans t3) d6
  generalize upd J2 pl (.lst [v0, v1, v2]) = J3 at t3 hpl u3 e0' e1' e2' dt3 ⊢
  refine ⟨_, rfl, .inl ⟨rfl, _, .of hpl⟩, (one, other, e), ⟨rfl, rfl, ⟨ev, rfl, dp_same u3 de5⟩, _, rfl, dp_same u3 d5⟩, fun v3 J4 t4 e3 => ?_⟩
  have hpl4 := t4 _ _ hpl
  refine ⟨pl, _, v3, rfl, rfl, hpl4, by rw [sizeLine_eq]; show 3 < 16777216; decide, ?_⟩
  have b5 : But pl J4 (upd J4 pl (.lst ([v0, v1, v2] ++ [v3]))) := But.upd
  have hpl5 : upd J4 pl (.lst ([v0, v1, v2] ++ [v3])) pl = some (.lst [v0, v1, v2, v3]) := upd_same
  have u5 : Same G2 (upd J4 pl (.lst ([v0, v1, v2] ++ [v3]))) := fun b o h => b5 _ _ (ne_of_none h npl5) (t4 _ _ (u3 _ _ h))
  have noR : ∀ rs : List Row, NoL (.tuple (rowsD rs)) := fun rs => .tup (rows_noL rs)
  have e0'' : Dp K (upd J4 pl (.lst ([v0, v1, v2] ++ [v3]))) v0 (.tuple (rowsD [.set one (.reg "x")])) := dp_but (.lst hpl4) b5 (dp_same t4 e0') (noR _)
  have e1'' : Dp K (upd J4 pl (.lst ([v0, v1, v2] ++ [v3]))) v1 (.tuple (rowsD [.read "a" one, .ans (.reg "a")])) := dp_but (.lst hpl4) b5 (dp_same t4 e1') (noR [.read "a" one, .ans (.reg "a")])
  have e2'' : Dp K (upd J4 pl (.lst ([v0, v1, v2] ++ [v3]))) v2 (.tuple (rowsD [.read "a" one, .set other (.reg "a"), .set one (.reg "x")])) := dp_but (.lst hpl4) b5 (dp_same t4 e2') (noR [.read "a" one, .set other (.reg "a"), .set one (.reg "x")])
  have e3'' : Dp K (upd J4 pl (.lst ([v0, v1, v2] ++ [v3]))) v3 (.tuple (rowsD [.read "a" one, .set one (.op "+" (.reg "a") (.num 1)), .ans (.op "=" (.reg "a") (.reg "x"))])) := dp_but (.lst hpl4) b5 e3 (noR [.read "a" one, .set one (.op "+" (.reg "a") (.num 1)), .ans (.op "=" (.reg "a") (.reg "x"))])
  have dt5 := dp_but (.lst hpl4) b5 (dp_same t4 dt3) (Row.noL _)
  generalize upd J4 pl (.lst ([v0, v1, v2] ++ [v3])) = J5 at b5 hpl5 u5 e0'' e1'' e2'' e3'' dt5 ⊢
  refine ⟨_, rfl, .inl ⟨rfl, _, .of hpl5⟩, (one, other, e), ⟨rfl, rfl, ⟨ev, rfl, dp_same u5 de5⟩, _, rfl, dp_same u5 d5⟩, fun v4 J6 t6 e4 => ?_⟩
  have hpl6 := t6 _ _ hpl5
  refine ⟨pl, _, v4, rfl, rfl, hpl6, by rw [sizeLine_eq]; show 4 < 16777216; decide, ?_⟩
  have b7 : But pl J6 (upd J6 pl (.lst ([v0, v1, v2, v3] ++ [v4]))) := But.upd
  have hpl7 : upd J6 pl (.lst ([v0, v1, v2, v3] ++ [v4])) pl = some (.lst [v0, v1, v2, v3, v4]) := upd_same
  have u7 : Same G2 (upd J6 pl (.lst ([v0, v1, v2, v3] ++ [v4]))) := fun b o h => b7 _ _ (ne_of_none h npl5) (t6 _ _ (u5 _ _ h))
  have r0 := dp_but (.lst hpl6) b7 (dp_same t6 e0'') (noR _)
  have r1 := dp_but (.lst hpl6) b7 (dp_same t6 e1'') (noR _)
  have r2 := dp_but (.lst hpl6) b7 (dp_same t6 e2'') (noR _)
  have r3 := dp_but (.lst hpl6) b7 (dp_same t6 e3'') (noR _)
  have r4 : Dp K (upd J6 pl (.lst ([v0, v1, v2, v3] ++ [v4]))) v4 (.tuple (rowsD [.swap "b" one (.reg "x") e, .ans (.reg "b")])) := dp_but (.lst hpl6) b7 e4 (noR [.swap "b" one (.reg "x") e, .ans (.reg "b")])
  have dtn : Dp K (upd J6 pl (.lst ([v0, v1, v2, v3] ++ [v4]))) vt (Row.iff (.op "<" (.reg "a") (.reg "b")) [.set one (.reg "b"), .set other (.reg "a")] []).d := dp_but (.lst hpl6) b7 (dp_same t6 dt5) (Row.noL _)
  generalize upd J6 pl (.lst ([v0, v1, v2, v3] ++ [v4])) = J7 at b7 hpl7 u7 r0 r1 r2 r3 r4 dtn ⊢
  refine ⟨_, rfl, _, rfl, _, rfl, (by show 3 ≤ sizeLine; decide), fun tb ntb => ?_⟩
  have w1 := same_new (o := .tup [.str "read", .str "b", .int other]) ntb
  have q1 : Dp K (upd J7 tb (.tup [.str "read", .str "b", .int other])) (.ref tb) (Row.read "b" other).d := .tup (.of upd_same) (.cons (.str _) (.cons (.str _) (.cons (.int _) .nil)))
  generalize upd J7 tb (.tup [.str "read", .str "b", .int other]) = J8 at w1 q1 ⊢
  refine ⟨_, rfl, (by show 3 ≤ sizeLine; decide), fun tc ntc => ?_⟩
  have w2 := same_new (o := .tup [.ref tr, .ref tb, vt]) ntc
  have u8 := u7.trans w1
  have r5 : Dp K (upd J8 tc (.tup [.ref tr, .ref tb, vt])) (.ref tc) (.tuple (rowsD [.read "a" one, .read "b" other, .iff (.op "<" (.reg "a") (.reg "b")) [.set one (.reg "b"), .set other (.reg "a")] []])) := .tup (.of upd_same) (.cons (dp_same (u8.trans w2) d5) (.cons (dp_same w2 q1) (.cons (dp_same (w1.trans w2) dtn) .nil)))
  have u9 := u8.trans w2
  generalize upd J8 tc (.tup [.ref tr, .ref tb, vt]) = J9 at w2 r5 u9 ⊢
  have w12 := w1.trans w2
  refine ⟨(one, other, e), ⟨rfl, rfl, ⟨ev, rfl, dp_same u9 de5⟩, _, rfl, dp_same u9 d5⟩, fun v6 J10 w3 e6 => ⟨(by show 2 ≤ sizeLine; decide), fun l2 nl2 => ?_⟩⟩
  have w4 := same_new (o := .lst [.ref tc, v6]) nl2
  have hl2 : upd J10 l2 (.lst [.ref tc, v6]) l2 = some (.lst [.ref tc, v6]) := upd_same
  have w34 := w3.trans w4
  have w14 := w12.trans w34
  have r6 : Dp K (upd J10 l2 (.lst [.ref tc, v6])) v6 (.tuple (rowsD [.set one e])) := dp_same w4 e6
  generalize upd J10 l2 (.lst [.ref tc, v6]) = J11 at w4 hl2 w34 w14 r6 ⊢
  refine ⟨pl, l2, _, _, rfl, rfl, w14 _ _ hpl7, hl2, by rw [sizeLine_eq]; show 5 + 2 ≤ 16777216; decide, fun p3 np3 => ?_⟩
  have w5 := same_new (o := .lst ([v0, v1, v2, v3, v4] ++ [.ref tc, v6])) np3
  have hp3 : upd J11 p3 (.lst ([v0, v1, v2, v3, v4] ++ [.ref tc, v6])) p3 = some (.lst [v0, v1, v2, v3, v4, .ref tc, v6]) := upd_same
  have w15 := w14.trans w5
  have u12 := u7.trans w15
  have w35 := w34.trans w5
  generalize upd J11 p3 (.lst ([v0, v1, v2, v3, v4] ++ [.ref tc, v6])) = J12 at w5 hp3 w15 u12 w35 ⊢
  have hk : 0 ≤ kind ∧ kind ≤ 6 := ⟨hkind.1, k6⟩
  have : kind = 0 ∨ kind = 1 ∨ kind = 2 ∨ kind = 3 ∨ kind = 4 ∨ kind = 5 ∨ kind = 6 := by omega
  rcases this with rfl | rfl | rfl | rfl | rfl | rfl | rfl
  · exact ⟨_, rfl, _, rfl, _, _, _, _, rfl, rfl, .of hp3, at0, fin v0 J12 _ u12 (dp_same w15 r0) ⟨by decide, ⟨gone, gx⟩, trivial⟩ (Nat.le_of_ble_eq_true rfl) (fun _ => rfl) (Nat.le_of_ble_eq_true rfl) (Nat.le_of_ble_eq_true rfl)⟩
  · exact ⟨_, rfl, _, rfl, _, _, _, _, rfl, rfl, .of hp3, at1, fin v1 J12 _ u12 (dp_same w15 r1) ⟨by decide, ⟨ra, gone⟩, by decide, ga, trivial⟩ (Nat.le_of_ble_eq_true rfl) (fun _ => rfl) (Nat.le_of_ble_eq_true rfl) (Nat.le_of_ble_eq_true rfl)⟩
  · exact ⟨_, rfl, _, rfl, _, _, _, _, rfl, rfl, .of hp3, at2, fin v2 J12 _ u12 (dp_same w15 r2) ⟨by decide, ⟨ra, gone⟩, by decide, ⟨goth, ga⟩, by decide, ⟨gone, gx⟩, trivial⟩ (Nat.le_of_ble_eq_true rfl) (fun _ => rfl) (Nat.le_of_ble_eq_true rfl) (Nat.le_of_ble_eq_true rfl)⟩
  · exact ⟨_, rfl, _, rfl, _, _, _, _, rfl, rfl, .of hp3, at3, fin v3 J12 _ u12 (dp_same w15 r3) ⟨by decide, ⟨ra, gone⟩, by decide, ⟨gone, ga1⟩, by decide, gax, trivial⟩ (Nat.le_of_ble_eq_true rfl) (fun _ => rfl) (Nat.le_of_ble_eq_true rfl) (Nat.le_of_ble_eq_true rfl)⟩
  · exact ⟨_, rfl, _, rfl, _, _, _, _, rfl, rfl, .of hp3, rfl, fin v4 J12 _ u12 (dp_same w15 r4) ⟨by decide, ⟨rb, gone, gx, ge⟩, by decide, gb, trivial⟩ (Nat.le_of_ble_eq_true rfl) (fun _ => rfl) (Nat.le_of_ble_eq_true rfl) (Nat.le_of_ble_eq_true rfl)⟩
  · exact ⟨_, rfl, _, rfl, _, _, _, _, rfl, rfl, .of hp3, rfl, fin (.ref tc) J12 _ u12 (dp_same (w35) r5) ⟨by decide, ⟨ra, gone⟩, by decide, ⟨rb, goth⟩, by decide, ⟨gab, ⟨by decide, ⟨gone, gb⟩, by decide, ⟨goth, ga⟩, trivial⟩, trivial⟩, trivial⟩ (Nat.le_of_ble_eq_true rfl) (fun _ => rfl) (Nat.le_of_ble_eq_true rfl) (Nat.le_of_ble_eq_true rfl)⟩
  · exact ⟨_, rfl, _, rfl, _, _, _, _, rfl, rfl, .of hp3, rfl, fin v6 J12 _ u12 (dp_same w5 r6) ⟨by decide, ⟨gone, ge⟩, trivial⟩ (Nat.le_of_ble_eq_true rfl) (fun _ => rfl) (Nat.le_of_ble_eq_true rfl) (Nat.le_of_ble_eq_true rfl)⟩
end

end M

set_option Elab.async false
set_option linter.all false
set_option maxRecDepth 100000
set_option maxHeartbeats 2000000
namespace M
open PySem PySem.Spec PyProof.Rows L2

theorem rowsD_app (as bs : List Row) : rowsD (as ++ bs) = rowsD as ++ rowsD bs := by rw [rowsD_map, rowsD_map, rowsD_map, List.map_append]
theorem cat_dp {K : PySem.W.Frag} {H : Hp} {x y : V} {ds es : List PyData} (hx : Dp K H x (.tuple ds)) (hy : Dp K H y (.tuple es)) (hl : ds.length + es.length ≤ 100000) {Z : VK} (k : ∀ (v : V) (H' : Hp), Same H H' → Dp K H' v (.tuple (ds ++ es)) → Z v H') : rCatA K x y H Z := by
  obtain ⟨a, xs, rfl, ha, hxs⟩ := dp_tup hx
  obtain ⟨b, ys, rfl, hb, hys⟩ := dp_tup hy
  refine ⟨a, b, xs, ys, rfl, rfl, ha, hb, by rw [dps_len hxs, dps_len hys, sizeLine_eq]; omega, fun e => ?_, fun _ e => ?_, fun _ _ p np => ?_⟩
  · subst e
    cases hxs
    exact k _ _ (Same.refl _) hy
  · subst e
    cases hys
    rw [List.append_nil] at k
    exact k _ _ (Same.refl _) hx
  · exact k _ _ (same_new np) (.tup (.of upd_same) (dps_same (same_new np) (dps_app hxs hys)))
theorem cat_rows {K : PySem.W.Frag} {H : Hp} {x y : V} {as bs : List Row} (hx : Dp K H x (.tuple (rowsD as))) (hy : Dp K H y (.tuple (rowsD bs))) (hl : as.length + bs.length ≤ 100000) {Z : VK} (k : ∀ (v : V) (H' : Hp), Same H H' → Dp K H' v (.tuple (rowsD (as ++ bs))) → Z v H') : rCatA K x y H Z :=
  cat_dp hx hy (by rw [rowsD_map, rowsD_map, List.length_map, List.length_map]; exact hl) fun v H' s d => k v H' s (by rw [rowsD_app]; exact d)
section
variable {P : Program} {w : World} {K : PySem.W.Frag} {mg : Str → Option Value} {base : Heap}
/-- rows that write what the body does not see -/
structure Hid (c coins : Int) (rs : List Row) : Prop where
  ok : rowsOk c 1 0 rs
  cc : rowsCc rs ≤ 1
  c0 : coins ≤ 0 → rowsCc rs = 0
  cl : rowsCl rs ≤ 20
  le : rs.length ≤ 20
def spHide (K : PySem.W.Frag) : Sp := fun vs H Q _ => ∃ (a l : Addr) (style last coins c : Int), vs = [.ref a, .int style, .int last, .int coins] ∧ BoxAt H a l ∧ (0 ≤ last ∧ last < c) ∧ 0 ≤ coins ∧
  ∀ (v : V) (rs : List Row) (H' : Hp), Bx a l H H' → BoxAt H' a l → Dp K H' v (.tuple (rowsD rs)) → Hid c coins rs → Q v H'
theorem ca_l_hide (T : Txt w K mg) : Ca P w K mg base 3 "_law_hide" (spHide K) := by
  refine ca_of (N := ["_law_box_here", "_law_style", "_law_last", "_law_coins", "_law_kind", "_law_toss", "_law_rows_here", "_law_lay"]) (ps := ["_law_box_here", "_law_style", "_law_last", "_law_coins"]) T.f_l_hide T.g_law_hide ⟨rfl, rfl, rfl, by decide +kernel, rfl, by decide +kernel, by decide +kernel⟩ (fun _ _ _ _ _ _ us hl => match us, hl with | [_, _, _, _], _ => rfl)
    (fun vs H Q E h => by obtain ⟨a, l, style, last, coins, c, rfl, hp, hlast, hco, q⟩ := h; rfl) (fun cdv A outer s H vs Q E hr h => ?_)
  have nd : (["_law_box_here", "_law_style", "_law_last", "_law_coins", "_law_kind", "_law_toss", "_law_rows_here", "_law_lay"] : List Str).Nodup := by decide +kernel
  obtain ⟨a, l, style, last, coins, c, rfl, hp, hlast, hco, q⟩ := h
  let C0 : Int → L2.St → Hp → Prop := fun g σ H => σ[2]? = some (some (.int g))
  have h0 : Stg C0 := fun g σ H H' s e => e
  have f2 : ∀ g σ H, C0 g σ H → ∀ Q : VK, (∀ v H', Same H H' → Dp K H' v (.int g) → Q v H') → tVar 2 σ H Q := fun g σ H e1 Q q => ⟨_, e1, q _ H (Same.refl _) (.int _)⟩
  refine ⟨_, (pss_cons (ps_set (i := 4) nd rfl (.inl rfl) (pe_ca (ca_l_draw T) hr (pa_cons (pv 0) (pa_cons pe_int pa_nil))))
      (pss_cons (ps_set (i := 5) nd rfl (.inl rfl) (gd_tup (K := K) (gd_cons h0 (gd_tup (K := K) (gd_cons h0 gd_str (gd_cons h0 gd_str gd_nil))) (gd_cons h0 (gd_tup (K := K) (gd_cons h0 gd_str (gd_cons h0 (gd_of (C := C0) (pv 2) f2) (gd_cons h0 (gd_tup (K := K) (gd_cons h0 gd_str (gd_cons h0 gd_str (gd_cons h0 gd_int gd_nil)))) gd_nil)))) gd_nil))))
      (C8.pss_cut (ps_if (pt_cmpR op_lt (pv 1) pe_int (nomark _)) (pss_one (ps_ret (pe_tup pa_nil))) pss_nil)
      (C8.pss_cut (ps_set (i := 6) nd rfl (.inl rfl) (pe_ix ix_list (pe_lst (pa_cons (gd_tup (K := K) (gd_cons h0 (gd_tup (K := K) (gd_cons h0 gd_str (gd_cons h0 (gd_of (C := C0) (pv 2) f2) (gd_cons h0 gd_str gd_nil)))) gd_nil)) (pa_cons (gd_tup (K := K) (gd_cons h0 (gd_tup (K := K) (gd_cons h0 gd_str (gd_cons h0 gd_str (gd_cons h0 (gd_of (C := C0) (pv 2) f2) gd_nil)))) (gd_cons h0 (gd_tup (K := K) (gd_cons h0 gd_str (gd_cons h0 (gd_of (C := C0) (pv 2) f2) (gd_cons h0 (gd_tup (K := K) (gd_cons h0 gd_str (gd_cons h0 gd_str (gd_cons h0 gd_int gd_nil)))) gd_nil)))) gd_nil))) (pa_cons (gd_tup (K := K) (gd_cons h0 (gd_tup (K := K) (gd_cons h0 gd_str (gd_cons h0 (gd_of (C := C0) (pv 2) f2) (gd_cons h0 gd_int gd_nil)))) gd_nil)) (pa_cons (pe_tup pa_nil) pa_nil))))) (pv 4) (fun _ _ => rfl)))
      (C8.pss_cut (ps_if (PW.pt (pw_and (pt_cmpR op_gt (pv 3) pe_int (nomark _)) (pw_and1 (pt_cmpR op_gt (pv 4) pe_int (nomark _))))) (pss_cons (ps_set (i := 7) nd rfl (.inl rfl) (gd_tup (K := K) (gd_cons h0 (gd_tup (K := K) (gd_cons h0 gd_str (gd_cons h0 gd_str gd_nil))) (gd_cons h0 (gd_tup (K := K) (gd_cons h0 gd_str (gd_cons h0 (gd_of (C := C0) (pv 2) f2) (gd_cons h0 (gd_tup (K := K) (gd_cons h0 gd_str (gd_cons h0 gd_str (gd_cons h0 gd_int gd_nil)))) gd_nil)))) gd_nil))))
      (pss_one (ps_set (i := 6) nd rfl (.inl rfl) (pe_ix ix_list (pe_lst (pa_cons (pv 5) (pa_cons (pe_tup (pa_cons (gd_tup (K := K) (gd_cons h0 gd_str (gd_cons h0 gd_str (gd_cons h0 (gd_of (C := C0) (pv 2) f2) gd_nil)))) (pa_cons (pe_tup (pa_cons pe_str (pa_cons pe_str (pa_cons (pe_tup pa_nil) (pa_cons (pv 7) pa_nil))))) pa_nil))) pa_nil))) (pe_op op_sub (pv 4) pe_int) (fun _ _ => rfl))))) pss_nil)
      (C8.pss_cut (ps_if (pt_cmpR op_eq (pv 1) pe_int (nomark _)) (pss_one (ps_set (i := 6) nd rfl (.inl rfl) (pe_ix ix_list (pe_lst (pa_cons (pe_tup pa_nil) (pa_cons (pe_op op_catA (gd_tup (K := K) (gd_cons h0 (gd_tup (K := K) (gd_cons h0 gd_str (gd_cons h0 gd_int (gd_cons h0 gd_int gd_nil)))) gd_nil)) (pv 5)) pa_nil))) (pe_callB (call_min2 rfl) (by rfl) T.b_min boot_min (pa_cons (pv 3) (pa_cons pe_int pa_nil))) (fun _ _ => rfl)))) pss_nil)
      (pss_one (ps_ret (pe_op op_catA (pv 6) (gd_tup (K := K) (gd_cons h0 (gd_tup (K := K) (gd_cons h0 gd_str (gd_cons h0 gd_str (gd_cons h0 gd_int gd_nil)))) (gd_cons h0 (gd_tup (K := K) (gd_cons h0 gd_str (gd_cons h0 gd_str (gd_cons h0 gd_int gd_nil)))) gd_nil)))))))))))), ?_⟩
  refine ⟨_, rfl, a, l, 4, rfl, hp, by omega, fun kind H1 b1 p1 hkind => ?_⟩
  refine ⟨last, rfl, fun vt H2 s2 d2 => ?_⟩
  have rc : ("c" : Str) ∈ regs4 := by decide +kernel
  have rd : ("d" : Str) ∈ regs4 := by decide +kernel
  have xc : ("c" : Str) ∈ regs5 := by decide +kernel
  have xd : ("d" : Str) ∈ regs5 := by decide +kernel
  have sp : ("+" : Str) ∈ signs := by decide +kernel
  have z0 : (0 : Nat) ≤ 6 := by decide
  have z1 : (1 : Nat) ≤ 6 := by decide
  have gx : Exp.good (.reg "x") := ⟨in_x, z0⟩
  have gc : Exp.good (.reg "c") := ⟨xc, z0⟩
  have g0 : Exp.good (.num 0) := ⟨(by show (0 : Int) ≤ 0 ∧ (0 : Int) ≤ 9; decide), z0⟩
  have g1 : Exp.good (.num 1) := ⟨(by show (0 : Int) ≤ 1 ∧ (1 : Int) ≤ 9; decide), z0⟩
  have gd0 : Exp.good (.op "+" (.reg "d") (.num 0)) := ⟨⟨sp, xd, g0.1⟩, z1⟩
  have gd1 : Exp.good (.op "+" (.reg "d") (.num 1)) := ⟨⟨sp, xd, g1.1⟩, z1⟩
  have d2 : Dp K H2 vt (.tuple (rowsD [.coin "d", .set last (.op "+" (.reg "d") (.num 0))])) := d2
  let Mid : L2.St → Hp → Prop := fun σ' G => ∃ (v : V) (rs : List Row) (x7 : Option V), σ' = [some (.ref a), some (.int style), some (.int last), some (.int coins), some (.int kind), some vt, some v, x7] ∧ Same H2 G ∧ Dp K G v (.tuple (rowsD rs)) ∧ Hid c coins rs ∧ rs.length ≤ 4 ∧ rowsCl rs ≤ 6
  refine ⟨fun σ' G => σ' = [some (.ref a), some (.int style), some (.int last), some (.int coins), some (.int kind), some vt, none, none] ∧ G = H2, ?_, ?_⟩
  · refine ⟨_, rfl, _, _, rfl, rfl, _, rfl, ?_⟩
    by_cases c2 : style < 2
    · rw [decide_eq_true c2]
      refine iteT ⟨(by show 0 ≤ sizeLine; exact Nat.zero_le _), fun t nt => ?_⟩
      have s3 := same_new (o := .tup []) nt
      exact q _ [] _ (b1.trans (Same.bx (s2.trans s3))) (p1.same (s2.trans s3)) (.tup (.of upd_same) .nil) ⟨trivial, Nat.zero_le _, fun _ => rfl, Nat.zero_le _, Nat.zero_le _⟩
    · rw [decide_eq_false c2]
      exact iteF ⟨rfl, rfl⟩
  rintro σ1 G1 ⟨rfl, rfl⟩
  refine ⟨Mid, ?_, ?_⟩
  · refine ⟨last, rfl, fun v0 J0 t0 e0 => ⟨last, rfl, fun v1 J1 t1 e1 => ⟨last, rfl, fun v2 J2 t2 e2 => ⟨(by show 0 ≤ sizeLine; exact Nat.zero_le _), fun te nte => ?_⟩⟩⟩⟩
    have t3 := same_new (o := .tup []) nte
    have he : Dp K (upd J2 te (.tup [])) (.ref te) (.tuple (rowsD [])) := .tup (.of upd_same) .nil
    generalize upd J2 te (.tup []) = J3 at t3 he ⊢
    refine ⟨(by show 4 ≤ sizeLine; decide), fun ls nls => ?_⟩
    have t4 := same_new (o := .lst [v0, v1, v2, .ref te]) nls
    have hls : upd J3 ls (.lst [v0, v1, v2, .ref te]) ls = some (.lst [v0, v1, v2, .ref te]) := upd_same
    generalize upd J3 ls (.lst [v0, v1, v2, .ref te]) = J4 at t4 hls ⊢
    have u4 := (((t0.trans t1).trans t2).trans t3).trans t4
    have r0 : Dp K J4 v0 (.tuple (rowsD [.set last (.reg "x")])) := dp_same (((t1.trans t2).trans t3).trans t4) e0
    have r1 : Dp K J4 v1 (.tuple (rowsD [.read "d" last, .set last (.op "+" (.reg "d") (.num 1))])) := dp_same ((t2.trans t3).trans t4) e1
    have r2 : Dp K J4 v2 (.tuple (rowsD [.set last (.num 0)])) := dp_same (t3.trans t4) e2
    have r3 := dp_same t4 he
    have : kind = 0 ∨ kind = 1 ∨ kind = 2 ∨ kind = 3 := by omega
    rcases this with rfl | rfl | rfl | rfl
    · exact ⟨_, rfl, _, _, _, _, rfl, rfl, .of hls, at0, _, _, _, rfl, u4, r0, ⟨⟨by decide, ⟨hlast, gx⟩, trivial⟩, Nat.le_of_ble_eq_true rfl, fun _ => rfl, Nat.le_of_ble_eq_true rfl, Nat.le_of_ble_eq_true rfl⟩, Nat.le_of_ble_eq_true rfl, Nat.le_of_ble_eq_true rfl⟩
    · exact ⟨_, rfl, _, _, _, _, rfl, rfl, .of hls, at1, _, _, _, rfl, u4, r1, ⟨⟨by decide, ⟨rd, hlast⟩, by decide, ⟨hlast, gd1⟩, trivial⟩, Nat.le_of_ble_eq_true rfl, fun _ => rfl, Nat.le_of_ble_eq_true rfl, Nat.le_of_ble_eq_true rfl⟩, Nat.le_of_ble_eq_true rfl, Nat.le_of_ble_eq_true rfl⟩
    · exact ⟨_, rfl, _, _, _, _, rfl, rfl, .of hls, at2, _, _, _, rfl, u4, r2, ⟨⟨by decide, ⟨hlast, g0⟩, trivial⟩, Nat.le_of_ble_eq_true rfl, fun _ => rfl, Nat.le_of_ble_eq_true rfl, Nat.le_of_ble_eq_true rfl⟩, Nat.le_of_ble_eq_true rfl, Nat.le_of_ble_eq_true rfl⟩
    · exact ⟨_, rfl, _, _, _, _, rfl, rfl, .of hls, at3, _, [], _, rfl, u4, r3, ⟨trivial, Nat.le_of_ble_eq_true rfl, fun _ => rfl, Nat.le_of_ble_eq_true rfl, Nat.le_of_ble_eq_true rfl⟩, Nat.le_of_ble_eq_true rfl, Nat.le_of_ble_eq_true rfl⟩
  rintro σ2 G2 ⟨v2, rs2, x7, rfl, s3, e3, h3, n3, m3⟩
  refine ⟨Mid, ?_, ?_⟩
  · have keep : Mid [some (.ref a), some (.int style), some (.int last), some (.int coins), some (.int kind), some vt, some v2, x7] G2 := ⟨v2, rs2, x7, rfl, s3, e3, h3, n3, m3⟩
    refine ⟨_, rfl, _, _, rfl, rfl, _, rfl, ?_⟩
    by_cases cc : 0 < coins
    · rw [decide_eq_true cc]
      refine iteT ⟨_, rfl, _, _, rfl, rfl, _, rfl, ?_⟩
      by_cases ck : 1 < kind
      · rw [decide_eq_true ck]
        refine iteT ⟨last, rfl, fun vl J0 t0 el => ?_⟩
        refine ⟨_, rfl, last, rfl, fun vr J1 t1 er => ⟨(by show 0 ≤ sizeLine; exact Nat.zero_le _), fun te nte => ?_⟩⟩
        have t2 := same_new (o := .tup []) nte
        have he : Dp K (upd J1 te (.tup [])) (.ref te) (.tuple (rowsD [])) := .tup (.of upd_same) .nil
        generalize upd J1 te (.tup []) = J2 at t2 he ⊢
        refine ⟨_, rfl, (by show 4 ≤ sizeLine; decide), fun ti nti => ?_⟩
        have t3 := same_new (o := .tup [.str "if", .str "c", .ref te, vl]) nti
        have el : Dp K J0 vl (.tuple (rowsD [.coin "d", .set last (.op "+" (.reg "d") (.num 1))])) := el
        have hif : Dp K (upd J2 ti (.tup [.str "if", .str "c", .ref te, vl])) (.ref ti) (Row.iff (.reg "c") [] [.coin "d", .set last (.op "+" (.reg "d") (.num 1))]).d := .tup (.of upd_same) (.cons (.str _) (.cons (.str _) (.cons (dp_same t3 he) (.cons (dp_same ((t1.trans t2).trans t3) el) .nil))))
        generalize upd J2 ti (.tup [.str "if", .str "c", .ref te, vl]) = J3 at t3 hif ⊢
        refine ⟨(by show 2 ≤ sizeLine; decide), fun tt ntt => ?_⟩
        have t4 := same_new (o := .tup [vr, .ref ti]) ntt
        have er : Dp K J1 vr (Row.read "c" last).d := er
        have htt : Dp K (upd J3 tt (.tup [vr, .ref ti])) (.ref tt) (.tuple (rowsD [.read "c" last, .iff (.reg "c") [] [.coin "d", .set last (.op "+" (.reg "d") (.num 1))]])) := .tup (.of upd_same) (.cons (dp_same ((t2.trans t3).trans t4) er) (.cons (dp_same t4 hif) .nil))
        generalize upd J3 tt (.tup [vr, .ref ti]) = J4 at t4 htt ⊢
        refine ⟨(by show 2 ≤ sizeLine; decide), fun ls nls => ?_⟩
        have t5 := same_new (o := .lst [vt, .ref tt]) nls
        have hls : upd J4 ls (.lst [vt, .ref tt]) ls = some (.lst [vt, .ref tt]) := upd_same
        generalize upd J4 ls (.lst [vt, .ref tt]) = J5 at t5 hls ⊢
        have u5 := s3.trans ((((t0.trans t1).trans t2).trans t3).trans (t4.trans t5))
        have : kind = 2 ∨ kind = 3 := by omega
        rcases this with rfl | rfl
        · exact ⟨_, rfl, _, _, rfl, rfl, _, _, _, _, rfl, rfl, .of hls, at0, vt, [.coin "d", .set last (.op "+" (.reg "d") (.num 0))], _, rfl, u5, dp_same u5 d2, ⟨⟨by decide, ⟨rd, rfl⟩, by decide, ⟨hlast, gd0⟩, trivial⟩, Nat.le_of_ble_eq_true rfl, fun h => by omega, Nat.le_of_ble_eq_true rfl, Nat.le_of_ble_eq_true rfl⟩, Nat.le_of_ble_eq_true rfl, Nat.le_of_ble_eq_true rfl⟩
        · exact ⟨_, rfl, _, _, rfl, rfl, _, _, _, _, rfl, rfl, .of hls, at1, .ref tt, [.read "c" last, .iff (.reg "c") [] [.coin "d", .set last (.op "+" (.reg "d") (.num 1))]], _, rfl, u5, dp_same t5 htt, ⟨⟨by decide, ⟨rc, hlast⟩, by decide, ⟨gc, trivial, ⟨by decide, ⟨rd, rfl⟩, by decide, ⟨hlast, gd1⟩, trivial⟩⟩, trivial⟩, Nat.le_of_ble_eq_true rfl, fun h => by omega, Nat.le_of_ble_eq_true rfl, Nat.le_of_ble_eq_true rfl⟩, Nat.le_of_ble_eq_true rfl, Nat.le_of_ble_eq_true rfl⟩
      · rw [decide_eq_false ck]
        exact iteF keep
    · rw [decide_eq_false cc]
      exact iteF (iteF keep)
  rintro σ3 G3 ⟨v3, rs3, x8, rfl, s4, e4, h4, n4, m4⟩
  refine ⟨Mid, ?_, ?_⟩
  · refine ⟨_, rfl, rfl, _, rfl, ?_⟩
    by_cases k3 : style = 3
    · rw [decide_eq_true (show V.int style = V.int 3 from congrArg V.int k3)]
      refine iteT ⟨(by show 0 ≤ sizeLine; exact Nat.zero_le _), fun te nte => ?_⟩
      have t2 := same_new (o := .tup []) nte
      have he : Dp K (upd G3 te (.tup [])) (.ref te) (.tuple (rowsD [])) := .tup (.of upd_same) .nil
      generalize upd G3 te (.tup []) = J2 at t2 he ⊢
      refine ⟨last, rfl, fun vs J3 t3 es => ⟨_, rfl, ?_⟩⟩
      have es : Dp K J3 vs (.tuple (rowsD [.set 0 (.num 1)])) := es
      have u3 := s4.trans (t2.trans t3)
      refine cat_rows es (dp_same u3 d2) (by show 1 + 2 ≤ 100000; decide) fun w J4 t4 ew => ?_
      refine ⟨(by show 2 ≤ sizeLine; decide), fun ls nls => ?_⟩
      have t5 := same_new (o := .lst [.ref te, w]) nls
      have hls : upd J4 ls (.lst [.ref te, w]) ls = some (.lst [.ref te, w]) := upd_same
      generalize upd J4 ls (.lst [.ref te, w]) = J5 at t5 hls ⊢
      have u5 := u3.trans (t4.trans t5)
      refine ⟨_, rfl, _, _, rfl, ?_⟩
      by_cases c0 : coins = 0
      · subst c0
        exact ⟨_, _, _, _, rfl, rfl, .of hls, at0, .ref te, [], _, rfl, u5, dp_same ((t3.trans t4).trans t5) he, ⟨trivial, Nat.le_of_ble_eq_true rfl, fun _ => rfl, Nat.le_of_ble_eq_true rfl, Nat.le_of_ble_eq_true rfl⟩, Nat.le_of_ble_eq_true rfl, Nat.le_of_ble_eq_true rfl⟩
      · have e1 : (if (1 : Int) < coins then 1 else coins) = 1 := by split <;> omega
        rw [e1]
        exact ⟨_, _, _, _, rfl, rfl, .of hls, at1, w, [.set 0 (.num 1), .coin "d", .set last (.op "+" (.reg "d") (.num 0))], _, rfl, u5, dp_same t5 ew, ⟨⟨by decide, ⟨⟨Int.le_refl 0, by omega⟩, g1⟩, by decide, ⟨rd, rfl⟩, by decide, ⟨hlast, gd0⟩, trivial⟩, Nat.le_of_ble_eq_true rfl, fun h => by omega, Nat.le_of_ble_eq_true rfl, Nat.le_of_ble_eq_true rfl⟩, Nat.le_of_ble_eq_true rfl, Nat.le_of_ble_eq_true rfl⟩
    · rw [decide_eq_false (show ¬ V.int style = V.int 3 from fun z => k3 (V.int.inj z))]
      exact iteF ⟨v3, rs3, x8, rfl, s4, e4, h4, n4, m4⟩
  rintro σ4 G4 ⟨v4, rs4, x9, rfl, s5, e5, h5, n5, m5⟩
  refine ⟨_, rfl, last, rfl, fun vk J t ek => ?_⟩
  have ek : Dp K J vk (.tuple (rowsD [.keep "c" (.num 0), .keep "d" (.num 0)])) := ek
  refine cat_rows (dp_same t e5) ek (by show rs4.length + 2 ≤ 100000; omega) fun w J2 t2 d => ?_
  refine q w _ J2 (b1.trans (Same.bx (((s2.trans s5).trans t).trans t2))) (p1.same (((s2.trans s5).trans t).trans t2)) d ⟨ok_app h5.ok ⟨by decide, ⟨rc, g0⟩, by decide, ⟨rd, g0⟩, trivial⟩, ?_, fun h => ?_, ?_, ?_⟩
  · rw [cc_app]
    exact h5.cc
  · rw [cc_app, h5.c0 h]
    rfl
  · rw [cl_app]
    show rowsCl rs4 + 2 ≤ 20
    omega
  · rw [List.length_append]
    show rs4.length + 2 ≤ 20
    omega
end

end M

set_option Elab.async false
set_option linter.all false
set_option maxRecDepth 100000
set_option maxHeartbeats 2000000
namespace M
open PySem PySem.Spec PyProof.Rows L2

/-- the calls of some deeds, in their order -/
def callsOf (ds : List (Str × Int × List Row)) : List (Str × Int) := ds.flatMap fun d => (List.range d.2.1.toNat).map fun (j : Nat) => (d.1, (j : Int))
theorem callsOf_more {ds : List (Str × Int × List Row)} {i : Nat} {d : Str × Int × List Row} (h : ds[i]? = some d) : callsOf (ds.take (i + 1)) = callsOf (ds.take i) ++ (List.range d.2.1.toNat).map fun (j : Nat) => (d.1, (j : Int)) := by
  rw [take_more h]
  unfold callsOf
  rw [List.flatMap_append]
  congr 1
  exact List.append_nil _
theorem callsOf_len {ds : List (Str × Int × List Row)} (h : ∀ d ∈ ds, d.2.1 ≤ 9) : (callsOf ds).length ≤ 9 * ds.length := by
  induction ds with
  | nil => exact Nat.le_refl 0
  | cons d r ih =>
    have := ih fun e he => h e (List.mem_cons_of_mem _ he)
    have h9 := h d List.mem_cons_self
    show ((List.range d.2.1.toNat).map _ ++ callsOf r).length ≤ 9 * (r.length + 1)
    rw [List.length_append, List.length_map, List.length_range]
    omega
section
variable {P : Program} {w : World} {K : PySem.W.Frag} {mg : Str → Option Value} {base : Heap}
/-- the shape of a vault as the law holds it -/
structure ShpAt (K : PySem.W.Frag) (H : Hp) (s : Addr) (v : Vlt) : Prop where
  at' : ∃ (ca da : Addr) (cxs dxs : List V), SqT K H s [.ref ca, .ref da] ∧ SqT K H ca cxs ∧ DpAll K H cxs (v.cells.map cellD) ∧ SqT K H da dxs ∧ DpAll K H dxs (v.deeds.map deedD)
theorem ShpAt.same {H H' : Hp} {s : Addr} {v : Vlt} (e : Same H H') (h : ShpAt K H s v) : ShpAt K H' s v := by
  obtain ⟨ca, da, cxs, dxs, h1, h2, h3, h4, h5⟩ := h.at'
  exact ⟨ca, da, cxs, dxs, same_t e h1, same_t e h2, dps_same e h3, same_t e h4, dps_same e h5⟩
def spCallsS (K : PySem.W.Frag) : Sp := fun vs H Q _ => ∃ (s : Addr) (v : Vlt), vs = [.ref s] ∧ ShpAt K H s v ∧ v.deeds.length ≤ 8 ∧ (∀ d ∈ v.deeds, 1 ≤ d.2.1 ∧ d.2.1 ≤ 9) ∧
  ∀ (l : Addr) (ys : List V) (H' : Hp), Same H H' → H l = none → H' l = some (.lst ys) → TupsAt H' ys v.calls → Q (.ref l) H'
theorem ca_l_calls (T : Txt w K mg) : Ca P w K mg base 1 "_law_calls" (spCallsS K) := by
  refine ca_of (N := ["_law_shape", "_law_calls_here", "_law_deed", "_law_k"]) (ps := ["_law_shape"]) T.f_l_calls T.g_law_calls ⟨rfl, rfl, rfl, by decide +kernel, rfl, by decide +kernel, by decide +kernel⟩ (fun _ _ _ _ _ _ us hl => match us, hl with | [_], _ => rfl)
    (fun vs H Q E h => by obtain ⟨s, v, rfl, hs, hl8, hch, q⟩ := h; rfl) (fun cdv A outer s H vs Q E hr h => ?_)
  have nd : (["_law_shape", "_law_calls_here", "_law_deed", "_law_k"] : List Str).Nodup := by decide +kernel
  obtain ⟨s, v, rfl, hs, hl8, hch, q⟩ := h
  refine ⟨_, (pss_cons (ps_set (i := 1) nd rfl (.inl rfl) (pe_lst pa_nil))
      (pss_cons (ps_for PassesOwn.never rfl (pi_tup (pe_ix ix_tup (pv 0) pe_int (fun _ _ => rfl))) (pg_name (i := 2) nd rfl (.inl rfl)) (pss_one (ps_for PassesOwn.never rfl (pi_range1 rfl T.b_range (pa_cons (pe_ix ix_tup (pv 2) pe_int (fun _ _ => rfl)) pa_nil)) (pg_name (i := 3) nd rfl (.inl rfl)) (pss_one (ps_expr (pe_bm PySem.F.plainAttrs_list PySem.F.slot_list_append PySem.F.type_list_append mt_append (pv 1) (pa_cons (pe_tup (pa_cons (pe_ix ix_tup (pv 2) pe_int (fun _ _ => rfl)) (pa_cons (pv 3) pa_nil))) pa_nil)))))))
      (pss_one (ps_ret (pv 1))))), ?_⟩
  obtain ⟨ca, da, cxs, xs, hsq, hca, hcx, ha, hxs⟩ := hs.at'
  have lxs : xs.length = v.deeds.length := by rw [dps_len hxs, List.length_map]
  refine ⟨(by show 0 ≤ sizeLine; exact Nat.zero_le _), fun l nl => ?_⟩
  have s0 : Same H (upd H l (.lst [])) := same_new nl
  refine ⟨_, rfl, _, _, _, _, rfl, rfl, same_t s0 hsq, at1, da, rfl, ⟨_, same_t s0 ha⟩, for_tup (xs := xs) (fun i σ' H' => ∃ (x y : Option V) (ys : List V), σ' = [some (.ref s), some (.ref l), x, y] ∧ Same H H' ∧ H' l = some (.lst ys) ∧ TupsAt H' ys (callsOf (v.deeds.take i))) ⟨none, none, [], rfl, s0, upd_same, trivial⟩ (fun i σ' H' _ ⟨_, _, _, _, s, _⟩ => same_t s ha) ?_ ?_⟩
  · rintro i x σ' H' hx ⟨_, _, ys, rfl, s1, hl, hys⟩
    obtain ⟨dd, hdd, hxd⟩ := dps_get hxs hx
    obtain ⟨d, hd, rfl⟩ := get_mapA hdd
    have hmem := List.mem_of_getElem? hd
    have hi : i < v.deeds.length := (List.getElem?_eq_some_iff.mp hd).1
    obtain ⟨t, x1, x2, x3, rfl, ht, e1, e2, e3⟩ := dp3 hxd
    cases dp_str e1
    cases dp_int e2
    have c9 := hch d hmem
    have lt : (callsOf (v.deeds.take i)).length ≤ 72 := by
      have := callsOf_len (ds := v.deeds.take i) fun e he => (hch e (List.mem_of_mem_take he)).2
      rw [List.length_take] at this
      omega
    refine ⟨_, rfl, _, _, _, _, rfl, rfl, same_t s1 ht, at1, d.2.1, rfl, by omega, by omega, for_it (n := d.2.1.toNat) walk_range (fun j σ' H2 => ∃ (y : Option V) (ys : List V), σ' = [some (.ref s), some (.ref l), some (.ref t), y] ∧ Same H H2 ∧ H2 l = some (.lst ys) ∧ TupsAt H2 ys (callsOf (v.deeds.take i) ++ (List.range j).map fun (j : Nat) => (d.1, (j : Int)))) ⟨_, ys, rfl, s1, hl, by rw [List.range_zero, List.map_nil, List.append_nil]; exact hys⟩ (fun _ _ _ _ _ => trivial) ?_ ?_⟩
    · rintro j z σ' H0 H2 hj ⟨_, ys2, rfl, s2, hl2, hys2⟩ ⟨rfl, rfl⟩
      have ly := tups_len hys2
      rw [List.length_append, List.length_map, List.length_range] at ly
      refine ⟨_, rfl, .inl ⟨rfl, _, .of hl2⟩, _, rfl, _, _, _, _, rfl, rfl, same_t s2 ht, at0, _, rfl, (by show 2 ≤ sizeLine; decide), fun u nu => ?_⟩
      have ej : (0 : Int) + (j : Int) = ((j : Nat) : Int) := by omega
      have s3 := same_new (o := .tup [.str d.1, .int (0 + (j : Int))]) nu
      have hl3 := s3 _ _ hl2
      have hu3 : upd H2 u (.tup [.str d.1, .int (0 + (j : Int))]) u = some (.tup [.str d.1, .int (j : Nat)]) := by rw [upd_same, ej]
      have hy3 := tups_same s3 hys2
      have s23 := s2.trans s3
      generalize upd H2 u (.tup [.str d.1, .int (0 + (j : Int))]) = H3 at s3 hl3 hu3 hy3 s23 ⊢
      have bb : But l H3 (upd H3 l (.lst (ys2 ++ [.ref u]))) := But.upd
      refine ⟨l, ys2, _, rfl, rfl, hl3, by rw [sizeLine_eq]; omega, _, ys2 ++ [.ref u], rfl, fun b o e => bb _ _ (ne_of_none e nl) (s23 _ _ e), upd_same, ?_⟩
      rw [range_more, List.map_append, ← List.append_assoc]
      exact tups_but (.lst hl3) bb (tups_snoc (c := (d.1, ((j : Nat) : Int))) hu3 hy3)
    · rintro σ' H2 ⟨_, ys2, rfl, s2, hl2, hys2⟩
      refine ⟨_, _, ys2, rfl, s2, hl2, ?_⟩
      rw [callsOf_more hd]
      exact hys2
  · rintro σ' H' ⟨_, _, ys, rfl, s1, hl, hys⟩
    rw [lxs, List.take_length] at hys
    exact ⟨_, rfl, q l ys H' s1 nl hl hys⟩
end

end M

set_option Elab.async false
set_option linter.all false
set_option maxRecDepth 100000
set_option maxHeartbeats 2000000
namespace M
open PySem PySem.Spec PyProof.Rows L2

section
variable {P : Program} {w : World} {K : PySem.W.Frag} {mg : Str → Option Value} {base : Heap}
theorem begunC_at {v : Vlt} {hs : List Int} {i : Nat} {c : Int × Int} {h : Int} (e1 : v.cells[i]? = some c) (e2 : hs[i]? = some h) : (begunC v hs)[i]? = some (c.1, h) := by
  unfold begunC
  rw [List.getElem?_zip_eq_some]
  exact ⟨by rw [List.getElem?_map, e1]; rfl, e2⟩
theorem begunC_len {v : Vlt} {hs : List Int} (so : StateOk (v.cells.map (·.1)) hs) : (begunC v hs).length = hs.length := by
  unfold begunC
  rw [List.length_zip, so.1, Nat.min_self]
def spBegunS (K : PySem.W.Frag) : Sp := fun vs H Q _ => ∃ (s b : Addr) (v : Vlt) (hs : List Int), vs = [.ref s, .ref b] ∧ ShpAt K H s v ∧ SqT K H b (hs.map .int) ∧ StateOk (v.cells.map (·.1)) hs ∧ hs.length ≤ 6 ∧ ∀ (z : Addr) (H' : Hp), Same H H' → ShpAt K H' z ⟨begunC v hs, v.deeds⟩ → Q (.ref z) H'
theorem ca_l_begun (T : Txt w K mg) : Ca P w K mg base 1 "_law_begun" (spBegunS K) := by
  refine ca_of (N := ["_law_shape", "_law_state", "_law_cells", "_law_k"]) (ps := ["_law_shape", "_law_state"]) T.f_l_begun T.g_law_begun ⟨rfl, rfl, rfl, by decide +kernel, rfl, by decide +kernel, by decide +kernel⟩ (fun _ _ _ _ _ _ us hl => match us, hl with | [_, _], _ => rfl)
    (fun vs H Q E h => by obtain ⟨s, b, v, hs, rfl, hsh, hb, so, l6, q⟩ := h; rfl) (fun cdv A outer s H vs Q E hr h => ?_)
  have nd : (["_law_shape", "_law_state", "_law_cells", "_law_k"] : List Str).Nodup := by decide +kernel
  obtain ⟨s, b, v, hs, rfl, hsh, hb, so, l6, q⟩ := h
  refine ⟨_, (pss_cons (ps_set (i := 2) nd rfl (.inl rfl) (pe_lst pa_nil))
      (pss_cons (ps_for PassesOwn.never rfl (pi_range1 rfl T.b_range (pa_cons (pe_callB call_len_seq (by rfl) T.b_len PySem.boot_len (pa_cons (pv 1) pa_nil)) pa_nil)) (pg_name (i := 3) nd rfl (.inl rfl)) (pss_one (ps_expr (pe_bm PySem.F.plainAttrs_list PySem.F.slot_list_append PySem.F.type_list_append mt_append (pv 2) (pa_cons (pe_tup (pa_cons (pe_ix ix_tup (pe_ix ix_tup (pe_ix ix_tup (pv 0) pe_int (fun _ _ => rfl)) (pv 3) (fun _ _ => rfl)) pe_int (fun _ _ => rfl)) (pa_cons (pe_ix ix_tup (pv 1) (pv 3) (fun _ _ => rfl)) pa_nil))) pa_nil)))))
      (pss_one (ps_ret (pe_tup (pa_cons (pe_tupleOf (by rfl) T.b_tuple (pv 2)) (pa_cons (pe_ix ix_tup (pv 0) pe_int (fun _ _ => rfl)) pa_nil))))))), ?_⟩
  obtain ⟨ca, da, cxs, dxs, hsq, hca, hcx, hda, hdx⟩ := hsh.at'
  have lc : v.cells.length = hs.length := by have := so.1; rw [List.length_map] at this; exact this
  refine ⟨(by show 0 ≤ sizeLine; exact Nat.zero_le _), fun l nl => ?_⟩
  have s0 : Same H (upd H l (.lst [])) := same_new nl
  refine ⟨_, rfl, b, _, rfl, .inr (same_t s0 hb), _, rfl, by rw [List.length_map]; omega, by rw [List.length_map]; omega, for_it (n := (((hs.map V.int).length : Nat) : Int).toNat) walk_range (fun i σ' H' => ∃ (x : Option V) (ys : List V), σ' = [some (.ref s), some (.ref b), some (.ref l), x] ∧ Same H H' ∧ H' l = some (.lst ys) ∧ DpAll K H' ys (((begunC v hs).take i).map cellD)) ⟨none, [], rfl, s0, upd_same, .nil⟩ (fun _ _ _ _ _ => trivial) ?_ ?_⟩
  · rintro i x σ' Hz H' hi ⟨_, ys, rfl, s1, hl, hys⟩ ⟨rfl, rfl⟩
    have hi2 : i < hs.length := by rw [List.length_map] at hi; omega
    have ei : (0 : Int) + (i : Int) = ((i : Nat) : Int) := by omega
    obtain ⟨h, hh⟩ : ∃ h, hs[i]? = some h := ⟨_, List.getElem?_eq_getElem hi2⟩
    obtain ⟨c, hc⟩ : ∃ c, v.cells[i]? = some c := ⟨_, List.getElem?_eq_getElem (by omega)⟩
    obtain ⟨cv, hcv, dcv⟩ := dps_at (i := i) hcx (d := cellD c) (by rw [List.getElem?_map, hc]; rfl)
    obtain ⟨ct, y1, y2, rfl, hct, g1, g2⟩ := dp2 (dp_same s1 dcv)
    cases dp_int g1
    have at1' : atI cxs (0 + (i : Int)) = some (.ref ct) := by rw [ei]; exact atI_nat hcv
    have at2' : atI (hs.map V.int) (0 + (i : Int)) = some (.int h) := by rw [ei]; exact atI_nat (by rw [List.getElem?_map, hh]; rfl)
    have lys : ys.length ≤ 6 := by
      rw [dps_len hys, List.length_map, List.length_take]
      omega
    refine ⟨_, rfl, .inl ⟨rfl, _, .of hl⟩, _, rfl, _, _, _, _, rfl, rfl, same_t s1 hsq, at0, _, rfl, _, _, _, _, rfl, rfl, same_t s1 hca, at1', _, _, _, _, rfl, rfl, hct, at0, _, rfl, _, rfl, _, _, _, _, rfl, rfl, same_t s1 hb, at2', (by show 2 ≤ sizeLine; decide), fun u nu => ?_⟩
    have s3 := same_new (o := .tup [.int c.1, .int h]) nu
    have hl3 := s3 _ _ hl
    have d3 : Dp K (upd H' u (.tup [.int c.1, .int h])) (.ref u) (cellD (c.1, h)) := .tup (.of upd_same) (.cons (.int _) (.cons (.int _) .nil))
    have hy3 := dps_same s3 hys
    have s13 := s1.trans s3
    generalize upd H' u (.tup [.int c.1, .int h]) = H3 at s3 hl3 d3 hy3 s13 ⊢
    have bb : But l H3 (upd H3 l (.lst (ys ++ [.ref u]))) := But.upd
    have cn : ∀ cs : List (Int × Int), ∀ d ∈ cs.map cellD, NoL d := fun cs d hd => by
      obtain ⟨c, _, rfl⟩ := List.mem_map.mp hd
      exact cell_noL c
    refine ⟨l, ys, _, rfl, rfl, hl3, by rw [sizeLine_eq]; omega, _, ys ++ [.ref u], rfl, fun b o e => bb _ _ (ne_of_none e nl) (s13 _ _ e), upd_same, ?_⟩
    rw [take_more (begunC_at hc hh), List.map_append]
    exact dps_app (dps_but (.lst hl3) bb hy3 (cn _)) (.cons (dp_but (.lst hl3) bb d3 (cell_noL _)) .nil)
  · rintro σ' H' ⟨_, ys, rfl, s1, hl, hys⟩
    have el : (((hs.map V.int).length : Nat) : Int).toNat = (begunC v hs).length := by rw [begunC_len so, List.length_map]; exact Int.toNat_natCast _
    rw [el, List.take_length] at hys
    refine ⟨_, rfl, .inl ⟨l, ys, rfl, .of hl, fun t nt => ?_⟩⟩
    have s2 := same_new (o := .tup ys) nt
    have ht : upd H' t (.tup ys) t = some (.tup ys) := upd_same
    have hys2 := dps_same s2 hys
    generalize upd H' t (.tup ys) = H2 at s2 ht hys2 ⊢
    have s12 := s1.trans s2
    refine ⟨_, rfl, _, _, _, _, rfl, rfl, same_t s12 hsq, at1, (by show 2 ≤ sizeLine; decide), fun z nz => ?_⟩
    have s3 := same_new (o := .tup [.ref t, .ref da]) nz
    exact q z _ (s12.trans s3) ⟨t, da, ys, dxs, .of upd_same, .of (s3 _ _ ht), dps_same s3 hys2, same_t (s12.trans s3) hda, dps_same (s12.trans s3) hdx⟩
end

end M

set_option Elab.async false
set_option linter.all false
set_option maxRecDepth 100000
set_option maxHeartbeats 2000000
namespace M
open PySem PySem.Spec PyProof.Rows L2

section
variable {P : Program} {w : World} {K : PySem.W.Frag} {mg : Str → Option Value} {base : Heap}
theorem sqT_bx {a l : Addr} {H H' : Hp} (b : BoxAt H a l) (b' : BoxAt H' a l) (h : Bx a l H H') {x : Addr} {xs : List V} (k : SqT K H x xs) : SqT K H' x xs := sqT_but b.chM (h.cut b'.at).2 (sqT_but b.chA (h.cut b'.at).1 k)
theorem cellsN (cs : List (Int × Int)) : ∀ d ∈ cs.map cellD, NoL d := fun d hd => by
  obtain ⟨c, _, rfl⟩ := List.mem_map.mp hd
  exact cell_noL c
theorem deedsN (ds : List (Str × Int × List Row)) : ∀ d ∈ ds.map deedD, NoL d := fun d hd => by
  obtain ⟨c, _, rfl⟩ := List.mem_map.mp hd
  exact deed_noL c
theorem ShpAt.bx {a l : Addr} {H H' : Hp} (b : BoxAt H a l) (b' : BoxAt H' a l) (h : Bx a l H H') {s : Addr} {v : Vlt} (k : ShpAt K H s v) : ShpAt K H' s v := by
  obtain ⟨ca, da, cxs, dxs, h1, h2, h3, h4, h5⟩ := k.at'
  exact ⟨ca, da, cxs, dxs, sqT_bx b b' h h1, sqT_bx b b' h h2, dps_bx b b' h h3 (cellsN _), sqT_bx b b' h h4, dps_bx b b' h h5 (deedsN _)⟩
def spMore (K : PySem.W.Frag) : Sp := fun vs H Q _ => ∃ (a l s : Addr) (v : Vlt), vs = [.ref a, .ref s] ∧ BoxAt H a l ∧ ShpAt K H s v ∧ v.cells.length ≤ 3 ∧
  ∀ (z : Addr) (cs : List (Int × Int)) (H' : Hp), Bx a l H H' → BoxAt H' a l → ShpAt K H' z ⟨v.cells ++ cs, v.deeds⟩ → cs.length ≤ 3 → (∀ c ∈ cs, CellOk c) → Q (.ref z) H'
theorem ca_l_more (T : Txt w K mg) : Ca P w K mg base 2 "_law_more" (spMore K) := by
  refine ca_of (N := ["_law_box_here", "_law_shape", "_law_cells", "_law_k", "_law_size"]) (ps := ["_law_box_here", "_law_shape"]) T.f_l_more T.g_law_more ⟨rfl, rfl, rfl, by decide +kernel, rfl, by decide +kernel, by decide +kernel⟩ (fun _ _ _ _ _ _ us hl => match us, hl with | [_, _], _ => rfl)
    (fun vs H Q E h => by obtain ⟨a, l, s, v, rfl, hb, hsh, l3, q⟩ := h; rfl) (fun cdv A outer s H vs Q E hr h => ?_)
  have nd : (["_law_box_here", "_law_shape", "_law_cells", "_law_k", "_law_size"] : List Str).Nodup := by decide +kernel
  obtain ⟨a, l, s, v, rfl, hb, hsh, l3, q⟩ := h
  refine ⟨_, (pss_cons (ps_set (i := 2) nd rfl (.inl rfl) (pe_callTy call_list_of (by rfl) T.b_list boot_list (pa_cons (pe_ix ix_tup (pv 1) pe_int (fun _ _ => rfl)) pa_nil)))
      (pss_cons (ps_for PassesOwn.never rfl (pi_range1 rfl T.b_range (pa_cons (pe_ca (ca_l_draw T) hr (pa_cons (pv 0) (pa_cons pe_int pa_nil))) pa_nil)) (pg_name (i := 3) nd rfl (.inl rfl)) (pss_cons (ps_set (i := 4) nd rfl (.inl rfl) (pe_op op_add pe_int (pe_ca (ca_l_draw T) hr (pa_cons (pv 0) (pa_cons pe_int pa_nil)))))
      (pss_one (ps_expr (pe_bm PySem.F.plainAttrs_list PySem.F.slot_list_append PySem.F.type_list_append mt_append (pv 2) (pa_cons (pe_tup (pa_cons (pv 4) (pa_cons (pe_ca (ca_l_draw T) hr (pa_cons (pv 0) (pa_cons (pv 4) pa_nil))) pa_nil))) pa_nil))))))
      (pss_one (ps_ret (pe_tup (pa_cons (pe_tupleOf (by rfl) T.b_tuple (pv 2)) (pa_cons (pe_ix ix_tup (pv 1) pe_int (fun _ _ => rfl)) pa_nil))))))), ?_⟩
  obtain ⟨ca, da, cxs, dxs, hsq, hca, hcx, hda, hdx⟩ := hsh.at'
  have lcx : cxs.length = v.cells.length := by rw [dps_len hcx, List.length_map]
  refine ⟨_, rfl, _, _, _, _, rfl, rfl, hsq, at0, ca, _, rfl, .inr hca, fun z nz => ?_⟩
  obtain ⟨nza, nzl⟩ := box_ne hb nz
  have s0 := same_new (o := .lst cxs) nz
  have hz0 : upd H z (.lst cxs) z = some (.lst cxs) := upd_same
  have hb0 := hb.same s0
  generalize upd H z (.lst cxs) = H0 at s0 hz0 hb0 ⊢
  refine ⟨_, rfl, a, l, 4, rfl, hb0, by omega, fun m H1 b1 p1 hm => ?_⟩
  have hcx0 := dps_same s0 hcx
  refine ⟨m, rfl, by omega, by omega, for_it (n := m.toNat) walk_range (fun i σ' H' => ∃ (x y : Option V) (cs : List (Int × Int)) (ys : List V), σ' = [some (.ref a), some (.ref s), some (.ref z), x, y] ∧ Bx a l H H' ∧ BoxAt H' a l ∧ H' z = some (.lst (cxs ++ ys)) ∧ DpAll K H' ys (cs.map cellD) ∧ cs.length = i ∧ ∀ c ∈ cs, CellOk c) ⟨none, none, [], [], rfl, (Same.bx s0).trans b1, p1, by rw [List.append_nil]; exact b1 _ _ nza nzl hz0, .nil, rfl, (fun c h => nomatch h)⟩ (fun _ _ _ _ _ => trivial) ?_ ?_⟩
  · rintro i x σ' Hz H' hi ⟨_, _, cs, ys, rfl, bt, pt, hz, hys, hlen, hcs⟩ ⟨rfl, rfl⟩
    refine ⟨_, rfl, a, l, 9, rfl, pt, by omega, fun k H2 b2 p2 hk => ⟨_, _, rfl, rfl, ?_⟩⟩
    have hz2 := b2 _ _ nza nzl hz
    refine ⟨_, rfl, .inl ⟨rfl, _, .of hz2⟩, _, rfl, _, rfl, _, rfl, a, l, 1 + k, rfl, p2, by omega, fun h H3 b3 p3 hh => ⟨(by show 2 ≤ sizeLine; decide), fun u nu => ?_⟩⟩
    have s4 := same_new (o := .tup [.int (1 + k), .int h]) nu
    have hz3 := s4 _ _ (b3 _ _ nza nzl hz2)
    have d4 : Dp K (upd H3 u (.tup [.int (1 + k), .int h])) (.ref u) (cellD (1 + k, h)) := .tup (.of upd_same) (.cons (.int _) (.cons (.int _) .nil))
    have hy4 := dps_same s4 (dps_bx pt p3 (b2.trans b3) hys (cellsN _))
    have p4 := p3.same s4
    have b4 := (bt.trans (b2.trans b3)).trans (Same.bx s4)
    generalize upd H3 u (.tup [.int (1 + k), .int h]) = H4 at s4 hz3 d4 hy4 p4 b4 ⊢
    have bb : But z H4 (upd H4 z (.lst (cxs ++ ys ++ [.ref u]))) := But.upd
    have lys : ys.length = i := by rw [dps_len hys, List.length_map, hlen]
    refine ⟨z, cxs ++ ys, _, rfl, rfl, hz3, by rw [List.length_append, sizeLine_eq]; omega, _, _, cs ++ [(1 + k, h)], ys ++ [.ref u], rfl, fun b o n1 n2 e => bb _ _ (ne_of_none e nz) (b4 _ _ n1 n2 e), p4.but bb (Ne.symm nza) (Ne.symm nzl), by rw [upd_same, List.append_assoc], ?_, by rw [List.length_append, hlen]; rfl, fun c hc => ?_⟩
    · rw [List.map_append]
      exact dps_app (dps_but (.lst hz3) bb hy4 (cellsN _)) (.cons (dp_but (.lst hz3) bb d4 (cell_noL _)) .nil)
    · rcases List.mem_append.mp hc with h' | h'
      · exact hcs c h'
      · rw [List.mem_singleton.mp h']
        exact ⟨by show 1 ≤ 1 + k; omega, by show 1 + k ≤ 9; omega, hh⟩
  · rintro σ' H' ⟨_, _, cs, ys, rfl, bt, pt, hz, hys, hlen, hcs⟩
    refine ⟨_, rfl, .inl ⟨z, _, rfl, .of hz, fun t nt => ?_⟩⟩
    have s2 := same_new (o := .tup (cxs ++ ys)) nt
    have ht : upd H' t (.tup (cxs ++ ys)) t = some (.tup (cxs ++ ys)) := upd_same
    have hys2 := dps_same s2 hys
    have p2 := pt.same s2
    have bt2 := bt.trans (Same.bx s2)
    generalize upd H' t (.tup (cxs ++ ys)) = H2 at s2 ht hys2 p2 bt2 ⊢
    refine ⟨_, rfl, _, _, _, _, rfl, rfl, sqT_bx hb p2 bt2 hsq, at1, (by show 2 ≤ sizeLine; decide), fun y ny => ?_⟩
    have s3 := same_new (o := .tup [.ref t, .ref da]) ny
    refine q y cs _ (bt2.trans (Same.bx s3)) (p2.same s3) ⟨t, da, cxs ++ ys, dxs, .of upd_same, .of (s3 _ _ ht), ?_, same_t s3 (sqT_bx hb p2 bt2 hda), dps_same s3 (dps_bx hb p2 bt2 hdx (deedsN _))⟩ (by omega) hcs
    rw [List.map_append]
    exact dps_same s3 (dps_app (dps_bx hb p2 bt2 hcx (cellsN _)) hys2)
end

end M

set_option Elab.async false
set_option linter.all false
set_option maxRecDepth 100000
set_option maxHeartbeats 2000000
namespace M
open PySem PySem.Spec PyProof.Rows L2

theorem hLet26 {i : Int} (h : 0 ≤ i ∧ i < 26) : atI ("abcdefghijklmnopqrstuvwxyz" : Str).cps.toList i = some (97 + i.toNat) := by
  obtain ⟨k, rfl⟩ : ∃ k : _root_.Fin 26, i = ((k.val : Nat) : Int) := ⟨⟨i.toNat, by omega⟩, by show i = ((i.toNat : Nat) : Int); omega⟩
  revert k
  decide +kernel
theorem hInV_strs (s : Str) : ∀ l : List Str, inV (.str s) (l.map V.str) = decide (s ∈ l)
  | [] => rfl
  | x :: l => by
    show ((x == s) || inV (.str s) (l.map V.str)) = _
    rw [hInV_strs s l, show (x == s) = decide (x = s) from rfl, Bool.eq_iff_iff]
    simp only [Bool.or_eq_true, decide_eq_true_eq, List.mem_cons]
    exact ⟨fun h => h.elim (fun e => .inl e.symm) .inr, fun h => h.elim (fun e => .inl e.symm) .inr⟩
theorem hFlat_strs : ∀ l : List Str, (l.map V.str).all flatV = true
  | [] => rfl
  | _ :: l => hFlat_strs l
theorem hNodup_len {α : Type} [DecidableEq α] : ∀ {l m : List α}, l.Nodup → (∀ x ∈ l, x ∈ m) → l.length ≤ m.length
  | [], _, _, _ => Nat.zero_le _
  | x :: l, m, n, h => by
    rw [List.nodup_cons] at n
    have hx := h x List.mem_cons_self
    have ih := hNodup_len (l := l) (m := m.erase x) n.2 fun y hy => (List.mem_erase_of_ne (fun e : y = x => n.1 (by rw [← e]; exact hy))).mpr (h y (List.mem_cons_of_mem _ hy))
    rw [List.length_erase_of_mem hx] at ih
    have := List.length_pos_of_mem hx
    show l.length + 1 ≤ m.length
    omega
theorem hJoin_nil : ∀ ps : List (List Nat), TL.joinL [] ps = ps.flatten
  | [] => rfl
  | [p] => by show p = p ++ []; rw [List.append_nil]
  | p :: q :: r => by
    show p ++ ([] ++ TL.joinL [] (q :: r)) = p ++ (q :: r).flatten
    rw [List.nil_append, hJoin_nil (q :: r)]
theorem hJoin_let {ss : List Str} (h : ∀ s ∈ ss, ∃ c, s = ⟨#[c]⟩ ∧ 97 ≤ c ∧ c ≤ 122) : (TL.tl (Txt.join ("" : Str) ss)).length = ss.length ∧ ∀ c ∈ TL.tl (Txt.join ("" : Str) ss), 97 ≤ c ∧ c ≤ 122 := by
  have e : TL.tl (Txt.join ("" : Str) ss) = (ss.map TL.tl).flatten := by
    have := TL.tl_join ("" : Str) ss
    rw [← TL.join_eq] at this
    rw [← hJoin_nil]
    exact this
  rw [e]
  clear e
  induction ss with
  | nil => exact ⟨rfl, fun c hc => by cases hc⟩
  | cons s r ih =>
    obtain ⟨c, rfl, h1, h2⟩ := h s List.mem_cons_self
    obtain ⟨i1, i2⟩ := ih fun x hx => h x (List.mem_cons_of_mem _ hx)
    have et : TL.tl (⟨#[c]⟩ : Str) = [c] := rfl
    rw [List.map_cons, List.flatten_cons, et]
    refine ⟨by rw [List.length_append, i1]; simp; omega, fun d hd => ?_⟩
    rcases List.mem_append.mp hd with hd | hd
    · rw [List.mem_singleton.mp hd]
      exact ⟨h1, h2⟩
    · exact i2 d hd
theorem hCut_to {z : Str} {k : Nat} : TL.tl (cutS z none (some (k : Int))) = (TL.tl z).take k := by
  unfold cutS
  rw [HT.sIx_none, HT.sIx_nat, List.drop_zero, Nat.sub_zero]
  show (TL.tl z).take (min k z.length) = _
  rw [TL.len_tl]
  by_cases h : k ≤ (TL.tl z).length
  · rw [Nat.min_eq_left h]
  · rw [Nat.min_eq_right (by omega), List.take_of_length_le (Nat.le_refl _), List.take_of_length_le (by omega)]
/-- a word cut after seven letters, with a letter behind -/
theorem word7 {s : Str} {c : Nat} (w : NameOk s) (hc : 97 ≤ c ∧ c ≤ 122) : NameOk (cutS s none (some 7) ++ (⟨#[c]⟩ : Str)) ∧ (TL.tl (cutS s none (some 7) ++ (⟨#[c]⟩ : Str))).getLast? = some c := by
  have e : TL.tl (cutS s none (some 7) ++ (⟨#[c]⟩ : Str)) = (TL.tl s).take 7 ++ [c] := by
    rw [TL.tl_append, show TL.tl (cutS s none (some 7)) = _ from hCut_to (k := 7)]
  refine ⟨⟨?_, ?_, fun x hx => ?_⟩, by rw [e, List.getLast?_append]; rfl⟩
  · rw [TL.len_tl, e, List.length_append]; simp
  · rw [TL.len_tl, e, List.length_append, List.length_take]; simp; omega
  · have hx : x ∈ TL.tl (cutS s none (some 7) ++ (⟨#[c]⟩ : Str)) := hx
    rw [e, List.mem_append, List.mem_singleton] at hx
    rcases hx with hx | rfl
    · exact w.2.2 x (List.mem_of_mem_take hx)
    · exact hc
/-- what the word has been, if it is still one of the names -/
def Wrd (ns : List Str) (i : Nat) (s : Str) : Prop := s ∉ ns ∨ i = 0 ∨ ∃ ws : List Str, ws.length + 1 = i ∧ ws.Nodup ∧ (∀ x ∈ ws, x ∈ ns ∧ ∃ c, (TL.tl x).getLast? = some c ∧ c < 117 + i) ∧ (TL.tl s).getLast? = some (117 + i)
theorem Wrd.next {ns : List Str} {i : Nat} {s t : Str} (h : Wrd ns i s) (m : s ∈ ns) (e : (TL.tl t).getLast? = some (118 + i)) : Wrd ns (i + 1) t := by
  rcases h with h | rfl | ⟨ws, h1, h2, h3, h4⟩
  · exact absurd m h
  · exact .inr (.inr ⟨[], rfl, List.nodup_nil, (fun x h => nomatch h), e⟩)
  · refine .inr (.inr ⟨s :: ws, by rw [List.length_cons, h1], List.nodup_cons.mpr ⟨fun z => ?_, h2⟩, fun x hx => ?_, by rw [e]; congr 1; omega⟩)
    · obtain ⟨_, c, e2, l⟩ := h3 s z
      rw [h4] at e2
      have := Option.some.inj e2
      omega
    · rcases List.mem_cons.mp hx with rfl | hx
      · exact ⟨m, _, h4, by omega⟩
      · obtain ⟨a, c, e2, l⟩ := h3 x hx
        exact ⟨a, c, e2, by omega⟩
theorem Wrd.out {ns : List Str} {s : Str} (h : Wrd ns 5 s) (l : ns.length ≤ 4) : s ∉ ns := by
  rcases h with h | h | ⟨ws, h1, h2, h3, h4⟩
  · exact h
  · cases h
  · intro m
    have := hNodup_len (l := s :: ws) (m := ns) (List.nodup_cons.mpr ⟨fun z => by
      obtain ⟨_, c, e2, l⟩ := h3 s z
      rw [h4] at e2
      have := Option.some.inj e2
      omega, h2⟩) (fun x hx => by
      rcases List.mem_cons.mp hx with rfl | hx
      · exact m
      · exact (h3 x hx).1)
    rw [List.length_cons, h1] at this
    omega
theorem vwxyz {i : Nat} (hi : i < 5) : ("vwxyz" : Str).cps[i]? = some (118 + i) := by
  have : i = 0 ∨ i = 1 ∨ i = 2 ∨ i = 3 ∨ i = 4 := by omega
  rcases this with rfl | rfl | rfl | rfl | rfl <;> decide +kernel
section
variable {P : Program} {w : World} {K : PySem.W.Frag} {mg : Str → Option Value} {base : Heap}
def spNameB (K : PySem.W.Frag) : Sp := fun vs H Q _ => ∃ (a l p : Addr) (ns : List Str), vs = [.ref a, .ref p] ∧ BoxAt H a l ∧ H p = some (.lst (ns.map .str)) ∧ p ≠ a ∧ p ≠ l ∧ ns.length ≤ 4 ∧
  ∀ (s : Str) (H1 H' : Hp), Bx a l H H1 → BoxAt H1 a l → H1 p = some (.lst (ns.map .str)) → But p H1 H' → BoxAt H' a l → H' p = some (.lst ((ns ++ [s]).map .str)) → NameOk s → s ∉ ns → Q (.str s) H'
theorem ca_l_name (T : Txt w K mg) : Ca P w K mg base 3 "_law_name" (spNameB K) := by
  refine ca_of (N := ["_law_box_here", "_law_names", "_law_k", "_law_word", "_law_letter"]) (ps := ["_law_box_here", "_law_names"]) T.f_l_name T.g_law_name ⟨rfl, rfl, rfl, by decide +kernel, rfl, by decide +kernel, by decide +kernel⟩ (fun _ _ _ _ _ _ us hl => match us, hl with | [_, _], _ => rfl)
    (fun vs H Q E h => by obtain ⟨a, l, p, ns, rfl, hb, hp, npa, npl, ln, q⟩ := h; rfl) (fun cdv A outer s H vs Q E hr h => ?_)
  have nd : (["_law_box_here", "_law_names", "_law_k", "_law_word", "_law_letter"] : List Str).Nodup := by decide +kernel
  obtain ⟨a, l, p, ns, rfl, hb, hp, npa, npl, ln, q⟩ := h
  refine ⟨_, (pss_cons (ps_set (i := 3) nd rfl (.inl rfl) (pe_join pe_str (pe_lc (own := [("_law_k", 2)]) (tt := tYes) rfl nd (pi_range1 rfl T.b_range (pa_cons (pe_op op_add pe_int (pe_ca (ca_l_draw T) hr (pa_cons (pv 0) (pa_cons pe_int pa_nil)))) pa_nil)) (blkOk_by (N := ["_law_box_here", "_law_names", "_law_k", "_law_word", "_law_letter"]) (sc := defScope s_l_name) (by decide +kernel)) (fun _ _ _ _ _ => pg_name (i := 2) nd rfl (.inl rfl)) (fun _ _ _ _ _ => pts_nil) (fun _ _ _ _ _ => pe_ix ix_str pe_str (pe_ca (ca_l_draw T) hr (pa_cons (pv 0) (pa_cons pe_int pa_nil))) (fun _ _ => rfl)))))
      (pss_cons (ps_for PassesOwn.never rfl (pi_str pe_str) (pg_name (i := 4) nd rfl (.inl rfl)) (pss_one (ps_if (pt_cmpR op_in_seq (pv 3) (pv 1) (by rfl)) (pss_one (ps_set (i := 3) nd rfl (.inl rfl) (pe_op op_add_str (pe_slice sl_str (pv 3) po_none (po_some pe_int)) (pv 4)))) pss_nil)))
      (pss_cons (ps_expr (pe_bm PySem.F.plainAttrs_list PySem.F.slot_list_append PySem.F.type_list_append mt_append (pv 1) (pa_cons (pv 3) pa_nil)))
      (pss_one (ps_ret (pv 3)))))), ?_⟩
  refine ⟨⟨_, rfl⟩, _, rfl, a, l, 8, rfl, hb, by omega, fun m H1 b1 p1 hm => ⟨_, _, rfl, rfl, _, rfl, by omega, by omega, fun D nD => ?_⟩⟩
  obtain ⟨nDa, nDl⟩ := box_ne p1 nD
  have hp1 := b1 _ _ npa npl hp
  have nDp : p ≠ D := ne_of_none hp1 nD
  refine it_any (n := (1 + m).toNat) walk_range (fun i J => ∃ ss : List Str, Bx a l H J ∧ BoxAt J a l ∧ J D = some (.lst (ss.map V.str)) ∧ ss.length = i ∧ ∀ s ∈ ss, ∃ c, s = ⟨#[c]⟩ ∧ 97 ≤ c ∧ c ≤ 122) ⟨[], b1.trans (Same.bx (same_new nD)), p1.same (same_new nD), upd_same, rfl, fun s h => by cases h⟩ (fun _ _ _ _ => trivial) ?_ ?_
  · rintro j z J0 J hj ⟨ss, bj, pj, hD, el, hss⟩ ⟨rfl, rfl⟩
    refine ⟨rfl, _, rfl, a, l, 26, rfl, pj, by omega, fun c J2 b6 p6 hc => ?_⟩
    have hat := hLet26 hc
    have hD2 := b6 _ _ nDa nDl hD
    have bb : But D J2 (upd J2 D (.lst (ss.map V.str ++ [.str ⟨#[97 + c.toNat]⟩]))) := But.upd
    have nH : H D = none := by
      cases e : H D with
      | none => rfl
      | some o =>
        rw [b1 _ _ nDa nDl e] at nD
        cases nD
    refine ⟨_, c, 97 + c.toNat, rfl, rfl, (by decide +kernel), hat, ss.map V.str, hD2, by rw [List.length_map, sizeLine_eq]; omega, ss ++ [⟨#[97 + c.toNat]⟩], fun b o n1 n2 e => bb _ _ (ne_of_none e nH) (b6 _ _ n1 n2 (bj _ _ n1 n2 e)), p6.but bb (Ne.symm nDa) (Ne.symm nDl), by rw [List.map_append]; exact upd_same, by simp [el], fun s hs => ?_⟩
    rcases List.mem_append.mp hs with hs | hs
    · exact hss s hs
    · rw [List.mem_singleton.mp hs]
      exact ⟨_, rfl, by omega, by omega⟩
  rintro H3 ⟨ss, bj, pj, hD, el, hss⟩
  obtain ⟨j1, j2⟩ := hJoin_let hss
  have sum1 : ∀ ss : List Str, (∀ s ∈ ss, ∃ c, s = (⟨#[c]⟩ : Str) ∧ 97 ≤ c ∧ c ≤ 122) → (ss.map (·.length)).sum ≤ ss.length := by
    intro ss hss
    induction ss with
    | nil => exact Nat.le_refl _
    | cons s r ih =>
      obtain ⟨c, rfl, _⟩ := hss s List.mem_cons_self
      have := ih fun x hx => hss x (List.mem_cons_of_mem _ hx)
      rw [List.map_cons, List.sum_cons, List.length_cons]
      show 1 + _ ≤ _
      omega
  have e0 : ("" : Str).length = 0 := by decide +kernel
  refine ⟨_, D, ss, rfl, rfl, .inl (.of hD), by have := sum1 ss hss; rw [e0]; omega, ?_⟩
  have nok : NameOk (Txt.join ("" : Str) ss) := ⟨by rw [TL.len_tl, j1]; omega, by rw [TL.len_tl, j1]; omega, j2⟩
  generalize Txt.join ("" : Str) ss = wd at nok ⊢
  clear j1 j2 hss hD
  have hp3 := bj _ _ npa npl hp
  refine ⟨_, rfl, for_it (n := ("vwxyz" : Str).cps.size) walk_str (fun i σ' H' => ∃ (x2 x4 : Option V) (s : Str), σ' = [some (.ref a), some (.ref p), x2, some (.str s), x4] ∧ H' = H3 ∧ NameOk s ∧ Wrd ns i s) ⟨_, none, wd, rfl, rfl, nok, .inr (.inl rfl)⟩ (fun _ _ _ _ _ => trivial) ?_ ?_⟩
  · rintro i x σ' H' H2 hi ⟨_, _, s, rfl, rfl, ok, hw⟩ ⟨rfl, c, hc, rfl⟩
    have hi5 : i < 5 := hi
    rw [vwxyz hi5] at hc
    cases (Option.some.inj hc)
    refine ⟨_, rfl, _, rfl, p, _, rfl, .inl (.of hp3), rfl, hFlat_strs ns, _, rfl, ?_⟩
    rw [hInV_strs]
    by_cases m : s ∈ ns
    · rw [decide_eq_true m]
      obtain ⟨w1, w2⟩ := word7 (c := 118 + i) ok (by omega)
      have l7 : (cutS s none (some 7)).length ≤ 7 := by
        rw [TL.len_tl, show TL.tl (cutS s none (some 7)) = _ from hCut_to (k := 7), List.length_take]
        omega
      have hz : s.length ≤ sizeLine := by have := ok.2.1; rw [sizeLine_eq]; omega
      refine iteT ⟨_, rfl, _, rfl, _, rfl, hz, _, rfl, _, _, rfl, rfl, by rw [sizeLine_eq]; show _ + 1 ≤ _; omega, _, _, _, rfl, rfl, w1, hw.next m w2⟩
    · rw [decide_eq_false m]
      exact iteF ⟨_, _, s, rfl, rfl, ok, .inl m⟩
  · rintro σ' H' ⟨_, _, s, rfl, rfl, ok, hw⟩
    have hw5 : Wrd ns 5 s := hw
    have out := hw5.out ln
    refine ⟨_, rfl, .inl ⟨rfl, _, .of hp3⟩, _, rfl, p, _, _, rfl, rfl, hp3, by rw [List.length_map, sizeLine_eq]; omega, ?_⟩
    have bb : But p H' (upd H' p (.lst (ns.map V.str ++ [.str s]))) := But.upd
    exact ⟨_, rfl, q s H' _ bj pj hp3 bb (pj.but bb (Ne.symm npa) (Ne.symm npl)) (by rw [upd_same, List.map_append]; rfl) ok out⟩
end

end M

set_option Elab.async false
set_option linter.all false
set_option maxRecDepth 100000
set_option maxHeartbeats 2000000
namespace M
open PySem PySem.Spec PyProof.Rows L2

theorem hDps_take {K : PySem.W.Frag} {H : Hp} : ∀ {xs : List V} {ds : List PyData} (n : Nat), DpAll K H xs ds → DpAll K H (xs.take n) (ds.take n)
  | _, _, 0, _ => .nil
  | _, _, _ + 1, .nil => .nil
  | _, _, n + 1, .cons h r => .cons h (hDps_take n r)
theorem hDps_drop {K : PySem.W.Frag} {H : Hp} : ∀ {xs : List V} {ds : List PyData} (n : Nat), DpAll K H xs ds → DpAll K H (xs.drop n) (ds.drop n)
  | _, _, 0, h => h
  | _, _, _ + 1, .nil => .nil
  | _, _, n + 1, .cons h r => hDps_drop n r
/-- how many states there are of cells -/
def szP : List (Int × Int) → Int
  | [] => 1
  | c :: r => c.1 * szP r
theorem szP_snoc : ∀ (cs : List (Int × Int)) (c : Int × Int), szP (cs ++ [c]) = szP cs * c.1
  | [], c => by show c.1 * 1 = 1 * c.1; omega
  | d :: r, c => by
    show d.1 * szP (r ++ [c]) = d.1 * szP r * c.1
    rw [szP_snoc r c, Int.mul_assoc]
theorem szP_pos : ∀ {cs : List (Int × Int)}, (∀ c ∈ cs, CellOk c) → 1 ≤ szP cs
  | [], _ => Int.le_refl 1
  | c :: r, h => by
    have h1 := szP_pos (cs := r) fun x hx => h x (List.mem_cons_of_mem _ hx)
    have h2 := (h c List.mem_cons_self).1
    show 1 ≤ c.1 * szP r
    have : 1 * 1 ≤ c.1 * szP r := Int.mul_le_mul h2 h1 (by decide) (by omega)
    omega
/-- how the drawing of a vault stands -/
structure VHp (K : PySem.W.Frag) (a l z f dl p : Addr) (H0 H : Hp) (cs : List (Int × Int)) (fs : List Int) (dys : List V) (ds : List (Str × Int × List Row)) (ns : List Str) : Prop where
  bx : Bx a l H0 H
  bt : BoxAt H a l
  hz : ∃ cys, H z = some (.lst cys) ∧ DpAll K H cys (cs.map cellD)
  hf : H f = some (.lst (fs.map .int))
  hd : H dl = some (.lst dys)
  dd : DpAll K H dys (ds.map deedD)
  hp : H p = some (.lst (ns.map V.str))
  na : dl ≠ a ∧ dl ≠ l ∧ p ≠ a ∧ p ≠ l ∧ z ≠ a ∧ z ≠ l ∧ f ≠ a ∧ f ≠ l
  nn : dl ≠ z ∧ dl ≠ f ∧ dl ≠ p ∧ p ≠ z ∧ p ≠ f
  nd : H0 dl = none
  np : H0 p = none
section
variable {K : PySem.W.Frag} {a l z f dl p : Addr} {H0 H H' : Hp} {cs : List (Int × Int)} {fs : List Int} {dys : List V} {ds : List (Str × Int × List Row)} {ns : List Str}
theorem VHp.step (h : VHp K a l z f dl p H0 H cs fs dys ds ns) (b : Bx a l H H') (q : BoxAt H' a l) : VHp K a l z f dl p H0 H' cs fs dys ds ns := by
  obtain ⟨cys, h1, h2⟩ := h.hz
  obtain ⟨n1, n2, n3, n4, n5, n6, n7, n8⟩ := h.na
  exact ⟨h.bx.trans b, q, ⟨cys, b _ _ n5 n6 h1, dps_bx h.bt q b h2 (cellsN _)⟩, b _ _ n7 n8 h.hf, b _ _ n1 n2 h.hd, dps_bx h.bt q b h.dd (deedsN _), b _ _ n3 n4 h.hp, h.na, h.nn, h.nd, h.np⟩
theorem VHp.same (h : VHp K a l z f dl p H0 H cs fs dys ds ns) (s : Same H H') : VHp K a l z f dl p H0 H' cs fs dys ds ns := h.step (Same.bx s) (h.bt.same s)
theorem VHp.named {ns' : List Str} (h : VHp K a l z f dl p H0 H cs fs dys ds ns) (b : But p H H') (e : H' p = some (.lst (ns'.map V.str))) : VHp K a l z f dl p H0 H' cs fs dys ds ns' := by
  obtain ⟨cys, h1, h2⟩ := h.hz
  obtain ⟨n1, n2, n3, n4, n5, n6, n7, n8⟩ := h.na
  obtain ⟨m1, m2, m3, m4, m5⟩ := h.nn
  exact ⟨fun x o k1 k2 k3 => b _ _ (ne_of_none k3 h.np) (h.bx _ _ k1 k2 k3), h.bt.but b (Ne.symm n3) (Ne.symm n4), ⟨cys, b _ _ (Ne.symm m4) h1, dps_but (.lst h.hp) b h2 (cellsN _)⟩, b _ _ (Ne.symm m5) h.hf, b _ _ m3 h.hd, dps_but (.lst h.hp) b h.dd (deedsN _), e, h.na, h.nn, h.nd, h.np⟩
theorem VHp.deed {dys' : List V} {ds' : List (Str × Int × List Row)} (h : VHp K a l z f dl p H0 H cs fs dys ds ns) (b : But dl H H') (e : H' dl = some (.lst dys')) (d : DpAll K H dys' (ds'.map deedD)) : VHp K a l z f dl p H0 H' cs fs dys' ds' ns := by
  obtain ⟨cys, h1, h2⟩ := h.hz
  obtain ⟨n1, n2, n3, n4, n5, n6, n7, n8⟩ := h.na
  obtain ⟨m1, m2, m3, m4, m5⟩ := h.nn
  exact ⟨fun x o k1 k2 k3 => b _ _ (ne_of_none k3 h.nd) (h.bx _ _ k1 k2 k3), h.bt.but b (Ne.symm n1) (Ne.symm n2), ⟨cys, b _ _ (Ne.symm m1) h1, dps_but (.lst h.hd) b h2 (cellsN _)⟩, b _ _ (Ne.symm m2) h.hf, e, dps_but (.lst h.hd) b d (deedsN _), b _ _ (Ne.symm m3) h.hp, h.na, h.nn, h.nd, h.np⟩
end
def getR (k : Int) : Row := .iff (.op "=" (.reg "x") (.num k)) [.read "a" k, .ans (.reg "a")] []
def getsR (n : Nat) : List Row := (List.range n).map fun (i : Nat) => getR ((i : Nat) : Int)
theorem getsR_more (n : Nat) : getsR (n + 1) = getsR n ++ [getR (n : Int)] := by
  unfold getsR
  rw [List.range_succ, List.map_append]
  rfl
theorem getR_ok {c k : Int} (h0 : 0 ≤ k) (h1 : k < c) (h9 : k ≤ 9) : (getR k).ok c 1 0 := by
  have ra : ("a" : Str) ∈ regs4 := by decide +kernel
  have xa : ("a" : Str) ∈ regs5 := by decide +kernel
  have se : ("=" : Str) ∈ signs := by decide +kernel
  have z0 : (0 : Nat) ≤ 6 := by decide
  have z1 : (1 : Nat) ≤ 6 := by decide
  have g1 : Exp.good (.num k) := ⟨⟨h0, h9⟩, z0⟩
  have ga : Exp.good (.reg "a") := ⟨xa, z0⟩
  exact ⟨⟨⟨se, in_x, g1.1⟩, z1⟩, ⟨by decide, ⟨ra, h0, h1⟩, by decide, ga, trivial⟩, trivial⟩
theorem getsR_ok {c : Int} : ∀ {n : Nat}, (n : Int) ≤ c → n ≤ 9 → rowsOk c 1 0 (getsR n) ∧ rowsCc (getsR n) = 0 ∧ rowsCl (getsR n) ≤ 3 * n ∧ (getsR n).length = n
  | 0, _, _ => ⟨trivial, rfl, Nat.le_refl 0, rfl⟩
  | n + 1, h, h9 => by
    obtain ⟨i1, i2, i3, i4⟩ := getsR_ok (c := c) (n := n) (by omega) (by omega)
    rw [getsR_more]
    refine ⟨ok_app i1 ⟨by decide, getR_ok (by omega) (by omega) (by omega), trivial⟩, by rw [cc_app, i2]; rfl, ?_, by rw [List.length_append, i4]; rfl⟩
    rw [cl_app]
    have : rowsCl [getR (n : Int)] = 3 := rfl
    omega
/-- what comes of drawing a vault -/
structure VB (v : Vlt) : Prop where
  c1 : 1 ≤ v.cells.length
  c3 : v.cells.length ≤ 3
  cs : ∀ c ∈ v.cells, CellOk c
  sz : szP v.cells ≤ 60
  d0 : 1 ≤ v.deeds.length
  d4 : v.deeds.length ≤ 4
  ds : ∀ d ∈ v.deeds, DeedOk v.cells.length d
  nd : (v.deeds.map (·.1)).Nodup

end M

set_option Elab.async false
set_option linter.all false
set_option maxRecDepth 100000
set_option maxHeartbeats 2000000
namespace M
open PySem PySem.Spec PyProof.Rows L2

section
variable {P : Program} {w : World} {K : PySem.W.Frag} {mg : Str → Option Value} {base : Heap}
theorem hIx4 {i : Int} (h : 0 ≤ i ∧ i < 4) : ∃ g : Int, atI ([.int 1, .int 1, .int 2, .int 3] : List V) i = some (.int g) ∧ 1 ≤ g ∧ g ≤ 3 ∧ i / 2 + 1 ≤ g ∧ (i = 3 → g = 3) := by
  have : i = 0 ∨ i = 1 ∨ i = 2 ∨ i = 3 := by omega
  rcases this with rfl | rfl | rfl | rfl
  · exact ⟨1, at0, by decide, by decide, by decide, by decide⟩
  · exact ⟨1, at1, by decide, by decide, by decide, by decide⟩
  · exact ⟨2, at2, by decide, by decide, by decide, by decide⟩
  · exact ⟨3, at3, by decide, by decide, by decide, by decide⟩
theorem hIx8 {i : Int} (h : 0 ≤ i ∧ i < 8) : ∃ g : Int, atI ([.int 2, .int 3, .int 2, .int 4, .int 2, .int 3, .int 9, .int 1] : List V) i = some (.int g) ∧ 1 ≤ g ∧ g ≤ 9 := by
  have : i = 0 ∨ i = 1 ∨ i = 2 ∨ i = 3 ∨ i = 4 ∨ i = 5 ∨ i = 6 ∨ i = 7 := by omega
  rcases this with rfl | rfl | rfl | rfl | rfl | rfl | rfl | rfl
  · exact ⟨2, rfl, by decide, by decide⟩
  · exact ⟨3, rfl, by decide, by decide⟩
  · exact ⟨2, rfl, by decide, by decide⟩
  · exact ⟨4, rfl, by decide, by decide⟩
  · exact ⟨2, rfl, by decide, by decide⟩
  · exact ⟨3, rfl, by decide, by decide⟩
  · exact ⟨9, rfl, by decide, by decide⟩
  · exact ⟨1, rfl, by decide, by decide⟩
theorem hIx6 {i : Int} (h : 0 ≤ i ∧ i < 6) : ∃ g : Int, atI ([.int 1, .int 2, .int 3, .int 1, .int 2, .int 4] : List V) i = some (.int g) ∧ 1 ≤ g ∧ g ≤ 4 := by
  have : i = 0 ∨ i = 1 ∨ i = 2 ∨ i = 3 ∨ i = 4 ∨ i = 5 := by omega
  rcases this with rfl | rfl | rfl | rfl | rfl | rfl
  · exact ⟨1, rfl, by decide, by decide⟩
  · exact ⟨2, rfl, by decide, by decide⟩
  · exact ⟨3, rfl, by decide, by decide⟩
  · exact ⟨1, rfl, by decide, by decide⟩
  · exact ⟨2, rfl, by decide, by decide⟩
  · exact ⟨4, rfl, by decide, by decide⟩
theorem hRg {b n : Int} : ∃ fs : List Int, rgV b n = fs.map V.int ∧ fs.length = (n - b).toNat ∧ ∀ x ∈ fs, b ≤ x ∧ x < n := by
  refine ⟨(List.range (n - b).toNat).map fun i => b + (i : Nat), ?_, by rw [List.length_map, List.length_range], fun x hx => ?_⟩
  · unfold rgV
    rw [List.map_map]
    rfl
  · obtain ⟨i, hi, rfl⟩ := List.mem_map.mp hx
    rw [List.mem_range] at hi
    omega
def spVaultB (K : PySem.W.Frag) : Sp := fun vs H Q _ => ∃ (a l : Addr) (coins : Int), vs = [.ref a, .int coins] ∧ BoxAt H a l ∧ (0 ≤ coins ∧ coins ≤ 2) ∧
  ∀ (z : Addr) (v : Vlt) (H' : Hp), Bx a l H H' → BoxAt H' a l → ShpAt K H' z v → VB v → Q (.ref z) H'
theorem ca_l_vault (T : Txt w K mg) : Ca P w K mg base 15 "_law_vault" (spVaultB K) := by
  refine ca_of (N := ["_law_box_here", "_law_coins", "_law_style", "_law_clear", "_law_many", "_law_cells", "_law_room", "_law_k", "_law_size", "_law_veil", "_law_free", "_law_deeds", "_law_names", "_law_choices", "_law_rows_here", "_law_gets"]) (ps := ["_law_box_here", "_law_coins"]) T.f_l_vault T.g_law_vault ⟨rfl, rfl, rfl, by decide +kernel, rfl, by decide +kernel, by decide +kernel⟩ (fun _ _ _ _ _ _ us hl => match us, hl with | [_, _], _ => rfl)
    (fun vs H Q E h => by obtain ⟨a, l, coins, rfl, hb, hco, q⟩ := h; rfl) (fun cdv A outer s H vs Q E hr h => ?_)
  have nd : (["_law_box_here", "_law_coins", "_law_style", "_law_clear", "_law_many", "_law_cells", "_law_room", "_law_k", "_law_size", "_law_veil", "_law_free", "_law_deeds", "_law_names", "_law_choices", "_law_rows_here", "_law_gets"] : List Str).Nodup := by decide +kernel
  obtain ⟨a, l, coins, rfl, hb, hco, q⟩ := h
  let C0 : Int → L2.St → Hp → Prop := fun g σ H => σ[7]? = some (some (.int g))
  have h0 : Stg C0 := fun g σ H H' s e => e
  have f7 : ∀ g σ H, C0 g σ H → ∀ Q : VK, (∀ v H', Same H H' → Dp K H' v (.int g) → Q v H') → tVar 7 σ H Q := fun g σ H e1 Q q => ⟨_, e1, q _ H (Same.refl _) (.int _)⟩
  refine ⟨_, (pss_cons (ps_set (i := 2) nd rfl (.inl rfl) (pe_ca (ca_l_draw T) hr (pa_cons (pv 0) (pa_cons pe_int pa_nil))))
      (pss_cons (ps_set (i := 3) nd rfl (.inl rfl) (pe_ca (ca_l_draw T) hr (pa_cons (pv 0) (pa_cons pe_int pa_nil))))
      (pss_cons (ps_set (i := 4) nd rfl (.inl rfl) (pe_callB (call_max2 rfl) (by rfl) T.b_max boot_max (pa_cons (pe_op op_add pe_int (pe_ca (ca_l_draw T) hr (pa_cons (pv 0) (pa_cons pe_int pa_nil)))) (pa_cons (pe_ix ix_list (pe_lst (pa_cons pe_int (pa_cons pe_int (pa_cons pe_int (pa_cons pe_int pa_nil))))) (pv 2) (fun _ _ => rfl)) pa_nil))))
      (pss_cons (ps_set (i := 5) nd rfl (.inl rfl) (pe_lst pa_nil))
      (pss_cons (ps_set (i := 6) nd rfl (.inl rfl) pe_int)
      (pss_cons (ps_for PassesOwn.never rfl (pi_range1 rfl T.b_range (pa_cons (pv 4) pa_nil)) (pg_name (i := 7) nd rfl (.inl rfl)) (pss_cons (ps_set (i := 8) nd rfl (.inl rfl) (pe_callB (call_min2 rfl) (by rfl) T.b_min boot_min (pa_cons (pe_ix ix_list (pe_lst (pa_cons pe_int (pa_cons pe_int (pa_cons pe_int (pa_cons pe_int (pa_cons pe_int (pa_cons pe_int (pa_cons pe_int (pa_cons pe_int pa_nil))))))))) (pe_ca (ca_l_draw T) hr (pa_cons (pv 0) (pa_cons pe_int pa_nil))) (fun _ _ => rfl)) (pa_cons (pv 6) pa_nil))))
      (pss_cons (ps_set (i := 6) nd rfl (.inl rfl) (pe_op op_fdiv (pv 6) (pv 8)))
      (pss_one (ps_expr (pe_bm PySem.F.plainAttrs_list PySem.F.slot_list_append PySem.F.type_list_append mt_append (pv 5) (pa_cons (pe_tup (pa_cons (pv 8) (pa_cons (pe_ca (ca_l_draw T) hr (pa_cons (pv 0) (pa_cons (pv 8) pa_nil))) pa_nil))) pa_nil)))))))
      (C8.pss_cut (ps_set (i := 9) nd rfl (.inl rfl) (pe_callTy call_int1 (by rfl) T.b_int boot_int (pa_cons (pe_and (pe_cmpR op_eq (pv 2) pe_int (nomark _)) (pe_one (pe_cmpR op_gt (pv 1) pe_int (nomark _)))) pa_nil)))
      (C8.pss_cut (ps_if (pt_cmpR op_eq (pv 9) pe_int (nomark _)) (pss_one (ps_asg (pe_tup (pa_cons pe_int (pa_cons pe_int pa_nil))) (pg_sub (pv 5) pe_int set_list))) pss_nil)
      (pss_cons (ps_set (i := 10) nd rfl (.inl rfl) (pe_listRg rfl (by rfl) T.b_list (prg_2 (by rfl) T.b_range (pv 9) (pe_op op_sub (pv 4) (pe_op op_fdiv (pv 2) pe_int)))))
      (pss_cons (ps_set (i := 11) nd rfl (.inl rfl) (pe_lst pa_nil))
      (pss_cons (ps_set (i := 12) nd rfl (.inl rfl) (pe_lst pa_nil))
      (pss_cons (ps_for PassesOwn.never rfl (pi_range1 rfl T.b_range (pa_cons (pe_op op_add pe_int (pe_ca (ca_l_draw T) hr (pa_cons (pv 0) (pa_cons pe_int pa_nil)))) pa_nil)) (pg_name (i := 7) nd rfl (.inl rfl)) (pss_cons (ps_set (i := 13) nd rfl (.inl rfl) (pe_ix ix_list (pe_lst (pa_cons pe_int (pa_cons pe_int (pa_cons pe_int (pa_cons pe_int (pa_cons pe_int (pa_cons pe_int pa_nil))))))) (pe_ca (ca_l_draw T) hr (pa_cons (pv 0) (pa_cons pe_int pa_nil))) (fun _ _ => rfl)))
      (pss_cons (ps_set (i := 14) nd rfl (.inl rfl) (pe_op op_catA (pe_ca (ca_l_hide T) hr (pa_cons (pv 0) (pa_cons (pv 2) (pa_cons (pe_op op_sub (pv 4) pe_int) (pa_cons (pv 1) pa_nil))))) (pe_ca (ca_l_body T) hr (pa_cons (pv 0) (pa_cons (pv 10) (pa_cons (pv 1) pa_nil))))))
      (pss_one (ps_expr (pe_bm PySem.F.plainAttrs_list PySem.F.slot_list_append PySem.F.type_list_append mt_append (pv 11) (pa_cons (pe_tup (pa_cons (pe_ca (ca_l_name T) hr (pa_cons (pv 0) (pa_cons (pv 12) pa_nil))) (pa_cons (pv 13) (pa_cons (pv 14) pa_nil)))) pa_nil)))))))
      (C8.pss_cut (ps_if (pt_cmpR op_gt (pv 3) pe_int (nomark _)) (pss_cons (ps_set (i := 15) nd rfl (.inl rfl) (pe_lst pa_nil))
      (pss_cons (ps_for PassesOwn.never rfl (pi_range1 rfl T.b_range (pa_cons (pe_op op_sub (pv 4) (pe_op op_fdiv (pv 2) pe_int)) pa_nil)) (pg_name (i := 7) nd rfl (.inl rfl)) (pss_one (ps_expr (pe_bm PySem.F.plainAttrs_list PySem.F.slot_list_append PySem.F.type_list_append mt_append (pv 15) (pa_cons (gd_tup (K := K) (gd_cons h0 gd_str (gd_cons h0 (gd_tup (K := K) (gd_cons h0 gd_str (gd_cons h0 gd_str (gd_cons h0 (gd_of (C := C0) (pv 7) f7) gd_nil)))) (gd_cons h0 (gd_tup (K := K) (gd_cons h0 (gd_tup (K := K) (gd_cons h0 gd_str (gd_cons h0 gd_str (gd_cons h0 (gd_of (C := C0) (pv 7) f7) gd_nil)))) (gd_cons h0 (gd_tup (K := K) (gd_cons h0 gd_str (gd_cons h0 gd_str gd_nil))) gd_nil))) (gd_cons h0 (gd_tup (K := K) gd_nil) gd_nil))))) pa_nil)))))
      (pss_one (ps_expr (pe_bm PySem.F.plainAttrs_list PySem.F.slot_list_insert PySem.F.type_list_insert mt_insert (pv 11) (pa_cons (pe_ca (ca_l_draw T) hr (pa_cons (pv 0) (pa_cons (pe_op op_add (pe_callB call_len_seq (by rfl) T.b_len PySem.boot_len (pa_cons (pv 11) pa_nil)) pe_int) pa_nil))) (pa_cons (pe_tup (pa_cons (pe_ca (ca_l_name T) hr (pa_cons (pv 0) (pa_cons (pv 12) pa_nil))) (pa_cons (pe_callB call_len_seq (by rfl) T.b_len PySem.boot_len (pa_cons (pv 15) pa_nil)) (pa_cons (pe_tupleOf (by rfl) T.b_tuple (pv 15)) pa_nil)))) pa_nil))))))) pss_nil)
      (pss_one (ps_ret (pe_tup (pa_cons (pe_tupleOf (by rfl) T.b_tuple (pv 5)) (pa_cons (pe_tupleOf (by rfl) T.b_tuple (pv 11)) pa_nil)))))))))))))))))), ?_⟩
  refine ⟨_, rfl, a, l, 4, rfl, hb, by omega, fun style H1 b1 p1 hst => ?_⟩
  refine ⟨_, rfl, a, l, 3, rfl, p1, by omega, fun clear H2 b2 p2 hcl => ?_⟩
  refine ⟨_, rfl, a, l, 3, rfl, p2, by omega, fun m0 H3 b3 p3 hm0 => ⟨_, _, rfl, rfl, (by show 4 ≤ sizeLine; decide), fun ls nls => ?_⟩⟩
  have s3 := same_new (o := .lst [.int 1, .int 1, .int 2, .int 3]) nls
  have hls : upd H3 ls (.lst [.int 1, .int 1, .int 2, .int 3]) ls = some (.lst [.int 1, .int 1, .int 2, .int 3]) := upd_same
  have p4 := p3.same s3
  have b4 := ((b1.trans b2).trans b3).trans (Same.bx s3)
  generalize upd H3 ls (.lst [.int 1, .int 1, .int 2, .int 3]) = H4 at s3 hls p4 b4 ⊢
  obtain ⟨g, hat, hg⟩ := hIx4 hst
  refine ⟨_, rfl, _, _, _, _, rfl, rfl, .of hls, hat, _, _, rfl, ?_⟩
  have hmany : ∃ many : Int, (if g > 1 + m0 then g else 1 + m0) = many ∧ 1 ≤ many ∧ many ≤ 3 ∧ style / 2 + 1 ≤ many ∧ (style = 3 → many = 3) := ⟨_, rfl, by split <;> omega, by split <;> omega, by split <;> omega, fun e => by have := hg.2.2.2 e; split <;> omega⟩
  obtain ⟨many, em, hm1, hm3, hms, hm33⟩ := hmany
  rw [em]
  clear em hat hls
  refine ⟨(by show 0 ≤ sizeLine; exact Nat.zero_le _), fun z nz => ?_⟩
  obtain ⟨nza, nzl⟩ := box_ne p4 nz
  have s5 : Same H4 (upd H4 z (.lst [])) := same_new nz
  have hz5 : upd H4 z (.lst []) z = some (.lst []) := upd_same
  have p5 := p4.same s5
  have b5 := b4.trans (Same.bx s5)
  generalize upd H4 z (.lst []) = H5 at s5 hz5 p5 b5 ⊢
  have nzH : ∀ {D : Addr} {J : Hp}, D ≠ a → D ≠ l → Bx a l H J → J D = none → H D = none := fun {D J} n1 n2 b e => by
    cases h : H D with
    | none => rfl
    | some o =>
      rw [b _ _ n1 n2 h] at e
      cases e
  have nzH0 : H z = none := nzH nza nzl b4 nz
  refine ⟨_, rfl, many, rfl, by omega, by omega, for_it (n := many.toNat) walk_range (fun i σ' H' => ∃ (x7 x8 : Option V) (room : Int) (cs : List (Int × Int)) (ys : List V), σ' = [some (.ref a), some (.int coins), some (.int style), some (.int clear), some (.int many), some (.ref z), some (.int room), x7, x8, none, none, none, none, none, none, none] ∧ Bx a l H H' ∧ BoxAt H' a l ∧ H' z = some (.lst ys) ∧ DpAll K H' ys (cs.map cellD) ∧ cs.length = i ∧ (∀ c ∈ cs, CellOk c) ∧ (1 ≤ room ∧ room ≤ 30) ∧ szP cs * room ≤ 30) ⟨none, none, 30, [], [], rfl, b5, p5, hz5, .nil, rfl, (fun c h => nomatch h), by decide, by decide⟩ (fun _ _ _ _ _ => trivial) ?_ ?_⟩
  · rintro i x σ' Hz H' hi ⟨_, _, room, cs, ys, rfl, bt, pt, hz, hys, hlen, hcs, hroom, hsz⟩ ⟨rfl, rfl⟩
    have szp := szP_pos hcs
    refine ⟨(by show 8 ≤ sizeLine; decide), fun ls nls => ?_⟩
    obtain ⟨nla, nll⟩ := box_ne pt nls
    have s1 := same_new (o := .lst [.int 2, .int 3, .int 2, .int 4, .int 2, .int 3, .int 9, .int 1]) nls
    have hls : upd H' ls (.lst [.int 2, .int 3, .int 2, .int 4, .int 2, .int 3, .int 9, .int 1]) ls = some (.lst [.int 2, .int 3, .int 2, .int 4, .int 2, .int 3, .int 9, .int 1]) := upd_same
    have pt1 := pt.same s1
    generalize upd H' ls (.lst [.int 2, .int 3, .int 2, .int 4, .int 2, .int 3, .int 9, .int 1]) = J1 at s1 hls pt1 ⊢
    refine ⟨_, rfl, a, l, 8, rfl, pt1, by omega, fun j J2 b2 p2 hj => ?_⟩
    obtain ⟨g, hat, hg⟩ := hIx8 hj
    refine ⟨_, _, _, _, rfl, rfl, .of (b2 _ _ nla nll hls), hat, _, rfl, _, _, rfl, ?_⟩
    obtain ⟨size, es, hs1, hs2, hs3⟩ : ∃ size : Int, (if room < g then room else g) = size ∧ 1 ≤ size ∧ size ≤ 9 ∧ size ≤ room := ⟨_, rfl, by split <;> omega, by split <;> omega, by split <;> omega⟩
    rw [es]
    clear es hat
    refine ⟨_, rfl, _, rfl, _, _, rfl, rfl, ⟨(by show (0 : Int) < size; omega), (by show size < 1073741824; omega)⟩, ?_⟩
    have b02 := (bt.trans (Same.bx s1)).trans b2
    have hz2 := b2 _ _ nza nzl (s1 _ _ hz)
    have hys2 := dps_bx pt1 p2 b2 (dps_same s1 hys) (cellsN _)
    refine ⟨_, rfl, .inl ⟨rfl, _, .of hz2⟩, _, rfl, _, rfl, _, rfl, a, l, size, rfl, p2, by omega, fun h J3 b3 p3 hh => ⟨(by show 2 ≤ sizeLine; decide), fun u nu => ?_⟩⟩
    have s4 := same_new (o := .tup [.int size, .int h]) nu
    have hz3 := s4 _ _ (b3 _ _ nza nzl hz2)
    have d4 : Dp K (upd J3 u (.tup [.int size, .int h])) (.ref u) (cellD (size, h)) := .tup (.of upd_same) (.cons (.int _) (.cons (.int _) .nil))
    have hy4 := dps_same s4 (dps_bx p2 p3 b3 hys2 (cellsN _))
    have p4 := p3.same s4
    have b4 := (b02.trans b3).trans (Same.bx s4)
    generalize upd J3 u (.tup [.int size, .int h]) = J4 at s4 hz3 d4 hy4 p4 b4 ⊢
    have bb : But z J4 (upd J4 z (.lst (ys ++ [.ref u]))) := But.upd
    have lys : ys.length = i := by rw [dps_len hys, List.length_map, hlen]
    refine ⟨z, ys, _, rfl, rfl, hz3, by rw [sizeLine_eq]; omega, _, _, room / size, cs ++ [(size, h)], ys ++ [.ref u], rfl, fun b o n1 n2 e => bb _ _ (ne_of_none e nzH0) (b4 _ _ n1 n2 e), p4.but bb (Ne.symm nza) (Ne.symm nzl), upd_same, ?_, by rw [List.length_append, hlen]; rfl, fun c hc => ?_, ?_, ?_⟩
    · rw [List.map_append]
      exact dps_app (dps_but (.lst hz3) bb hy4 (cellsN _)) (.cons (dp_but (.lst hz3) bb d4 (cell_noL _)) .nil)
    · rcases List.mem_append.mp hc with h' | h'
      · exact hcs c h'
      · rw [List.mem_singleton.mp h']
        exact ⟨hs1, hs2, hh⟩
    · have e1 : 1 ≤ room / size := Int.le_ediv_of_mul_le (by omega) (by omega)
      have e2 : room / size ≤ room := Int.ediv_le_self _ (by omega)
      omega
    · rw [szP_snoc, Int.mul_assoc]
      have e1 : size * (room / size) ≤ room := Int.mul_ediv_self_le (by omega)
      have e2 := Int.mul_le_mul_of_nonneg_left e1 (show 0 ≤ szP cs by omega)
      show szP cs * (size * (room / size)) ≤ 30
      omega
  rintro σ' H6 ⟨_, _, room, cs, cys, rfl, b6, p6, hz6, dz6, hlen, hcs, hroom, hsz⟩
  have lcs : (cs.length : Int) = many := by omega
  have szp := szP_pos hcs
  have sz30 : szP cs ≤ 30 := by
    have := Int.mul_le_mul_of_nonneg_left hroom.1 (show 0 ≤ szP cs by omega)
    omega
  refine ⟨fun σ' H' => ∃ (veil : Int) (x7 x8 : Option V), σ' = [some (.ref a), some (.int coins), some (.int style), some (.int clear), some (.int many), some (.ref z), some (.int room), x7, x8, some (.int veil), none, none, none, none, none, none] ∧ H' = H6 ∧ (0 ≤ veil ∧ veil ≤ 1) ∧ (veil = 1 → style = 3), ?_, ?_⟩
  · refine ⟨_, rfl, rfl, _, rfl, ?_⟩
    by_cases c3 : style = 3
    · rw [decide_eq_true (show V.int style = V.int 3 from congrArg V.int c3)]
      refine iteT ⟨_, rfl, _, _, rfl, rfl, .inr ⟨_, rfl, _, _, _, rfl, rfl, ?_, fun _ => c3⟩⟩
      split <;> decide
    · rw [decide_eq_false (show ¬ V.int style = V.int 3 from fun e => c3 (V.int.inj e))]
      exact iteF (.inr ⟨_, rfl, _, _, _, rfl, rfl, by decide, fun e => by cases e⟩)
  rintro σ1 G1 ⟨veil, _, _, rfl, rfl, hv, hv3⟩
  refine ⟨fun σ' H' => ∃ (x7 x8 : Option V) (cs : List (Int × Int)) (cys : List V), σ' = [some (.ref a), some (.int coins), some (.int style), some (.int clear), some (.int many), some (.ref z), some (.int room), x7, x8, some (.int veil), none, none, none, none, none, none] ∧ Bx a l H H' ∧ BoxAt H' a l ∧ H' z = some (.lst cys) ∧ DpAll K H' cys (cs.map cellD) ∧ (cs.length : Int) = many ∧ (∀ c ∈ cs, CellOk c) ∧ szP cs ≤ 60, ?_, ?_⟩
  · refine ⟨_, rfl, rfl, _, rfl, ?_⟩
    by_cases c1 : veil = 1
    · rw [decide_eq_true (show V.int veil = V.int 1 from congrArg V.int c1)]
      refine iteT ⟨(by show 2 ≤ sizeLine; decide), fun u nu => ?_⟩
      have s1 := same_new (o := .tup [.int 2, .int 0]) nu
      have d1 : Dp K (upd G1 u (.tup [.int 2, .int 0])) (.ref u) (cellD (2, 0)) := .tup (.of upd_same) (.cons (.int _) (.cons (.int _) .nil))
      have hz1 := s1 _ _ hz6
      have dz1 := dps_same s1 dz6
      have p1 := p6.same s1
      have b1 := b6.trans (Same.bx s1)
      generalize upd G1 u (.tup [.int 2, .int 0]) = G2 at d1 hz1 dz1 p1 b1 ⊢
      cases cs with
      | nil => exact absurd lcs (by show ¬ ((0 : Nat) : Int) = many; omega)
      | cons c0 cs =>
      obtain ⟨x0, xs, rfl, e0, er⟩ : ∃ x xs, cys = x :: xs ∧ Dp K G2 x (cellD c0) ∧ DpAll K G2 xs (cs.map cellD) := by
        cases dz1 with | cons h1 h2 => exact ⟨_, _, rfl, h1, h2⟩
      have bb : But z G2 (upd G2 z (.lst (.ref u :: xs))) := But.upd
      refine ⟨_, rfl, z, _, _, 0, rfl, rfl, hz1, ixK (k := 0) (by decide) (by show (0 : Int) < ((xs.length + 1 : Nat) : Int); omega), _, _, (2, 0) :: cs, .ref u :: xs, rfl, fun b o n1 n2 e => bb _ _ (ne_of_none e nzH0) (b1 _ _ n1 n2 e), p1.but bb (Ne.symm nza) (Ne.symm nzl), upd_same, .cons (dp_but (.lst hz1) bb d1 (cell_noL _)) (dps_but (.lst hz1) bb er (cellsN _)), lcs, fun c hc => ?_, ?_⟩
      · rcases List.mem_cons.mp hc with rfl | hc
        · exact ⟨by decide, by decide, by decide, by decide⟩
        · exact hcs c (List.mem_cons_of_mem _ hc)
      · have i1 := szP_pos (cs := cs) fun c hc => hcs c (List.mem_cons_of_mem _ hc)
        have i2 := (hcs c0 List.mem_cons_self).1
        have i3 := Int.mul_le_mul_of_nonneg_right i2 (show 0 ≤ szP cs by omega)
        have i4 : c0.1 * szP cs ≤ 30 := sz30
        show 2 * szP cs ≤ 60
        omega
    · rw [decide_eq_false (show ¬ V.int veil = V.int 1 from fun e => c1 (V.int.inj e))]
      exact iteF ⟨_, _, cs, cys, rfl, b6, p6, hz6, dz6, lcs, hcs, by omega⟩
  rintro σ2 G2 ⟨_, _, cs, cys, rfl, b7, p7, hz7, dz7, lcs, hcs, hsz60⟩
  clear dz6 hz6 b6 p6
  refine ⟨_, rfl, _, rfl, _, rfl, _, _, rfl, rfl, ⟨by decide, by decide⟩, _, _, rfl, rfl, _, _, rfl, rfl, RgOk.of_le (by omega) (by omega) (by omega) (by omega), fun f nf => ?_⟩
  obtain ⟨fs, efs, lfs, hfs⟩ := hRg (b := veil) (n := many - style / 2)
  rw [efs]
  clear efs
  obtain ⟨nfa, nfl⟩ := box_ne p7 nf
  have nzf : z ≠ f := ne_of_none hz7 nf
  have s8 : Same G2 (upd G2 f (.lst (fs.map V.int))) := same_new nf
  have hf8 : upd G2 f (.lst (fs.map V.int)) f = some (.lst (fs.map V.int)) := upd_same
  generalize upd G2 f (.lst (fs.map V.int)) = G3 at s8 hf8 ⊢
  refine ⟨(by show 0 ≤ sizeLine; exact Nat.zero_le _), fun dl ndl => ?_⟩
  have p8 := p7.same s8
  have hz8 := s8 _ _ hz7
  obtain ⟨nda, ndl'⟩ := box_ne p8 ndl
  have nzd : z ≠ dl := ne_of_none hz8 ndl
  have nfd : f ≠ dl := ne_of_none hf8 ndl
  have b8 := b7.trans (Same.bx s8)
  have ndH : H dl = none := nzH nda ndl' b8 ndl
  have s9 : Same G3 (upd G3 dl (.lst [])) := same_new ndl
  have hd9 : upd G3 dl (.lst []) dl = some (.lst []) := upd_same
  generalize upd G3 dl (.lst []) = G4 at s9 hd9 ⊢
  refine ⟨(by show 0 ≤ sizeLine; exact Nat.zero_le _), fun p np => ?_⟩
  have p9 := p8.same s9
  obtain ⟨npa, npl⟩ := box_ne p9 np
  have hz9 := s9 _ _ hz8
  have hf9 := s9 _ _ hf8
  have b9 := b8.trans (Same.bx s9)
  have npH : H p = none := nzH npa npl b9 np
  have nzp : z ≠ p := ne_of_none hz9 np
  have nfp : f ≠ p := ne_of_none hf9 np
  have ndp : dl ≠ p := ne_of_none hd9 np
  have s10 : Same G4 (upd G4 p (.lst [])) := same_new np
  have hp10 : upd G4 p (.lst []) p = some (.lst []) := upd_same
  generalize upd G4 p (.lst []) = G5 at s10 hp10 ⊢
  have vh : VHp K a l z f dl p H G5 cs fs [] [] [] := ⟨b9.trans (Same.bx s10), p9.same s10, ⟨cys, s10 _ _ hz9, dps_same ((s8.trans s9).trans s10) dz7⟩, s10 _ _ hf9, s10 _ _ hd9, .nil, hp10, ⟨nda, ndl', npa, npl, nza, nzl, nfa, nfl⟩, ⟨Ne.symm nzd, Ne.symm nfd, ndp, Ne.symm nzp, Ne.symm nfp⟩, ndH, npH⟩
  clear s8 hf8 s9 hd9 s10 hp10 p9 hz9 hf9 b9 p8 hz8 b8 b7 p7 hz7 dz7
  refine ⟨_, rfl, a, l, 3, rfl, vh.bt, by omega, fun n G6 b6 p6 hn => ⟨_, _, rfl, rfl, _, rfl, by omega, by omega, ?_⟩⟩
  refine for_it (n := (1 + n).toNat) walk_range (fun i σ' H' => ∃ (x7 x8 x13 x14 : Option V) (dys : List V) (ds : List (Str × Int × List Row)), σ' = [some (.ref a), some (.int coins), some (.int style), some (.int clear), some (.int many), some (.ref z), some (.int room), x7, x8, some (.int veil), some (.ref f), some (.ref dl), some (.ref p), x13, x14, none] ∧ VHp K a l z f dl p H H' cs fs dys ds (ds.map (·.1)) ∧ ds.length = i ∧ (∀ d ∈ ds, DeedOk many d) ∧ (ds.map (·.1)).Nodup) ⟨_, _, none, none, [], [], rfl, vh.step b6 p6, rfl, (fun d h => nomatch h), List.nodup_nil⟩ (fun _ _ _ _ _ => trivial) ?_ ?_
  · rintro i x σ' Hz H' hi ⟨_, _, _, _, dys, ds, rfl, v0, hlen, hds, hnd⟩ ⟨rfl, rfl⟩
    have ldy : dys.length = i := by rw [dps_len v0.dd, List.length_map, hlen]
    refine ⟨(by show 6 ≤ sizeLine; decide), fun ls nls => ?_⟩
    obtain ⟨nla, nll⟩ := box_ne v0.bt nls
    have s1 := same_new (o := .lst [.int 1, .int 2, .int 3, .int 1, .int 2, .int 4]) nls
    have hls : upd H' ls (.lst [.int 1, .int 2, .int 3, .int 1, .int 2, .int 4]) ls = some (.lst [.int 1, .int 2, .int 3, .int 1, .int 2, .int 4]) := upd_same
    have v1 := v0.same s1
    generalize upd H' ls (.lst [.int 1, .int 2, .int 3, .int 1, .int 2, .int 4]) = J1 at s1 hls v1 ⊢
    refine ⟨_, rfl, a, l, 6, rfl, v1.bt, by omega, fun j J2 b2 p2 hj => ?_⟩
    obtain ⟨ch, hat, hch⟩ := hIx6 hj
    have v2 := v1.step b2 p2
    refine ⟨_, _, _, _, rfl, rfl, .of (b2 _ _ nla nll hls), hat, ?_⟩
    refine ⟨_, rfl, _, rfl, _, rfl, _, _, rfl, rfl, _, rfl, a, l, style, many - 1, coins, many, rfl, p2, ⟨by omega, by omega⟩, by omega, fun w1 r1 J3 b3 p3 d3 hid => ?_⟩
    have v3 := v2.step b3 p3
    refine ⟨_, rfl, _, rfl, _, rfl, a, l, f, fs, coins, many, rfl, p3, v3.hf, ⟨by omega, by omega⟩, fun x hx => by have := hfs x hx; omega, nfa, nfl, fun w2 r2 J4 b4 p4 d4 ok4 cc4 c04 cl4 le4 => ?_⟩
    have v4 := v3.step b4 p4
    refine cat_rows (dp_bx p3 p4 b4 d3 (.tup (rows_noL r1))) d4 (by have := hid.le; omega) fun w3 J5 s5 d5 => ?_
    have v5 := v4.same s5
    refine ⟨_, rfl, .inl ⟨rfl, _, .of v5.hd⟩, _, rfl, _, rfl, a, l, p, ds.map (·.1), rfl, v5.bt, v5.hp, npa, npl, by rw [List.length_map]; omega, fun s J6 J7 b6 p6 hp6 b7 p7 hp7 nok nin => ?_⟩
    have v7 := (v5.step b6 p6).named b7 hp7
    have d7 := dp_but (.lst hp6) b7 (dp_bx v5.bt p6 b6 d5 (.tup (rows_noL _))) (.tup (rows_noL _))
    refine ⟨_, rfl, _, rfl, (by show 3 ≤ sizeLine; decide), fun t nt => ?_⟩
    have s8 := same_new (o := .tup [.str s, .int ch, w3]) nt
    have d8 : Dp K (upd J7 t (.tup [.str s, .int ch, w3])) (.ref t) (deedD (s, ch, r1 ++ r2)) := .tup (.of upd_same) (.cons (.str _) (.cons (.int _) (.cons (dp_same s8 d7) .nil)))
    have v8 := v7.same s8
    generalize upd J7 t (.tup [.str s, .int ch, w3]) = J8 at s8 d8 v8 ⊢
    refine ⟨dl, dys, _, rfl, rfl, v8.hd, by rw [sizeLine_eq]; omega, _, _, _, _, dys ++ [.ref t], ds ++ [(s, ch, r1 ++ r2)], rfl, ?_, by rw [List.length_append, hlen]; rfl, fun d hd => ?_, ?_⟩
    · rw [List.map_append]
      exact v8.deed But.upd upd_same (by rw [List.map_append]; exact dps_app v8.dd (.cons d8 .nil))
    · rcases List.mem_append.mp hd with h | h
      · exact hds d h
      · rw [List.mem_singleton.mp h]
        refine ⟨nok, ⟨hch.1, by show ch ≤ 9; omega⟩, ok_app hid.ok ok4, ?_, ?_⟩
        · show rowsCc (r1 ++ r2) ≤ 4
          rw [cc_app]
          have := hid.cc
          omega
        · show rowsCl (r1 ++ r2) ≤ 2000
          rw [cl_app]
          have := hid.cl
          omega
    · rw [List.map_append]
      exact List.nodup_append.mpr ⟨hnd, List.nodup_cons.mpr ⟨(fun h => nomatch h), List.nodup_nil⟩, fun x hx y hy e => by
        rw [List.mem_singleton.mp (show y ∈ [s] from hy)] at e
        exact nin (e ▸ hx)⟩
  rintro σ3 G7 ⟨_, _, _, _, dys, ds, rfl, vh, hlen, hds, hnd⟩
  clear b6 p6
  refine ⟨fun σ' H' => ∃ (x7 x8 x13 x14 x15 : Option V) (dys : List V) (ds : List (Str × Int × List Row)) (ns : List Str), σ' = [some (.ref a), some (.int coins), some (.int style), some (.int clear), some (.int many), some (.ref z), some (.int room), x7, x8, some (.int veil), some (.ref f), some (.ref dl), some (.ref p), x13, x14, x15] ∧ VHp K a l z f dl p H H' cs fs dys ds ns ∧ (1 ≤ ds.length ∧ ds.length ≤ 4) ∧ (∀ d ∈ ds, DeedOk many d) ∧ (ds.map (·.1)).Nodup, ?_, ?_⟩
  · refine ⟨_, rfl, _, _, rfl, rfl, _, rfl, ?_⟩
    by_cases cc : 0 < clear
    case neg =>
      rw [decide_eq_false cc]
      exact iteF ⟨_, _, _, _, _, dys, ds, _, rfl, vh, ⟨by omega, by omega⟩, hds, hnd⟩
    rw [decide_eq_true cc]
    refine iteT ⟨(by show 0 ≤ sizeLine; exact Nat.zero_le _), fun gl ngl => ?_⟩
    obtain ⟨nga, ngl'⟩ := box_ne vh.bt ngl
    have s1 : Same G7 (upd G7 gl (.lst [])) := same_new ngl
    have hg1 : upd G7 gl (.lst []) gl = some (.lst []) := upd_same
    have v1 := vh.same s1
    generalize upd G7 gl (.lst []) = J1 at s1 hg1 v1 ⊢
    have ngp : gl ≠ p := fun e => by
      have := vh.hp
      rw [← e, ngl] at this
      cases this
    have ngd : gl ≠ dl := fun e => by
      have := vh.hd
      rw [← e, ngl] at this
      cases this
    obtain ⟨k, hk⟩ : ∃ k : Nat, many - style / 2 = (k : Int) := ⟨(many - style / 2).toNat, by omega⟩
    refine ⟨_, rfl, _, rfl, _, _, rfl, rfl, ⟨by decide, by decide⟩, _, _, rfl, rfl, _, rfl, by omega, by omega, ?_⟩
    rw [hk]
    refine for_it (n := ((k : Nat) : Int).toNat) walk_range (fun i σ' H' => ∃ (x7 : Option V) (gys : List V), σ' = [some (.ref a), some (.int coins), some (.int style), some (.int clear), some (.int many), some (.ref z), some (.int room), x7, _, some (.int veil), some (.ref f), some (.ref dl), some (.ref p), _, _, some (.ref gl)] ∧ Same G7 H' ∧ H' gl = some (.lst gys) ∧ DpAll K H' gys ((getsR i).map Row.d)) ⟨_, [], rfl, s1, hg1, .nil⟩ (fun _ _ _ _ _ => trivial) ?_ ?_
    · rintro i x σ' Hz H' hi ⟨_, gys, rfl, sG, hg, dg⟩ ⟨rfl, rfl⟩
      rw [Int.toNat_natCast] at hi
      have lg : gys.length = i := by rw [dps_len dg, List.length_map, (getsR_ok (c := 100) (n := i) (by omega) (by omega)).2.2.2]
      refine ⟨_, rfl, .inl ⟨rfl, _, .of hg⟩, 0 + (i : Int), rfl, fun vt J2 s2 d2 => ?_⟩
      have hg2 := s2 _ _ hg
      have d2 : Dp K J2 vt (getR ((i : Nat) : Int)).d := by rw [show ((i : Nat) : Int) = 0 + (i : Int) from by omega]; exact d2
      have bb : But gl J2 (upd J2 gl (.lst (gys ++ [vt]))) := But.upd
      refine ⟨gl, gys, _, rfl, rfl, hg2, by rw [sizeLine_eq]; omega, _, gys ++ [vt], rfl, fun b o e => bb _ _ (ne_of_none e ngl) ((sG.trans s2) _ _ e), upd_same, ?_⟩
      rw [getsR_more, List.map_append]
      have rn : ∀ d ∈ (getsR i).map Row.d, NoL d := fun d hd => by
        obtain ⟨r, _, rfl⟩ := List.mem_map.mp hd
        exact r.noL
      exact dps_app (dps_but (.lst hg2) bb (dps_same s2 dg) rn) (.cons (dp_but (.lst hg2) bb d2 (Row.noL _)) .nil)
    rintro σ' J2 ⟨_, gys, rfl, sG, hg, dg⟩
    rw [Int.toNat_natCast] at dg
    obtain ⟨go, gc, gcl, gle⟩ := getsR_ok (c := many) (n := k) (by omega) (by omega)
    have lg : gys.length = k := by rw [dps_len dg, List.length_map, gle]
    have v2 := vh.same sG
    have ldy : dys.length = ds.length := by rw [dps_len v2.dd, List.length_map]
    refine ⟨_, rfl, .inl ⟨rfl, _, .of v2.hd⟩, _, rfl, _, rfl, dl, _, rfl, .inl (.of v2.hd), _, _, rfl, rfl, a, l, (dys.length : Int) + 1, rfl, v2.bt, by omega, fun j J3 b3 p3 hj => ?_⟩
    have v3 := v2.step b3 p3
    refine ⟨_, rfl, _, rfl, a, l, p, ds.map (·.1), rfl, v3.bt, v3.hp, npa, npl, by rw [List.length_map]; omega, fun s J6 J7 b6 p6 hp6 b7 p7 hp7 nok nin => ?_⟩
    have v7 := (v3.step b6 p6).named b7 hp7
    have hg7 := b7 _ _ ngp (b6 _ _ nga ngl' (b3 _ _ nga ngl' hg))
    have rn : ∀ d ∈ (getsR k).map Row.d, NoL d := fun d hd => by
      obtain ⟨r, _, rfl⟩ := List.mem_map.mp hd
      exact r.noL
    have dg7 := dps_but (.lst hp6) b7 (dps_bx v2.bt p6 (b3.trans b6) dg rn) rn
    refine ⟨_, rfl, gl, _, rfl, .inl (.of hg7), _, rfl, .inl ⟨gl, gys, rfl, .of hg7, fun u nu => ⟨(by show 3 ≤ sizeLine; decide), fun t nt => ?_⟩⟩⟩
    have s8 := same_new (o := .tup gys) nu
    have hu8 : upd J7 u (.tup gys) u = some (.tup gys) := upd_same
    generalize upd J7 u (.tup gys) = J8 at s8 hu8 nt ⊢
    have s9 := same_new (o := .tup [.str s, .int ((gys.length : Nat) : Int), .ref u]) nt
    have d9 : Dp K (upd J8 t (.tup [.str s, .int ((gys.length : Nat) : Int), .ref u])) (.ref t) (deedD (s, (k : Int), getsR k)) := by
      rw [lg]
      refine .tup (.of upd_same) (.cons (.str _) (.cons (.int _) (.cons (.tup (.of (same_new nt _ _ hu8)) ?_) .nil)))
      rw [rowsD_map]
      rw [lg] at s9
      exact dps_same (s8.trans s9) dg7
    have v9 := (v7.same s8).same s9
    generalize upd J8 t (.tup [.str s, .int ((gys.length : Nat) : Int), .ref u]) = J9 at s9 d9 v9 ⊢
    have pm : (ds.take j.toNat ++ [(s, (k : Int), getsR k)] ++ ds.drop j.toNat).Perm ((s, (k : Int), getsR k) :: ds) := by
      rw [List.append_assoc]
      have := List.perm_middle (a := (s, (k : Int), getsR k)) (l₁ := ds.take j.toNat) (l₂ := ds.drop j.toNat)
      rw [List.take_append_drop] at this
      exact this
    refine ⟨dl, dys, j, _, rfl, rfl, v9.hd, by rw [sizeLine_eq]; omega, hj.1, by omega, _, _, _, _, _, dys.take j.toNat ++ [.ref t] ++ dys.drop j.toNat, ds.take j.toNat ++ [(s, (k : Int), getsR k)] ++ ds.drop j.toNat, _, rfl, v9.deed But.upd upd_same ?_, ?_, fun d hd => ?_, ?_⟩
    · rw [List.map_append, List.map_append, List.map_take, List.map_drop]
      exact dps_app (dps_app (hDps_take _ v9.dd) (.cons d9 .nil)) (hDps_drop _ v9.dd)
    · rw [pm.length_eq, List.length_cons]
      omega
    · rcases List.mem_cons.mp (pm.mem_iff.mp hd) with rfl | h
      · refine ⟨nok, ⟨by show (1 : Int) ≤ (k : Int); omega, by show (k : Int) ≤ 9; omega⟩, go, ?_, ?_⟩
        · show rowsCc (getsR k) ≤ 4
          omega
        · show rowsCl (getsR k) ≤ 2000
          omega
      · exact hds d h
    · rw [(pm.map (·.1)).nodup_iff]
      exact List.nodup_cons.mpr ⟨nin, hnd⟩
  rintro σ4 G8 ⟨_, _, _, _, _, dys, ds, ns, rfl, v8, hl, hds, hnd⟩
  obtain ⟨cys, hz8, dz8⟩ := v8.hz
  refine ⟨_, rfl, .inl ⟨z, cys, rfl, .of hz8, fun t1 nt1 => ?_⟩⟩
  have s1 := same_new (o := .tup cys) nt1
  have e1 : upd G8 t1 (.tup cys) t1 = some (.tup cys) := upd_same
  have v9 := v8.same s1
  have dz9 := dps_same s1 dz8
  generalize upd G8 t1 (.tup cys) = G9 at s1 e1 v9 dz9 ⊢
  refine ⟨_, rfl, .inl ⟨dl, dys, rfl, .of v9.hd, fun t2 nt2 => ?_⟩⟩
  have s2 := same_new (o := .tup dys) nt2
  have e2 : upd G9 t2 (.tup dys) t2 = some (.tup dys) := upd_same
  have v10 := v9.same s2
  have dz10 := dps_same s2 dz9
  have e12 := s2 _ _ e1
  generalize upd G9 t2 (.tup dys) = G10 at s2 e2 v10 dz10 e12 ⊢
  refine ⟨(by show 2 ≤ sizeLine; decide), fun t3 nt3 => ?_⟩
  have s3 := same_new (o := .tup [.ref t1, .ref t2]) nt3
  have v11 := v10.same s3
  refine q t3 ⟨cs, ds⟩ _ v11.bx v11.bt ⟨t1, t2, cys, dys, .of upd_same, .of (s3 _ _ e12), dps_same s3 dz10, .of (s3 _ _ e2), v11.dd⟩ ⟨by show 1 ≤ cs.length; omega, by show cs.length ≤ 3; omega, hcs, hsz60, hl.1, hl.2, by show ∀ d ∈ ds, DeedOk (cs.length : Nat) d; rw [lcs]; exact hds, hnd⟩
end

end M

set_option Elab.async false
set_option linter.all false
set_option maxRecDepth 100000
set_option maxHeartbeats 2000000
namespace M
open PySem PySem.Spec PyProof.Rows L2

/-! ### what rows may come to, all in all -/
mutual
/-- steps at most -/
def mxR : Row → Nat
  | .read .. => 1
  | .set .. => 1
  | .swap .. => 1
  | .iff _ a b => mxs a + mxs b
  | .times _ a => 9 * mxs a
  | _ => 0
def mxs : List Row → Nat
  | [] => 0
  | r :: rs => mxR r + mxs rs
end
mutual
theorem cc_loop {c : Int} : ∀ {r : Row} {deep loops : Nat}, r.ok c deep loops → 0 < loops → r.cc = 0
  | .read .., _, _, _, _ => rfl
  | .set .., _, _, _, _ => rfl
  | .swap .., _, _, _, _ => rfl
  | .keep .., _, _, _, _ => rfl
  | .ans .., _, _, _, _ => rfl
  | .coin .., _, _, h, l => by have := h.2; omega
  | .iff e a b, _, _, h, l => by
    show rowsCc a + rowsCc b = 0
    rw [ccs_loop h.2.1 l, ccs_loop h.2.2 l]
  | .times e a, _, loops, h, l => ccs_loop (rs := a) h.2.2 (Nat.succ_pos loops)
theorem ccs_loop {c : Int} : ∀ {rs : List Row} {deep loops : Nat}, rowsOk c deep loops rs → 0 < loops → rowsCc rs = 0
  | [], _, _, _, _ => rfl
  | r :: rs, _, _, h, l => by
    show r.cc + rowsCc rs = 0
    rw [cc_loop h.2.1 l, ccs_loop h.2.2 l]
end
/-- how things stand behind some rows -/
structure Aft (st s : Mst) (cc mx : Nat) (t : List PyData) : Prop where
  mo : MOk s
  sd : s.sides = st.sides
  co : s.coins = st.coins
  le : s.cells.length = st.cells.length
  f0 : st.fallen ≤ s.fallen
  f1 : s.fallen ≤ st.fallen + cc
  ln : t.length ≤ mx
theorem Aft.then {st m s : Mst} {c1 c2 m1 m2 : Nat} {t u : List PyData} (a : Aft st m c1 m1 t) (b : Aft m s c2 m2 u) : Aft st s (c1 + c2) (m1 + m2) (t ++ u) :=
  ⟨b.mo, b.sd.trans a.sd, b.co.trans a.co, b.le.trans a.le, Int.le_trans a.f0 b.f0, by have := a.f1; have := b.f1; omega, by rw [List.length_append]; have := a.ln; have := b.ln; omega⟩
theorem Aft.more {st s : Mst} {cc mx c2 m2 : Nat} {t : List PyData} (a : Aft st s cc mx t) (hc : cc ≤ c2) (hm : mx ≤ m2) : Aft st s c2 m2 t := ⟨a.mo, a.sd, a.co, a.le, a.f0, by have := a.f1; omega, Nat.le_trans a.ln hm⟩
theorem fok_of {n : Nat} {r : Row} {deep loops : Nat} (h : r.ok n deep loops) (p : plainR r ∨ (∃ x, r = .coin x)) : FOk n (.row r) := by
  cases r with
  | read r k => exact h
  | set k e => exact h
  | swap r k e f => exact h
  | keep r e => exact h
  | coin r => exact h.1
  | iff e a b => rcases p with p | ⟨x, p⟩; exact p.elim; cases p
  | times e a => rcases p with p | ⟨x, p⟩; exact p.elim; cases p
  | ans e => exact h
mutual
theorem aft_row : ∀ {r : Row} {st s : Mst} {o : Option Int} {t : List PyData} {deep loops : Nat}, RowS r st s o t → r.ok st.cells.length deep loops → MOk st → Aft st s r.cc (mxR r) t
  | r, _, _, _, _, _, _, .plain (st := st) h, ok, m => by
    have fk := fok_of ok (.inl h)
    have can : Can (.row r) st := by cases r <;> first | trivial | exact h.elim
    have mo := m.step fk can
    cases r with
    | read r k => exact ⟨mo, rfl, rfl, rfl, Int.le_refl _, by show st.fallen ≤ st.fallen + ((0 : Nat) : Int); omega, Nat.le_refl 1⟩
    | set k e => exact ⟨mo, rfl, rfl, List.length_set, Int.le_refl _, by show st.fallen ≤ st.fallen + ((0 : Nat) : Int); omega, Nat.le_refl 1⟩
    | swap r k e f =>
      have z : ∀ s', s' = stp1 (.row (.swap r k e f)) st → s'.sides = st.sides ∧ s'.coins = st.coins ∧ s'.cells.length = st.cells.length ∧ s'.fallen = st.fallen := fun s' e' => by
        rw [e']
        show (if st.cells.getD k.toNat 0 = e.ev st.regs then ({ st with cells := st.cells.set k.toNat (f.ev st.regs % st.sides.getD k.toNat 0), regs := rset st.regs r 1 } : Mst) else { st with regs := rset st.regs r 0 }).sides = _ ∧ (if st.cells.getD k.toNat 0 = e.ev st.regs then ({ st with cells := st.cells.set k.toNat (f.ev st.regs % st.sides.getD k.toNat 0), regs := rset st.regs r 1 } : Mst) else { st with regs := rset st.regs r 0 }).coins = _ ∧ (if st.cells.getD k.toNat 0 = e.ev st.regs then ({ st with cells := st.cells.set k.toNat (f.ev st.regs % st.sides.getD k.toNat 0), regs := rset st.regs r 1 } : Mst) else { st with regs := rset st.regs r 0 }).cells.length = _ ∧ (if st.cells.getD k.toNat 0 = e.ev st.regs then ({ st with cells := st.cells.set k.toNat (f.ev st.regs % st.sides.getD k.toNat 0), regs := rset st.regs r 1 } : Mst) else { st with regs := rset st.regs r 0 }).fallen = _
        split
        · exact ⟨rfl, rfl, List.length_set, rfl⟩
        · exact ⟨rfl, rfl, rfl, rfl⟩
      obtain ⟨z1, z2, z3, z4⟩ := z _ rfl
      exact ⟨mo, z1, z2, z3, by rw [z4]; exact Int.le_refl _, by rw [z4]; show st.fallen ≤ st.fallen + ((0 : Nat) : Int); omega, Nat.le_refl 1⟩
    | keep r e => exact ⟨mo, rfl, rfl, rfl, Int.le_refl _, by show st.fallen ≤ st.fallen + ((0 : Nat) : Int); omega, Nat.le_refl 0⟩
    | _ => exact h.elim
  | _, _, _, _, _, _, _, .coin (x := x) (st := st) h, ok, m => by
    have mo := m.step (f := .row (.coin x)) ok.1 h
    exact ⟨mo, rfl, rfl, rfl, by show st.fallen ≤ st.fallen + 1; omega, by show st.fallen + 1 ≤ st.fallen + ((1 : Nat) : Int); omega, Nat.le_refl 0⟩
  | _, _, _, _, _, _, _, .ans (e := e) (st := st), ok, m => ⟨m, rfl, rfl, rfl, Int.le_refl _, by show st.fallen ≤ st.fallen + ((0 : Nat) : Int); omega, Nat.le_refl 0⟩
  | _, _, _, _, _, _, _, .yes (e := e) (a := a) (b := b) h r, ok, m => (aft_rows r ok.2.1 m).more (Nat.le_add_right ..) (Nat.le_add_right ..)
  | _, _, _, _, _, _, _, .no (e := e) (a := a) (b := b) h r, ok, m => (aft_rows r ok.2.2 m).more (Nat.le_add_left ..) (Nat.le_add_left ..)
  | _, _, _, _, _, _, loops, .times (e := e) (a := a) (n := n) (st := st) hn r, ok, m => by
    have b := ev_bd m.rg ok.1.1
    have n9 : n ≤ 9 := by omega
    exact (aft_times r ok.2.2 (Nat.succ_pos _) m).more (Nat.zero_le _) (Nat.mul_le_mul_right _ n9)
theorem aft_rows : ∀ {rs : List Row} {st s : Mst} {o : Option Int} {t : List PyData} {deep loops : Nat}, RowsS rs st s o t → rowsOk st.cells.length deep loops rs → MOk st → Aft st s (rowsCc rs) (mxs rs) t
  | _, _, _, _, _, _, _, .nil (st := st), _, m => ⟨m, rfl, rfl, rfl, Int.le_refl _, by show st.fallen ≤ st.fallen + ((0 : Nat) : Int); omega, Nat.le_refl 0⟩
  | _, _, _, _, _, _, _, .stop h, ok, m => (aft_row h ok.2.1 m).more (Nat.le_add_right ..) (Nat.le_add_right ..)
  | _, _, _, _, _, _, _, .cons h k, ok, m => by
    have a := aft_row h ok.2.1 m
    exact a.then (aft_rows k (by rw [a.le]; exact ok.2.2) a.mo)
theorem aft_times : ∀ {n : Nat} {a : List Row} {st s : Mst} {o : Option Int} {t : List PyData} {deep loops : Nat}, TimesS n a st s o t → rowsOk st.cells.length deep loops a → 0 < loops → MOk st → Aft st s 0 (n * mxs a) t
  | _, a, _, _, _, _, _, _, .zero (st := st), _, _, m => ⟨m, rfl, rfl, rfl, Int.le_refl _, by omega, Nat.zero_le _⟩
  | _, a, _, _, _, _, _, _, .stop (n := n) h, ok, l, m => by
    have z := aft_rows h ok m
    rw [ccs_loop ok l] at z
    exact z.more (Nat.le_refl 0) (by rw [Nat.succ_mul]; exact Nat.le_add_left ..)
  | _, a, _, _, _, _, _, _, .more (n := n) h k, ok, l, m => by
    have z := aft_rows h ok m
    rw [ccs_loop ok l] at z
    have z2 := z.then (aft_times k (by rw [z.le]; exact ok) l z.mo)
    exact z2.more (Nat.le_refl 0) (by rw [Nat.succ_mul]; exact Nat.le_of_eq (Nat.add_comm ..))
end
/-! ### rows one behind the other -/
theorem rowsS_app : ∀ {as bs : List Row} {st m s : Mst} {o : Option Int} {t u : List PyData}, RowsS as st m none t → RowsS bs m s o u → RowsS (as ++ bs) st s o (t ++ u)
  | _, _, _, _, _, _, _, _, .nil, k => k
  | _, _, _, _, _, _, _, _, .cons h k0, k => by
    rw [List.append_assoc]
    exact .cons h (rowsS_app k0 k)
theorem rowsS_one {r : Row} {st s : Mst} {t : List PyData} (h : RowS r st s none t) : RowsS [r] st s none t := by
  have z := RowsS.cons h .nil
  rw [List.append_nil] at z
  exact z
/-- the next row, of those that are gone through -/
theorem rowsS_more {rs : List Row} {i : Nat} {r : Row} {st m s : Mst} {t u : List PyData} (hi : rs[i]? = some r) (h : RowsS (rs.take i) st m none t) (k : RowS r m s none u) : RowsS (rs.take (i + 1)) st s none (t ++ u) := by
  rw [take_more hi]
  exact rowsS_app h (rowsS_one k)
theorem rowsS_end {rs : List Row} {i : Nat} {r : Row} {st m s : Mst} {v : Int} {t u : List PyData} (hi : rs[i]? = some r) (h : RowsS (rs.take i) st m none t) (k : RowS r m s (some v) u) : RowsS rs st s (some v) (t ++ u) := by
  obtain ⟨hl, rfl⟩ := List.getElem?_eq_some_iff.mp hi
  have e : rs = rs.take i ++ rs[i] :: rs.drop (i + 1) := by rw [List.getElem_cons_drop, List.take_append_drop]
  have z := rowsS_app h (RowsS.stop (rs := rs.drop (i + 1)) k)
  rw [← e] at z
  exact z
theorem ok_take {c : Int} {deep loops : Nat} : ∀ {rs : List Row} (i : Nat), rowsOk c deep loops rs → rowsOk c deep loops (rs.take i)
  | [], i, _ => by rw [List.take_nil]; trivial
  | r :: rs, 0, _ => trivial
  | r :: rs, i + 1, h => ⟨h.1, h.2.1, ok_take i h.2.2⟩
theorem cc_take : ∀ {rs : List Row} {i : Nat} {r : Row}, rs[i]? = some r → rowsCc (rs.take i) + r.cc ≤ rowsCc rs
  | [], i, r, h => by simp at h
  | a :: rs, 0, r, h => by
    cases (Option.some.inj h)
    show 0 + a.cc ≤ a.cc + rowsCc rs
    omega
  | a :: rs, i + 1, r, h => by
    have := cc_take (rs := rs) (i := i) h
    show (a.cc + rowsCc (rs.take i)) + r.cc ≤ a.cc + rowsCc rs
    omega
theorem mx_take : ∀ {rs : List Row} {i : Nat} {r : Row}, rs[i]? = some r → mxs (rs.take i) + mxR r ≤ mxs rs
  | [], i, r, h => by simp at h
  | a :: rs, 0, r, h => by
    cases (Option.some.inj h)
    show 0 + mxR a ≤ mxR a + mxs rs
    omega
  | a :: rs, i + 1, r, h => by
    have := mx_take (rs := rs) (i := i) h
    show (mxR a + mxs (rs.take i)) + mxR r ≤ mxR a + mxs rs
    omega
/-- i turns without an answer -/
def TurnsT : Nat → List Row → Mst → Mst → List PyData → Prop
  | 0, _, st, s, t => st = s ∧ t = []
  | i + 1, a, st, s, t => ∃ m u v, t = u ++ v ∧ TurnsT i a st m u ∧ RowsS a m s none v
theorem turnsT_then : ∀ {i n : Nat} {a : List Row} {st m s : Mst} {o : Option Int} {t u : List PyData}, TurnsT i a st m t → TimesS n a m s o u → TimesS (i + n) a st s o (t ++ u)
  | 0, n, a, st, m, s, o, t, u, ⟨h1, h2⟩, k => by
    subst h1
    subst h2
    rw [Nat.zero_add]
    exact k
  | i + 1, n, a, st, m, s, o, t, u, ⟨x, v, w, e, h1, h2⟩, k => by
    have := turnsT_then (i := i) (n := n + 1) h1 (.more h2 k)
    rw [show i + 1 + n = i + (n + 1) from by omega, e, List.append_assoc]
    exact this
theorem turnsT_all {n : Nat} {a : List Row} {st s : Mst} {t : List PyData} (h : TurnsT n a st s t) : TimesS n a st s none t := by
  have z := turnsT_then (n := 0) h .zero
  rw [List.append_nil] at z
  exact z
theorem turnsT_stop {i n : Nat} {a : List Row} {st m s : Mst} {v : Int} {t u : List PyData} (hi : i < n) (h : TurnsT i a st m t) (k : RowsS a m s (some v) u) : TimesS n a st s (some v) (t ++ u) := by
  obtain ⟨j, rfl⟩ : ∃ j, n = i + (j + 1) := ⟨n - i - 1, by omega⟩
  exact turnsT_then h (.stop k)
/-! ### each step changes but its cell -/
inductive NearT : List Int → List PyData → List Int → Prop
  | nil {c : List Int} : NearT c [] c
  | cons {c d e : List Int} {wd : Str} {k z : Int} {t : List PyData} (h : ∀ j : Nat, d[j]? ≠ c[j]? → (j : Int) = k ∧ wd ≠ "read") (l : d.length = c.length) (r : NearT d t e) : NearT c (.tuple [.str wd, .int k, .int z, .tuple (d.map .int)] :: t) e
theorem NearT.app : ∀ {c d e : List Int} {t u : List PyData}, NearT c t d → NearT d u e → NearT c (t ++ u) e
  | _, _, _, _, _, .nil, k => k
  | _, _, _, _, _, .cons h l r, k => .cons h l (r.app k)
theorem near_set {c : List Int} {k v : Int} (h0 : 0 ≤ k) {wd : Str} (hw : wd ≠ "read") : ∀ j : Nat, (c.set k.toNat v)[j]? ≠ c[j]? → (j : Int) = k ∧ wd ≠ "read" := fun j hj => by
  by_cases e : k.toNat = j
  · exact ⟨by omega, hw⟩
  · exact absurd (List.getElem?_set_ne e) hj
theorem w_set : (("set" : Str) ≠ "read") := by decide +kernel
theorem w_swap : (("swap" : Str) ≠ "read") := by decide +kernel
mutual
theorem near_row : ∀ {r : Row} {st s : Mst} {o : Option Int} {t : List PyData} {deep loops : Nat}, RowS r st s o t → r.ok st.cells.length deep loops → MOk st → NearT st.cells t s.cells
  | r, _, _, _, _, _, _, .plain (st := st) h, ok, m => by
    cases r with
    | read r k => exact .cons (fun j hj => absurd rfl hj) rfl .nil
    | set k e => exact .cons (near_set ok.1.1 w_set) List.length_set .nil
    | swap r k e f =>
      show NearT st.cells (tell (.row (.swap r k e f)) (if st.cells.getD k.toNat 0 = e.ev st.regs then ({ st with cells := st.cells.set k.toNat (f.ev st.regs % st.sides.getD k.toNat 0), regs := rset st.regs r 1 } : Mst) else { st with regs := rset st.regs r 0 })) (if st.cells.getD k.toNat 0 = e.ev st.regs then ({ st with cells := st.cells.set k.toNat (f.ev st.regs % st.sides.getD k.toNat 0), regs := rset st.regs r 1 } : Mst) else { st with regs := rset st.regs r 0 }).cells
      split
      · exact .cons (near_set ok.2.1.1 w_swap) List.length_set .nil
      · exact .cons (fun j hj => absurd rfl hj) rfl .nil
    | keep r e => exact .nil
    | _ => exact h.elim
  | _, _, _, _, _, _, _, .coin (x := x) (st := st) h, ok, m => .nil
  | _, _, _, _, _, _, _, .ans (e := e) (st := st), ok, m => .nil
  | _, _, _, _, _, _, _, .yes h r, ok, m => near_rows r ok.2.1 m
  | _, _, _, _, _, _, _, .no h r, ok, m => near_rows r ok.2.2 m
  | _, _, _, _, _, _, _, .times hn r, ok, m => near_times r ok.2.2 (Nat.succ_pos _) m
theorem near_rows : ∀ {rs : List Row} {st s : Mst} {o : Option Int} {t : List PyData} {deep loops : Nat}, RowsS rs st s o t → rowsOk st.cells.length deep loops rs → MOk st → NearT st.cells t s.cells
  | _, _, _, _, _, _, _, .nil, _, m => .nil
  | _, _, _, _, _, _, _, .stop h, ok, m => near_row h ok.2.1 m
  | _, _, _, _, _, _, _, .cons h k, ok, m => by
    have a := aft_row h ok.2.1 m
    exact (near_row h ok.2.1 m).app (near_rows k (by rw [a.le]; exact ok.2.2) a.mo)
theorem near_times : ∀ {n : Nat} {a : List Row} {st s : Mst} {o : Option Int} {t : List PyData} {deep loops : Nat}, TimesS n a st s o t → rowsOk st.cells.length deep loops a → 0 < loops → MOk st → NearT st.cells t s.cells
  | _, a, _, _, _, _, _, _, .zero, _, _, m => .nil
  | _, a, _, _, _, _, _, _, .stop h, ok, l, m => near_rows h ok m
  | _, a, _, _, _, _, _, _, .more h k, ok, l, m => by
    have z := aft_rows h ok m
    exact (near_rows h ok m).app (near_times k (by rw [z.le]; exact ok) l z.mo)
end
/-! ### coins that are not needed do not matter -/
def cutM (m : Nat) (st : Mst) : Mst := { st with coins := st.coins.take m }
theorem cut_plain {r : Row} (h : plainR r) (m : Nat) (st : Mst) : stp1 (.row r) (cutM m st) = cutM m (stp1 (.row r) st) := by
  cases r with
  | swap r k e f =>
    show (if st.cells.getD k.toNat 0 = e.ev st.regs then ({ cutM m st with cells := st.cells.set k.toNat (f.ev st.regs % st.sides.getD k.toNat 0), regs := rset st.regs r 1 } : Mst) else { cutM m st with regs := rset st.regs r 0 }) = cutM m (if st.cells.getD k.toNat 0 = e.ev st.regs then { st with cells := st.cells.set k.toNat (f.ev st.regs % st.sides.getD k.toNat 0), regs := rset st.regs r 1 } else { st with regs := rset st.regs r 0 })
    split <;> rfl
  | read r k => rfl
  | set k e => rfl
  | keep r e => rfl
  | _ => exact h.elim
theorem cut_tell {r : Row} (m : Nat) (st : Mst) : tell (.row r) (cutM m st) = tell (.row r) st := by cases r <;> rfl
mutual
theorem cut_row (m : Nat) : ∀ {r : Row} {st s : Mst} {o : Option Int} {t : List PyData} {deep loops : Nat}, RowS r st s o t → r.ok st.cells.length deep loops → MOk st → s.fallen ≤ m → m ≤ st.coins.length → RowS r (cutM m st) (cutM m s) o t
  | r, _, _, _, _, _, _, .plain (st := st) h, ok, mo, hm, hl => by
    rw [← cut_plain h, ← cut_tell m, ← cut_plain h]
    exact .plain h
  | _, _, _, _, _, _, _, .coin (x := x) (st := st) h, ok, mo, hm, hl => by
    have hm : st.fallen + 1 ≤ m := hm
    have e : cutM m (stp1 (.row (.coin x)) st) = stp1 (.row (.coin x)) (cutM m st) := by
      show cutM m { st with regs := rset st.regs x (st.coins.getD st.fallen.toNat 0), fallen := st.fallen + 1 } = { cutM m st with regs := rset st.regs x ((st.coins.take m).getD st.fallen.toNat 0), fallen := st.fallen + 1 }
      have : (st.coins.take m).getD st.fallen.toNat 0 = st.coins.getD st.fallen.toNat 0 := by
        rw [List.getD_eq_getElem?_getD, List.getD_eq_getElem?_getD, List.getElem?_take, if_pos (by omega)]
      rw [this]
      rfl
    rw [e]
    exact .coin ⟨h.1, by show st.fallen < ((st.coins.take m).length : Nat); rw [List.length_take]; omega⟩
  | _, _, _, _, _, _, _, .ans (e := e) (st := st), ok, mo, hm, hl => .ans
  | _, _, _, _, _, _, _, .yes h r, ok, mo, hm, hl => .yes h (cut_rows m r ok.2.1 mo hm hl)
  | _, _, _, _, _, _, _, .no h r, ok, mo, hm, hl => .no h (cut_rows m r ok.2.2 mo hm hl)
  | _, _, _, _, _, _, _, .times hn r, ok, mo, hm, hl => .times hn (cut_times m r ok.2.2 (Nat.succ_pos _) mo hm hl)
theorem cut_rows (m : Nat) : ∀ {rs : List Row} {st s : Mst} {o : Option Int} {t : List PyData} {deep loops : Nat}, RowsS rs st s o t → rowsOk st.cells.length deep loops rs → MOk st → s.fallen ≤ m → m ≤ st.coins.length → RowsS rs (cutM m st) (cutM m s) o t
  | _, _, _, _, _, _, _, .nil, _, mo, hm, hl => .nil
  | _, _, _, _, _, _, _, .stop h, ok, mo, hm, hl => .stop (cut_row m h ok.2.1 mo hm hl)
  | _, _, _, _, _, _, _, .cons h k, ok, mo, hm, hl => by
    have a := aft_row h ok.2.1 mo
    have b := aft_rows k (by rw [a.le]; exact ok.2.2) a.mo
    exact .cons (cut_row m h ok.2.1 mo (Int.le_trans b.f0 hm) hl) (cut_rows m k (by rw [a.le]; exact ok.2.2) a.mo hm (by rw [a.co]; exact hl))
theorem cut_times (m : Nat) : ∀ {n : Nat} {a : List Row} {st s : Mst} {o : Option Int} {t : List PyData} {deep loops : Nat}, TimesS n a st s o t → rowsOk st.cells.length deep loops a → 0 < loops → MOk st → s.fallen ≤ m → m ≤ st.coins.length → TimesS n a (cutM m st) (cutM m s) o t
  | _, a, _, _, _, _, _, _, .zero, _, _, mo, hm, hl => .zero
  | _, a, _, _, _, _, _, _, .stop h, ok, l, mo, hm, hl => .stop (cut_rows m h ok mo hm hl)
  | _, a, _, _, _, _, _, _, .more h k, ok, l, mo, hm, hl => by
    have z := aft_rows h ok mo
    have b := aft_times k (by rw [z.le]; exact ok) l z.mo
    exact .more (cut_rows m h ok mo (Int.le_trans b.f0 hm) hl) (cut_times m k (by rw [z.le]; exact ok) l z.mo hm (by rw [z.co]; exact hl))
end
theorem aft_turns : ∀ {j : Nat} {a : List Row} {st s : Mst} {t : List PyData} {deep loops : Nat}, TurnsT j a st s t → rowsOk st.cells.length deep loops a → 0 < loops → MOk st → Aft st s 0 (j * mxs a) t
  | 0, a, st, s, t, _, _, ⟨h1, h2⟩, _, _, m => by
    subst h1
    subst h2
    exact ⟨m, rfl, rfl, rfl, Int.le_refl _, by omega, Nat.zero_le _⟩
  | j + 1, a, st, s, t, _, _, ⟨x, u, v, e, h1, h2⟩, ok, l, m => by
    have z := aft_turns h1 ok l m
    have z2 := aft_rows h2 (by rw [z.le]; exact ok) z.mo
    rw [ccs_loop ok l] at z2
    rw [e]
    exact (z.then z2).more (Nat.le_refl 0) (by rw [Nat.succ_mul]; exact Nat.le_refl _)
/-! ### the coins run out -/
mutual
inductive RowO : Row → Mst → Prop
  | coin {x : Str} {st : Mst} (h : st.fallen = st.coins.length) : RowO (.coin x) st
  | yes {e : Exp} {a b : List Row} {st : Mst} (h : e.ev st.regs ≠ 0) (r : RowsO a st) : RowO (.iff e a b) st
  | no {e : Exp} {a b : List Row} {st : Mst} (h : e.ev st.regs = 0) (r : RowsO b st) : RowO (.iff e a b) st
inductive RowsO : List Row → Mst → Prop
  | here {r : Row} {rs : List Row} {st : Mst} (h : RowO r st) : RowsO (r :: rs) st
  | later {r : Row} {rs : List Row} {st s : Mst} {t : List PyData} (h : RowS r st s none t) (k : RowsO rs s) : RowsO (r :: rs) st
end
theorem rowsO_app : ∀ {as bs : List Row} {st m : Mst} {t : List PyData}, RowsS as st m none t → RowsO bs m → RowsO (as ++ bs) st
  | _, _, _, _, _, .nil, k => k
  | _, _, _, _, _, .cons h k0, k => .later h (rowsO_app k0 k)
theorem rowsO_at {rs : List Row} {i : Nat} {r : Row} {st m : Mst} {t : List PyData} (hi : rs[i]? = some r) (h : RowsS (rs.take i) st m none t) (k : RowO r m) : RowsO rs st := by
  obtain ⟨hl, rfl⟩ := List.getElem?_eq_some_iff.mp hi
  have e : rs = rs.take i ++ rs[i] :: rs.drop (i + 1) := by rw [List.getElem_cons_drop, List.take_append_drop]
  have z := rowsO_app h (RowsO.here (rs := rs.drop (i + 1)) k)
  rw [← e] at z
  exact z
mutual
theorem no_out1 {c : Int} : ∀ {r : Row} {st : Mst} {deep loops : Nat}, RowO r st → r.ok c deep loops → 0 < loops → False
  | _, _, _, _, .coin h, ok, l => by have := ok.2; omega
  | _, _, _, _, .yes h r, ok, l => no_outs r ok.2.1 l
  | _, _, _, _, .no h r, ok, l => no_outs r ok.2.2 l
theorem no_outs {c : Int} : ∀ {rs : List Row} {st : Mst} {deep loops : Nat}, RowsO rs st → rowsOk c deep loops rs → 0 < loops → False
  | _, _, _, _, .here h, ok, l => no_out1 h ok.2.1 l
  | _, _, _, _, .later h k, ok, l => no_outs k ok.2.2 l
end
mutual
theorem out_cc1 : ∀ {r : Row} {st : Mst} {deep loops : Nat}, RowO r st → r.ok st.cells.length deep loops → MOk st → st.coins.length < st.fallen + r.cc
  | _, st, _, _, .coin h, ok, m => by show (st.coins.length : Int) < st.fallen + ((1 : Nat) : Int); omega
  | _, st, _, _, .yes (a := a) (b := b) h r, ok, m => by
    have := out_ccs r ok.2.1 m
    show (st.coins.length : Int) < st.fallen + ((rowsCc a + rowsCc b : Nat) : Int)
    omega
  | _, st, _, _, .no (a := a) (b := b) h r, ok, m => by
    have := out_ccs r ok.2.2 m
    show (st.coins.length : Int) < st.fallen + ((rowsCc a + rowsCc b : Nat) : Int)
    omega
theorem out_ccs : ∀ {rs : List Row} {st : Mst} {deep loops : Nat}, RowsO rs st → rowsOk st.cells.length deep loops rs → MOk st → st.coins.length < st.fallen + rowsCc rs
  | _, st, _, _, .here (r := r) (rs := rs) h, ok, m => by
    have := out_cc1 h ok.2.1 m
    show (st.coins.length : Int) < st.fallen + ((r.cc + rowsCc rs : Nat) : Int)
    omega
  | _, st, _, _, .later (r := r) (rs := rs) h k, ok, m => by
    have a := aft_row h ok.2.1 m
    have := out_ccs k (by rw [a.le]; exact ok.2.2) a.mo
    have := a.f1
    rw [a.co] at *
    show (st.coins.length : Int) < st.fallen + ((r.cc + rowsCc rs : Nat) : Int)
    omega
end
theorem fell_plain {r : Row} {st : Mst} (h : plainR r) : (stp1 (.row r) st).fallen = st.fallen ∧ (stp1 (.row r) st).coins = st.coins := by
  cases r with
  | swap r k e f =>
    show (if st.cells.getD k.toNat 0 = e.ev st.regs then ({ st with cells := st.cells.set k.toNat (f.ev st.regs % st.sides.getD k.toNat 0), regs := rset st.regs r 1 } : Mst) else { st with regs := rset st.regs r 0 }).fallen = _ ∧ (if st.cells.getD k.toNat 0 = e.ev st.regs then ({ st with cells := st.cells.set k.toNat (f.ev st.regs % st.sides.getD k.toNat 0), regs := rset st.regs r 1 } : Mst) else { st with regs := rset st.regs r 0 }).coins = _
    split <;> exact ⟨rfl, rfl⟩
  | read r k => exact ⟨rfl, rfl⟩
  | set k e => exact ⟨rfl, rfl⟩
  | keep r e => exact ⟨rfl, rfl⟩
  | _ => exact h.elim
mutual
theorem fell_row : ∀ {r : Row} {st s : Mst} {o : Option Int} {t : List PyData}, RowS r st s o t → st.fallen ≤ st.coins.length → s.fallen ≤ s.coins.length
  | _, _, _, _, _, .plain h, l => by
    obtain ⟨e1, e2⟩ := fell_plain h
    rw [e1, e2]
    exact l
  | _, _, _, _, _, .coin (st := st) h, l => by show st.fallen + 1 ≤ (st.coins.length : Int); omega
  | _, _, _, _, _, .ans, l => l
  | _, _, _, _, _, .yes h r, l => fell_rows r l
  | _, _, _, _, _, .no h r, l => fell_rows r l
  | _, _, _, _, _, .times hn r, l => fell_times r l
theorem fell_rows : ∀ {rs : List Row} {st s : Mst} {o : Option Int} {t : List PyData}, RowsS rs st s o t → st.fallen ≤ st.coins.length → s.fallen ≤ s.coins.length
  | _, _, _, _, _, .nil, l => l
  | _, _, _, _, _, .stop h, l => fell_row h l
  | _, _, _, _, _, .cons h k, l => fell_rows k (fell_row h l)
theorem fell_times : ∀ {n : Nat} {a : List Row} {st s : Mst} {o : Option Int} {t : List PyData}, TimesS n a st s o t → st.fallen ≤ st.coins.length → s.fallen ≤ s.coins.length
  | _, _, _, _, _, _, .zero, l => l
  | _, _, _, _, _, _, .stop h, l => fell_rows h l
  | _, _, _, _, _, _, .more h k, l => fell_times k (fell_rows h l)
end
theorem fell_turns : ∀ {j : Nat} {a : List Row} {st s : Mst} {t : List PyData}, TurnsT j a st s t → st.fallen ≤ st.coins.length → s.fallen ≤ s.coins.length
  | 0, _, _, _, _, ⟨h, _⟩, l => by
    subst h
    exact l
  | j + 1, _, _, _, _, ⟨_, _, _, _, h1, h2⟩, l => fell_rows h2 (fell_turns h1 l)

end M

set_option Elab.async false
set_option linter.all false
set_option maxRecDepth 100000
set_option maxHeartbeats 2000000
namespace M
open PySem PySem.Spec PyProof.Rows L2

theorem fut_out : Fut fun n M _ => OutM n M := fun _ _ _ _ h h0 hf c r => .step h h0 hf c r
section
variable {C : List FR} {k : Int}
mutual
theorem simRowO {ro : List Int} : ∀ {r : Row} {st : Mst} {c : List FR} {deep loops : Nat}, RowO r st → r.ok k deep loops → ro.length ≤ loops → Agr C c (putRow r c) → ∃ n, OutM n (emb C c.length ro st)
  | _, _, c, _, _, .coin (x := x) (st := st) h, ok, _, ag =>
    ⟨0, .here (x := x) rfl (Int.natCast_nonneg _) (by show C[((c.length : Nat) : Int).toNat]? = _; rw [Int.toNat_natCast]; exact agr_one (f := .row (.coin x)) ag) h⟩
  | _, _, c, _, _, .yes (e := e) (a := a) (b := b) h r, ok, hl, ag => by
    obtain ⟨c1, h1⟩ : ∃ c1, c1 = putRows a (c ++ [FR.hole]) := ⟨_, rfl⟩
    obtain ⟨c2, h2⟩ : ∃ c2, c2 = putRows b ((c1 ++ [FR.hole]).set c.length (FR.unless e (c1.length + 1))) := ⟨_, rfl⟩
    obtain ⟨ec, l1, l2, p0, pa, p1, pb⟩ := lay_iff h1 h2
    rw [ec] at ag
    have lc : (c2.set c1.length (FR.on c2.length)).length = c2.length := List.length_set
    have C0 := (ag c.length (Nat.le_refl _) (by omega)).trans p0
    have lh : (c ++ [FR.hole]).length = c.length + 1 := by simp
    obtain ⟨n, ih⟩ := simRowsO r ok.2.1 hl (c := c ++ [FR.hole]) (fun i hi hj => (ag i (by omega) (by rw [← h1] at hj; omega)).trans ((pa i (by omega) (by rw [← h1] at hj; exact hj)).trans (by rw [h1])))
    rw [lh] at ih
    exact emb_yes C0 h _ fut_out n [] ih
  | _, _, c, _, _, .no (e := e) (a := a) (b := b) h r, ok, hl, ag => by
    obtain ⟨c1, h1⟩ : ∃ c1, c1 = putRows a (c ++ [FR.hole]) := ⟨_, rfl⟩
    obtain ⟨c2, h2⟩ : ∃ c2, c2 = putRows b ((c1 ++ [FR.hole]).set c.length (FR.unless e (c1.length + 1))) := ⟨_, rfl⟩
    obtain ⟨ec, l1, l2, p0, pa, p1, pb⟩ := lay_iff h1 h2
    rw [ec] at ag
    have lc : (c2.set c1.length (FR.on c2.length)).length = c2.length := List.length_set
    have C0 := (ag c.length (Nat.le_refl _) (by omega)).trans p0
    have ld : ((c1 ++ [FR.hole]).set c.length (FR.unless e (c1.length + 1))).length = c1.length + 1 := by simp
    obtain ⟨n, ih⟩ := simRowsO r ok.2.2 hl (c := (c1 ++ [FR.hole]).set c.length (FR.unless e (c1.length + 1))) (fun i hi hj => (ag i (by omega) (by rw [← h2] at hj; omega)).trans ((pb i (by omega)).trans (by rw [h2])))
    rw [ld] at ih
    exact emb_no C0 h _ fut_out n [] ih
theorem simRowsO {ro : List Int} : ∀ {rs : List Row} {st : Mst} {c : List FR} {deep loops : Nat}, RowsO rs st → rowsOk k deep loops rs → ro.length ≤ loops → Agr C c (putRows rs c) → ∃ n, OutM n (emb C c.length ro st)
  | _, _, c, _, _, .here (r := r) (rs := rs) h, ok, hl, ag => by
    have g := putRows_goes rs (putRow r c)
    exact simRowO h ok.2.1 hl (c := c) (fun i hi hj => (ag i hi (Nat.lt_of_lt_of_le hj g.le)).trans (g.old i hj))
  | _, _, c, _, _, .later (r := r) (rs := rs) h kk, ok, hl, ag => by
    have g := putRows_goes rs (putRow r c)
    have g0 := (putRow_goes r c).le
    have i1 := simRow h ok.2.1 hl (c := c) (fun i hi hj => (ag i hi (Nat.lt_of_lt_of_le hj g.le)).trans (g.old i hj))
    obtain ⟨n, i2⟩ := simRowsO kk ok.2.2 hl (c := putRow r c) (fun i hi hj => ag i (Nat.le_trans g0 hi) hj)
    exact i1 _ fut_out n [] i2
end
end
theorem body_out {rs : List Row} {k : Int} {sides cells coins : List Int} {a : Int} (ok : rowsOk k 1 0 rs) (r : RowsO rs (mst0 (codeOf rs) sides cells coins a)) : OutW (codeOf rs) sides cells a coins := by
  have g : Agr (codeOf rs) [] (putRows rs []) := fun i _ hj => List.getElem?_append_left hj
  exact simRowsO (C := codeOf rs) (ro := []) r ok (Nat.le_refl 0) g
/-! ### what the law's walker says of a call -/
def WL (rs : List Row) (sides hs : List Int) (a : Int) (fs : List Int) (r : Int) (cs : List Int) : Prop := ∃ s o t, RowsS rs (mst0 (codeOf rs) sides hs fs a) s o t ∧ o.getD 0 = r ∧ s.cells = cs
def OL (rs : List Row) (sides hs : List Int) (a : Int) (fs : List Int) : Prop := RowsO rs (mst0 (codeOf rs) sides hs fs a)
theorem wl_way {rs : List Row} {k : Int} {sides hs fs cs : List Int} {a r : Int} (ok : rowsOk k 1 0 rs) (h : WL rs sides hs a fs r cs) : WayM (codeOf rs) sides hs a fs r cs := by
  obtain ⟨s, o, t, h, rfl, rfl⟩ := h
  obtain ⟨n, Z, f, h1, h2⟩ := body_fin ok h
  exact ⟨n, Z, f.fin, h1, h2⟩
theorem Trav.imp {W W' : List Int → Int → List Int → Prop} {O O' : List Int → Prop} (hW : ∀ fs r cs, W fs r cs → W' fs r cs) (hO : ∀ fs, O fs → O' fs) : ∀ {n : Nat} {todo : List (List Int)} {ws : List (List Int × Int × List Int)}, Trav W O n todo ws → Trav W' O' n todo ws
  | _, _, _, .done => .done
  | _, _, _, .hit h k => .hit (hW _ _ _ h) (k.imp hW hO)
  | _, _, _, .out h l k => .out (hO _ h) l (k.imp hW hO)
/-! ### further falls do not matter -/
def addM (m : List Int) (st : Mst) : Mst := { st with coins := st.coins ++ m }
theorem add_plain {r : Row} (h : plainR r) (m : List Int) (st : Mst) : stp1 (.row r) (addM m st) = addM m (stp1 (.row r) st) := by
  cases r with
  | swap r k e f =>
    show (if st.cells.getD k.toNat 0 = e.ev st.regs then ({ addM m st with cells := st.cells.set k.toNat (f.ev st.regs % st.sides.getD k.toNat 0), regs := rset st.regs r 1 } : Mst) else { addM m st with regs := rset st.regs r 0 }) = addM m (if st.cells.getD k.toNat 0 = e.ev st.regs then { st with cells := st.cells.set k.toNat (f.ev st.regs % st.sides.getD k.toNat 0), regs := rset st.regs r 1 } else { st with regs := rset st.regs r 0 })
    split <;> rfl
  | read r k => rfl
  | set k e => rfl
  | keep r e => rfl
  | _ => exact h.elim
theorem add_tell {r : Row} (m : List Int) (st : Mst) : tell (.row r) (addM m st) = tell (.row r) st := by cases r <;> rfl
mutual
theorem add_row (m : List Int) : ∀ {r : Row} {st s : Mst} {o : Option Int} {t : List PyData}, RowS r st s o t → RowS r (addM m st) (addM m s) o t
  | r, _, _, _, _, .plain (st := st) h => by
    rw [← add_plain h, ← add_tell m, ← add_plain h]
    exact .plain h
  | _, _, _, _, _, .coin (x := x) (st := st) h => by
    have e : addM m (stp1 (.row (.coin x)) st) = stp1 (.row (.coin x)) (addM m st) := by
      show addM m { st with regs := rset st.regs x (st.coins.getD st.fallen.toNat 0), fallen := st.fallen + 1 } = { addM m st with regs := rset st.regs x ((st.coins ++ m).getD st.fallen.toNat 0), fallen := st.fallen + 1 }
      have : (st.coins ++ m).getD st.fallen.toNat 0 = st.coins.getD st.fallen.toNat 0 := by
        rw [List.getD_eq_getElem?_getD, List.getD_eq_getElem?_getD, List.getElem?_append_left (by omega)]
      rw [this]
      rfl
    rw [e]
    exact .coin ⟨h.1, by show st.fallen < ((st.coins ++ m).length : Nat); rw [List.length_append]; omega⟩
  | _, _, _, _, _, .ans => .ans
  | _, _, _, _, _, .yes h r => .yes h (add_rows m r)
  | _, _, _, _, _, .no h r => .no h (add_rows m r)
  | _, _, _, _, _, .times hn r => .times hn (add_times m r)
theorem add_rows (m : List Int) : ∀ {rs : List Row} {st s : Mst} {o : Option Int} {t : List PyData}, RowsS rs st s o t → RowsS rs (addM m st) (addM m s) o t
  | _, _, _, _, _, .nil => .nil
  | _, _, _, _, _, .stop h => .stop (add_row m h)
  | _, _, _, _, _, .cons h k => .cons (add_row m h) (add_rows m k)
theorem add_times (m : List Int) : ∀ {n : Nat} {a : List Row} {st s : Mst} {o : Option Int} {t : List PyData}, TimesS n a st s o t → TimesS n a (addM m st) (addM m s) o t
  | _, _, _, _, _, _, .zero => .zero
  | _, _, _, _, _, _, .stop h => .stop (add_rows m h)
  | _, _, _, _, _, _, .more h k => .more (add_rows m h) (add_times m k)
end
theorem wl_more {rs : List Row} {sides hs fs cs : List Int} {a r : Int} (m : List Int) (h : WL rs sides hs a fs r cs) : WL rs sides hs a (fs ++ m) r cs := by
  obtain ⟨s, o, t, h, e1, e2⟩ := h
  exact ⟨addM m s, o, t, add_rows m h, e1, e2⟩
/-! ### the tree of falls -/
def pot (fs : List Int) : Nat := 2 ^ (5 - fs.length) - 1
def chn (fs : List Int) : Nat := 2 ^ (4 - fs.length)
theorem pot_pos {fs : List Int} (h : fs.length ≤ 4) : 1 ≤ pot fs := by
  unfold pot
  have : fs.length = 0 ∨ fs.length = 1 ∨ fs.length = 2 ∨ fs.length = 3 ∨ fs.length = 4 := by omega
  rcases this with e | e | e | e | e <;> rw [e] <;> decide
theorem pot_two {fs : List Int} (h : fs.length < 4) : pot (fs ++ [1]) + pot (fs ++ [0]) + 1 = pot fs := by
  unfold pot
  rw [List.length_append, List.length_append]
  have : fs.length = 0 ∨ fs.length = 1 ∨ fs.length = 2 ∨ fs.length = 3 := by omega
  rcases this with e | e | e | e <;> rw [e] <;> decide
theorem chn_two {fs : List Int} (h : fs.length < 4) : chn (fs ++ [1]) + chn (fs ++ [0]) = chn fs := by
  unfold chn
  rw [List.length_append, List.length_append]
  have : fs.length = 0 ∨ fs.length = 1 ∨ fs.length = 2 ∨ fs.length = 3 := by omega
  rcases this with e | e | e | e <;> rw [e] <;> decide
def Pre (O : List Int → Prop) (fs : List Int) : Prop := fs.length ≤ 4 ∧ (∀ f ∈ fs, 0 ≤ f ∧ f ≤ 1) ∧ ∀ k, k < fs.length → O (fs.take k)
theorem Pre.more {O : List Int → Prop} {fs : List Int} {i : Int} (h : Pre O fs) (o : O fs) (l : fs.length < 4) (hi : 0 ≤ i ∧ i ≤ 1) : Pre O (fs ++ [i]) := by
  refine ⟨by simp; omega, fun f hf => ?_, fun k hk => ?_⟩
  · rcases List.mem_append.mp hf with h' | h'
    · exact h.2.1 f h'
    · rw [List.mem_singleton.mp h']
      exact hi
  · simp at hk
    rw [List.take_append_of_le_length (by omega)]
    by_cases e : k = fs.length
    · rw [e, List.take_length]
      exact o
    · exact h.2.2 k (by omega)

end M

set_option Elab.async false
set_option linter.all false
set_option maxRecDepth 100000
set_option maxHeartbeats 2000000
namespace M
open PySem PySem.Spec PyProof.Rows L2

mutual
theorem ans_row : ∀ {r : Row} {st s : Mst} {v : Int} {t : List PyData} {deep loops : Nat}, RowS r st s (some v) t → r.ok st.cells.length deep loops → MOk st → 0 ≤ v ∧ v ≤ 9
  | _, _, _, _, _, _, _, .ans, ok, m => ev_bd m.rg ok.1
  | _, _, _, _, _, _, _, .yes h r, ok, m => ans_rows r ok.2.1 m
  | _, _, _, _, _, _, _, .no h r, ok, m => ans_rows r ok.2.2 m
  | _, _, _, _, _, _, _, .times hn r, ok, m => ans_times r ok.2.2 (Nat.succ_pos _) m
theorem ans_rows : ∀ {rs : List Row} {st s : Mst} {v : Int} {t : List PyData} {deep loops : Nat}, RowsS rs st s (some v) t → rowsOk st.cells.length deep loops rs → MOk st → 0 ≤ v ∧ v ≤ 9
  | _, _, _, _, _, _, _, .stop h, ok, m => ans_row h ok.2.1 m
  | _, _, _, _, _, _, _, .cons h k, ok, m => by
    have a := aft_row h ok.2.1 m
    exact ans_rows k (by rw [a.le]; exact ok.2.2) a.mo
theorem ans_times : ∀ {n : Nat} {a : List Row} {st s : Mst} {v : Int} {t : List PyData} {deep loops : Nat}, TimesS n a st s (some v) t → rowsOk st.cells.length deep loops a → 0 < loops → MOk st → 0 ≤ v ∧ v ≤ 9
  | _, a, _, _, _, _, _, _, .stop h, ok, l, m => ans_rows h ok m
  | _, a, _, _, _, _, _, _, .more h k, ok, l, m => by
    have z := aft_rows h ok m
    exact ans_times k (by rw [z.le]; exact ok) l z.mo
end
theorem fin_det : ∀ {n m : Nat} {st s1 s2 : Mst}, Fin n st s1 → Fin m st s2 → s1 = s2
  | _, _, _, _, _, .stop _, .stop _ => rfl
  | _, _, _, _, _, .stop h, .step h2 _ _ _ _ => by rw [h] at h2; cases h2
  | _, _, _, _, _, .step h _ _ _ _, .stop h2 => by rw [h] at h2; cases h2
  | _, _, _, _, _, .step _ _ hf _ r, .step _ _ hf2 _ r2 => by
    rw [hf] at hf2
    cases (Option.some.inj hf2)
    exact fin_det r r2
theorem so_set {ss hs : List Int} (so : StateOk ss hs) (j : Nat) (v : Int) : StateOk ss (hs.set j (v % ss.getD j 0)) := by
  refine ⟨by rw [List.length_set]; exact so.1, fun i s h e1 e2 => ?_⟩
  rw [List.getElem?_set] at e2
  by_cases c : j = i
  · subst c
    rw [if_pos rfl] at e2
    have hj : j < ss.length := (List.getElem?_eq_some_iff.mp e1).1
    have hj2 : j < hs.length := by rw [← so.1]; exact hj
    rw [if_pos hj2] at e2
    have es : ss.getD j 0 = s := by rw [List.getD_eq_getElem?_getD, e1]; rfl
    rw [es] at e2
    cases (Option.some.inj e2)
    have z := so.2 j s _ e1 (List.getElem?_eq_getElem hj2)
    exact ⟨Int.emod_nonneg _ (by omega), Int.emod_lt_of_pos _ (by omega)⟩
  · rw [if_neg c] at e2
    exact so.2 i s h e1 e2
theorem so_step (f : FR) {st : Mst} (so : StateOk st.sides st.cells) : (stp1 f st).sides = st.sides ∧ StateOk st.sides (stp1 f st).cells := by
  cases f with
  | row r =>
    cases r with
    | set k e => exact ⟨rfl, so_set so _ _⟩
    | swap r k e g =>
      show (if st.cells.getD k.toNat 0 = e.ev st.regs then { st with cells := st.cells.set k.toNat (g.ev st.regs % st.sides.getD k.toNat 0), regs := rset st.regs r 1 } else { st with regs := rset st.regs r 0 } : Mst).sides = _ ∧ StateOk st.sides (if st.cells.getD k.toNat 0 = e.ev st.regs then { st with cells := st.cells.set k.toNat (g.ev st.regs % st.sides.getD k.toNat 0), regs := rset st.regs r 1 } else { st with regs := rset st.regs r 0 } : Mst).cells
      split
      · exact ⟨rfl, so_set so _ _⟩
      · exact ⟨rfl, so⟩
    | _ => exact ⟨rfl, so⟩
  | «unless» e p =>
    show (if e.ev st.regs = 0 then { st with place := p } else st : Mst).sides = _ ∧ StateOk st.sides (if e.ev st.regs = 0 then { st with place := p } else st : Mst).cells
    split <;> exact ⟨rfl, so⟩
  | round p =>
    show (if st.rounds.getLast?.getD 0 = 0 then { st with rounds := st.rounds.dropLast, place := p } else { st with rounds := st.rounds.dropLast ++ [st.rounds.getLast?.getD 0 - 1] } : Mst).sides = _ ∧ StateOk st.sides (if st.rounds.getLast?.getD 0 = 0 then { st with rounds := st.rounds.dropLast, place := p } else { st with rounds := st.rounds.dropLast ++ [st.rounds.getLast?.getD 0 - 1] } : Mst).cells
    split <;> exact ⟨rfl, so⟩
  | _ => exact ⟨rfl, so⟩
theorem so_fin : ∀ {n : Nat} {st st' : Mst}, Fin n st st' → StateOk st.sides st.cells → StateOk st.sides st'.cells
  | _, _, _, .stop _, so => so
  | _, _, _, .step (st := st) (f := f) _ _ _ _ r, so => by
    have z := so_step f (st := { st with place := st.place + 1 }) so
    have k := so_fin r (by rw [z.1]; exact z.2)
    rw [z.1] at k
    exact k
theorem calls_mem {v : Vlt} {c : Str × Int} (h : c ∈ v.calls) : ∃ d ∈ v.deeds, c.1 = d.1 ∧ 0 ≤ c.2 ∧ c.2 < d.2.1 := by
  unfold Vlt.calls at h
  obtain ⟨d, hd, h⟩ := List.mem_flatMap.mp h
  obtain ⟨j, hj, rfl⟩ := List.mem_map.mp h
  have := List.mem_range.mp hj
  exact ⟨d, hd, rfl, by show 0 ≤ (j : Int); omega, by show (j : Int) < d.2.1; omega⟩
theorem mem_calls {v : Vlt} {c : Str × Int} {d : Str × Int × List Row} (hd : d ∈ v.deeds) (e : c.1 = d.1) (h0 : 0 ≤ c.2) (h1 : c.2 < d.2.1) : c ∈ v.calls := by
  unfold Vlt.calls
  refine List.mem_flatMap.mpr ⟨d, hd, List.mem_map.mpr ⟨c.2.toNat, List.mem_range.mpr (by omega), ?_⟩⟩
  exact Prod.ext e.symm (Int.toNat_of_nonneg h0)
theorem begunC_fst {v : Vlt} {hs : List Int} (so : StateOk (v.cells.map (·.1)) hs) : (begunC v hs).map (·.1) = v.cells.map (·.1) := by
  unfold begunC
  exact List.map_fst_zip (by have := so.1; omega)
theorem begunC_snd {v : Vlt} {hs : List Int} (so : StateOk (v.cells.map (·.1)) hs) : (begunC v hs).map (·.2) = hs := by
  unfold begunC
  exact List.map_snd_zip (by have := so.1; omega)

end M

set_option Elab.async false
set_option linter.all false
set_option maxRecDepth 100000
set_option maxHeartbeats 2000000
namespace M
open PySem PySem.Spec PyProof.Rows L2

/-! ### every call comes to something -/
def FlOk (st : Mst) : Prop := 0 ≤ st.fallen ∧ st.fallen ≤ st.coins.length
theorem tot_times {a : List Row} {deep loops : Nat} (l : 0 < loops) (h : ∀ st : Mst, rowsOk st.cells.length deep loops a → MOk st → FlOk st → (∃ s o t, RowsS a st s o t ∧ FlOk s) ∨ RowsO a st) : ∀ (n : Nat) (st : Mst), rowsOk st.cells.length deep loops a → MOk st → FlOk st → ∃ s o t, TimesS n a st s o t ∧ FlOk s
  | 0, st, _, _, f => ⟨st, none, [], .zero, f⟩
  | n + 1, st, ok, m, f => by
    rcases h st ok m f with ⟨s, o, t, r, g⟩ | r
    · cases o with
      | some v => exact ⟨s, some v, t, .stop r, g⟩
      | none =>
        have z := aft_rows r ok m
        obtain ⟨s2, o, u, r2, g2⟩ := tot_times l h n s (by rw [z.le]; exact ok) z.mo g
        exact ⟨s2, o, t ++ u, .more r r2, g2⟩
    · have z := out_ccs r ok m
      rw [ccs_loop ok l] at z
      have := f.2
      omega
mutual
theorem tot_row : ∀ (r : Row) {st : Mst} {deep loops : Nat}, r.ok st.cells.length deep loops → MOk st → FlOk st → (∃ s o t, RowS r st s o t ∧ FlOk s) ∨ RowO r st
  | .read r k, st, _, _, _, _, f => .inl ⟨_, _, _, .plain trivial, f⟩
  | .set k e, st, _, _, _, _, f => .inl ⟨_, _, _, .plain trivial, f⟩
  | .swap r k e g, st, _, _, _, _, f => .inl ⟨_, _, _, .plain trivial, by
      show FlOk (if st.cells.getD k.toNat 0 = e.ev st.regs then ({ st with cells := st.cells.set k.toNat (g.ev st.regs % st.sides.getD k.toNat 0), regs := rset st.regs r 1 } : Mst) else { st with regs := rset st.regs r 0 })
      split <;> exact f⟩
  | .keep r e, st, _, _, _, _, f => .inl ⟨_, _, _, .plain trivial, f⟩
  | .coin x, st, _, _, _, _, f => by
    by_cases c : st.fallen = st.coins.length
    · exact .inr (.coin c)
    · refine .inl ⟨_, _, _, .coin ⟨f.1, by have := f.2; omega⟩, ?_⟩
      have h1 := f.1
      have h2 := f.2
      exact ⟨by show 0 ≤ st.fallen + 1; omega, by show st.fallen + 1 ≤ (st.coins.length : Nat); omega⟩
  | .ans e, st, _, _, _, _, f => .inl ⟨_, _, _, .ans, f⟩
  | .iff e a b, st, deep, loops, ok, m, f => by
    by_cases c : e.ev st.regs = 0
    · rcases tot_rows b ok.2.2 m f with ⟨s, o, t, r, g⟩ | r
      · exact .inl ⟨s, o, t, .no c r, g⟩
      · exact .inr (.no c r)
    · rcases tot_rows a ok.2.1 m f with ⟨s, o, t, r, g⟩ | r
      · exact .inl ⟨s, o, t, .yes c r, g⟩
      · exact .inr (.yes c r)
  | .times e a, st, deep, loops, ok, m, f => by
    have b := ev_bd m.rg ok.1.1
    obtain ⟨s, o, t, r, g⟩ := tot_times (Nat.succ_pos loops) (fun st ok m f => tot_rows a ok m f) (e.ev st.regs).toNat st ok.2.2 m f
    exact .inl ⟨s, o, t, .times (Int.toNat_of_nonneg b.1).symm r, g⟩
theorem tot_rows : ∀ (rs : List Row) {st : Mst} {deep loops : Nat}, rowsOk st.cells.length deep loops rs → MOk st → FlOk st → (∃ s o t, RowsS rs st s o t ∧ FlOk s) ∨ RowsO rs st
  | [], st, _, _, _, _, f => .inl ⟨st, none, [], .nil, f⟩
  | r :: rs, st, deep, loops, ok, m, f => by
    rcases tot_row r ok.2.1 m f with ⟨s, o, t, h, g⟩ | h
    · cases o with
      | some v => exact .inl ⟨s, some v, t, .stop h, g⟩
      | none =>
        have z := aft_row h ok.2.1 m
        rcases tot_rows rs (by rw [z.le]; exact ok.2.2) z.mo g with ⟨s2, o, u, k, g2⟩ | k
        · exact .inl ⟨s2, o, t ++ u, .cons h k, g2⟩
        · exact .inr (.later h k)
    · exact .inr (.here h)
end
/-- a deed's rows, called from a state -/
structure Able (rs : List Row) (sides hs : List Int) (a : Int) : Prop where
  mo : ∀ fs : List Int, (∀ f ∈ fs, 0 ≤ f ∧ f ≤ 1) → MOk (mst0 (codeOf rs) sides hs fs a)
  ok : rowsOk hs.length 1 0 rs
  cc : rowsCc rs ≤ 4
section
variable {rs : List Row} {sides hs : List Int} {a : Int}
theorem Able.tot (g : Able rs sides hs a) {fs : List Int} (hf : ∀ f ∈ fs, 0 ≤ f ∧ f ≤ 1) : (∃ r cs, WL rs sides hs a fs r cs) ∨ OL rs sides hs a fs := by
  rcases tot_rows rs (st := mst0 (codeOf rs) sides hs fs a) g.ok (g.mo fs hf) ⟨Int.le_refl 0, Int.natCast_nonneg _⟩ with ⟨s, o, t, r, _⟩ | r
  · exact .inl ⟨_, _, s, o, t, r, rfl, rfl⟩
  · exact .inr r
theorem Able.l3 (g : Able rs sides hs a) {fs : List Int} (hf : ∀ f ∈ fs, 0 ≤ f ∧ f ≤ 1) (h : OL rs sides hs a fs) : fs.length < 4 := by
  have z := out_ccs h g.ok (g.mo fs hf)
  have z : ((fs.length : Nat) : Int) < 0 + ((rowsCc rs : Nat) : Int) := z
  have := g.cc
  omega
theorem Able.ways (g : Able rs sides hs a) : ∀ (m : Nat) (todo : List (List Int)), (todo.map pot).sum ≤ m → (∀ fs ∈ todo, Pre (OL rs sides hs a) fs) →
    ∃ n ws, Trav (WL rs sides hs a) (OL rs sides hs a) n todo ws ∧ n ≤ (todo.map pot).sum ∧ (ws.map fun w => chn w.1).sum = (todo.map chn).sum ∧ ∀ w ∈ ws, Pre (OL rs sides hs a) w.1 ∧ WL rs sides hs a w.1 w.2.1 w.2.2 := by
  intro m
  induction m with
  | zero =>
    intro todo hp pre
    cases todo with
    | nil => exact ⟨0, [], .done, Nat.le_refl _, rfl, fun w h => nomatch h⟩
    | cons fs r =>
      have := pot_pos (pre fs List.mem_cons_self).1
      rw [List.map_cons, List.sum_cons] at hp
      omega
  | succ m ih =>
    intro todo hp pre
    rcases List.eq_nil_or_concat todo with rfl | ⟨t0, fs, rfl⟩
    · exact ⟨0, [], .done, Nat.le_refl _, rfl, fun w h => nomatch h⟩
    rw [List.concat_eq_append] at hp pre ⊢
    rw [List.map_append, List.sum_append] at hp ⊢
    rw [List.map_append, List.sum_append]
    have hp : (t0.map pot).sum + pot fs ≤ m + 1 := by simpa using hp
    have pfs := pre fs (by simp)
    have pre0 : ∀ gs ∈ t0, Pre (OL rs sides hs a) gs := fun gs h => pre gs (List.mem_append_left _ h)
    have pp := pot_pos pfs.1
    have e1 : (List.map pot [fs]).sum = pot fs := by simp
    have e2 : (List.map chn [fs]).sum = chn fs := by simp
    rw [e1, e2]
    rcases g.tot pfs.2.1 with ⟨r, cs, w⟩ | o
    · obtain ⟨n, ws, tr, hn, hc, hw⟩ := ih t0 (by omega) pre0
      refine ⟨n + 1, (fs, r, cs) :: ws, .hit w tr, by omega, by rw [List.map_cons, List.sum_cons, hc, Nat.add_comm], fun x hx => ?_⟩
      rcases List.mem_cons.mp hx with rfl | hx
      · exact ⟨pfs, w⟩
      · exact hw x hx
    · have l3 := g.l3 pfs.2.1 o
      have q1 := pot_two l3
      have q2 := chn_two l3
      have e3 : (List.map pot (t0 ++ [fs ++ [1], fs ++ [0]])).sum = (t0.map pot).sum + (pot (fs ++ [1]) + pot (fs ++ [0])) := by simp
      have e4 : (List.map chn (t0 ++ [fs ++ [1], fs ++ [0]])).sum = (t0.map chn).sum + (chn (fs ++ [1]) + chn (fs ++ [0])) := by simp
      obtain ⟨n, ws, tr, hn, hc, hw⟩ := ih (t0 ++ [fs ++ [1], fs ++ [0]]) (by rw [e3]; omega) (fun gs h => by
        rcases List.mem_append.mp h with h | h
        · exact pre0 gs h
        · simp only [List.mem_cons, List.not_mem_nil, or_false] at h
          rcases h with rfl | rfl
          · exact pfs.more o l3 (by decide)
          · exact pfs.more o l3 (by decide))
      rw [e3] at hn
      rw [e4] at hc
      exact ⟨n + 1, ws, .out o l3 tr, by omega, by omega, hw⟩
end
/-! ### and to one thing alone -/
theorem fin_out : ∀ {n m : Nat} {st s : Mst}, Fin n st s → OutM m st → False
  | _, _, _, _, .stop h, .here h2 _ _ _ => by rw [h2] at h; cases h
  | _, _, _, _, .stop h, .step h2 _ _ _ _ => by rw [h2] at h; cases h
  | _, _, _, _, .step _ _ hf c _, .here _ _ hf2 e => by
    rw [hf] at hf2
    cases (Option.some.inj hf2)
    have c2 := c.2
    have c2 : _ < _ := c2
    dsimp only at c2
    omega
  | _, _, _, _, .step _ _ hf _ r, .step _ _ hf2 _ r2 => by
    rw [hf] at hf2
    cases (Option.some.inj hf2)
    exact fin_out r r2
theorem trav_det {W : List Int → Int → List Int → Prop} {O : List Int → Prop} (dW : ∀ fs r cs r' cs', W fs r cs → W fs r' cs' → r = r' ∧ cs = cs') (dO : ∀ fs r cs, W fs r cs → O fs → False) : ∀ {n m : Nat} {l l2 : List (List Int)} {ws us : List (List Int × Int × List Int)}, Trav W O n l ws → Trav W O m l2 us → l = l2 → ws = us := by
  intro n m l l2 ws us h
  induction h generalizing m l2 us with
  | done =>
    intro k e
    cases k with
    | done => rfl
    | hit => simp at e
    | out => simp at e
  | @hit _ _ _ fs r cs w _ ih =>
    intro k e
    cases k with
    | done => simp at e
    | hit w2 k =>
      obtain ⟨e1, e2⟩ := List.append_inj' e rfl
      cases e2
      obtain ⟨rfl, rfl⟩ := dW _ _ _ _ _ w w2
      rw [ih k e1]
    | out o2 _ k =>
      obtain ⟨e1, e2⟩ := List.append_inj' e rfl
      cases e2
      exact (dO _ _ _ w o2).elim
  | @out _ _ _ fs o _ _ ih =>
    intro k e
    cases k with
    | done => simp at e
    | hit w2 k =>
      obtain ⟨e1, e2⟩ := List.append_inj' e rfl
      cases e2
      exact (dO _ _ _ w2 o).elim
    | out o2 _ k =>
      obtain ⟨e1, e2⟩ := List.append_inj' e rfl
      cases e2
      exact ih k (by rw [e1])
theorem wayM_det {code : List FR} {sides hs fs cs cs' : List Int} {a r r' : Int} (h : WayM code sides hs a fs r cs) (k : WayM code sides hs a fs r' cs') : r = r' ∧ cs = cs' := by
  obtain ⟨n, s, f, e1, e2⟩ := h
  obtain ⟨m, t, g, e3, e4⟩ := k
  cases fin_det f g
  rw [e1] at e3
  exact ⟨Option.some.inj e3, e2.symm.trans e4⟩
open Classical in
/-- the ways of a call from a state -/
noncomputable def wys (rs : List Row) (sides : List Int) (a : Int) (hs : List Int) : List (List Int × Int × List Int) :=
  if h : ∃ ws, ∃ n, n ≤ 31 ∧ Trav (WL rs sides hs a) (OL rs sides hs a) n [[]] ws ∧ (ws.map fun w => chn w.1).sum = 16 ∧ ∀ w ∈ ws, Pre (OL rs sides hs a) w.1 ∧ WL rs sides hs a w.1 w.2.1 w.2.2 then h.choose else []
section
variable {rs : List Row} {sides hs : List Int} {a : Int}
theorem Able.wys (g : Able rs sides hs a) : ∃ n, n ≤ 31 ∧ Trav (WL rs sides hs a) (OL rs sides hs a) n [[]] (wys rs sides a hs) ∧ ((wys rs sides a hs).map fun w => chn w.1).sum = 16 ∧ ∀ w ∈ wys rs sides a hs, Pre (OL rs sides hs a) w.1 ∧ WL rs sides hs a w.1 w.2.1 w.2.2 := by
  have h : ∃ ws, ∃ n, n ≤ 31 ∧ Trav (WL rs sides hs a) (OL rs sides hs a) n [[]] ws ∧ (ws.map fun w => chn w.1).sum = 16 ∧ ∀ w ∈ ws, Pre (OL rs sides hs a) w.1 ∧ WL rs sides hs a w.1 w.2.1 w.2.2 := by
    obtain ⟨n, ws, tr, hn, hc, hw⟩ := g.ways 31 [[]] (by decide) (fun fs hf => by rw [List.mem_singleton.mp hf]; exact ⟨by decide, (fun f h => nomatch h), fun k hk => absurd hk (Nat.not_lt_zero k)⟩)
    exact ⟨ws, n, Nat.le_trans hn (by decide), tr, hc, hw⟩
  unfold M.wys
  rw [dif_pos h]
  exact h.choose_spec
theorem Able.one (g : Able rs sides hs a) {n : Nat} {ws : List (List Int × Int × List Int)} (tr : Trav (WayM (codeOf rs) sides hs a) (OutW (codeOf rs) sides hs a) n [[]] ws) : ws = M.wys rs sides a hs := by
  obtain ⟨m, _, tr2, _, _⟩ := g.wys
  refine trav_det (W := WayM (codeOf rs) sides hs a) (O := OutW (codeOf rs) sides hs a) (fun fs r cs r' cs' h k => wayM_det h k) (fun fs r cs h o => ?_) tr (tr2.imp (fun fs r cs h => wl_way g.ok h) (fun fs h => ?_)) rfl
  · obtain ⟨_, _, f, _, _⟩ := h
    obtain ⟨_, o⟩ := o
    exact fin_out f o
  · exact body_out g.ok h
theorem Able.one' (g : Able rs sides hs a) {n : Nat} {ws : List (List Int × Int × List Int)} (tr : Trav (WL rs sides hs a) (OL rs sides hs a) n [[]] ws) : ws = M.wys rs sides a hs :=
  g.one (tr.imp (fun fs r cs h => wl_way g.ok h) (fun fs h => body_out g.ok h))
theorem Able.wysM (g : Able rs sides hs a) : ∃ n, n ≤ 31 ∧ Trav (WayM (codeOf rs) sides hs a) (OutW (codeOf rs) sides hs a) n [[]] (M.wys rs sides a hs) := by
  obtain ⟨n, hn, tr, _, _⟩ := g.wys
  exact ⟨n, hn, tr.imp (fun fs r cs h => wl_way g.ok h) (fun fs h => body_out g.ok h)⟩
theorem Able.so (g : Able rs sides hs a) (so : StateOk sides hs) {w : List Int × Int × List Int} (hw : w ∈ M.wys rs sides a hs) : StateOk sides w.2.2 ∧ w.1.length ≤ 4 := by
  obtain ⟨_, _, _, _, h⟩ := g.wys
  obtain ⟨p, k⟩ := h w hw
  obtain ⟨n, s, f, _, e⟩ := wl_way g.ok k
  rw [← e]
  exact ⟨so_fin f so, p.1⟩
end

end M

set_option Elab.async false
set_option linter.all false
set_option maxRecDepth 100000
set_option maxHeartbeats 2000000
namespace M
open PySem PySem.Spec PyProof.Rows L2

/-! ### the law's own walker in the family of the box -/
structure LB where
  ce : Addr
  sz : Addr
  he : Addr
  fa : Addr
structure WkB (H : Hp) (L : LB) (st : Mst) : Prop where
  sz : H L.sz = some (.lst (st.sides.map .int))
  ce : H L.ce = some (.lst (st.cells.map .int))
  he : H L.he = some (.dK (heldK st.regs))
  fa : H L.fa = some (.lst ((st.coins.drop st.fallen.toNat).map .int))
  d1 : L.sz ≠ L.ce ∧ L.sz ≠ L.fa ∧ L.ce ≠ L.fa
def BwB (L : LB) (H H' : Hp) : Prop := ∀ b o, b ≠ L.ce → b ≠ L.he → b ≠ L.fa → H b = some o → H' b = some o
theorem BwB.refl (L : LB) (H : Hp) : BwB L H H := fun _ _ _ _ _ e => e
theorem BwB.trans {L : LB} {H1 H2 H3 : Hp} (s : BwB L H1 H2) (t : BwB L H2 H3) : BwB L H1 H3 := fun b o h1 h2 h3 e => t b o h1 h2 h3 (s b o h1 h2 h3 e)
section
variable {K : PySem.W.Frag} {H H' : Hp} {L : LB} {st : Mst}
theorem BwB.same (s : Same H H') : BwB L H H' := fun b o _ _ _ e => s b o e
theorem BwB.ce (s : But L.ce H H') : BwB L H H' := fun b o h _ _ e => s b o h e
theorem BwB.he (s : But L.he H H') : BwB L H H' := fun b o _ h _ e => s b o h e
theorem BwB.fa (s : But L.fa H H') : BwB L H H' := fun b o _ _ h e => s b o h e
theorem WkB.ceh (r : WkB H L st) : L.ce ≠ L.he := ne_ho r.ce r.he fun e => nomatch e
theorem WkB.szh (r : WkB H L st) : L.sz ≠ L.he := ne_ho r.sz r.he fun e => nomatch e
theorem WkB.fah (r : WkB H L st) : L.fa ≠ L.he := ne_ho r.fa r.he fun e => nomatch e
theorem WkB.same (s : Same H H') (r : WkB H L st) : WkB H' L st := ⟨s _ _ r.sz, s _ _ r.ce, s _ _ r.he, s _ _ r.fa, r.d1⟩
theorem WkB.setC (r : WkB H L st) (cs : List Int) : WkB (upd H L.ce (.lst (cs.map .int))) L { st with cells := cs } := by
  have b : But L.ce H (upd H L.ce (.lst (cs.map .int))) := But.upd
  exact ⟨b _ _ r.d1.1 r.sz, upd_same, b _ _ (Ne.symm r.ceh) r.he, b _ _ (Ne.symm r.d1.2.2) r.fa, r.d1⟩
theorem WkB.setH (r : WkB H L st) (g : Str → Int) : WkB (upd H L.he (.dK (heldK g))) L { st with regs := g } := by
  have b : But L.he H (upd H L.he (.dK (heldK g))) := But.upd
  exact ⟨b _ _ r.szh r.sz, b _ _ r.ceh r.ce, upd_same, b _ _ r.fah r.fa, r.d1⟩
theorem WkB.setF (r : WkB H L st) : WkB (upd H L.fa (.lst ((st.coins.drop (st.fallen + 1).toNat).map .int))) L { st with fallen := st.fallen + 1 } := by
  have b : But L.fa H (upd H L.fa (.lst ((st.coins.drop (st.fallen + 1).toNat).map .int))) := But.upd
  exact ⟨b _ _ r.d1.2.1 r.sz, b _ _ r.d1.2.2 r.ce, b _ _ (Ne.symm r.fah) r.he, upd_same, r.d1⟩
theorem sqT_bwB (c : WkB H L st) (s : BwB L H H') {a : Addr} {xs : List V} (h : SqT K H a xs) : SqT K H' a xs := by
  have ce : Ch H L.ce := .lst c.ce
  have he : Ch H L.he := .dK c.he
  have fa : Ch H L.fa := .lst c.fa
  rcases h with (h | ⟨o, h⟩) | h
  · exact .inl (.inl (s _ _ (fun e => ce.1 _ (e ▸ h)) (fun e => he.1 _ (e ▸ h)) (fun e => fa.1 _ (e ▸ h)) h))
  · exact .inl (.inr ⟨o, s _ _ (fun e => ce.2 _ _ (e ▸ h)) (fun e => he.2 _ _ (e ▸ h)) (fun e => fa.2 _ _ (e ▸ h)) h⟩)
  · exact .inr h
mutual
theorem dp_bwB (c : WkB H L st) (s : BwB L H H') : ∀ {v : V} {d : PyData}, Dp K H v d → NoL d → Dp K H' v d
  | _, _, .non, _ => .non
  | _, _, .bl b, _ => .bl b
  | _, _, .int i, _ => .int i
  | _, _, .str x, _ => .str x
  | _, _, .lst _ _, n => nomatch n
  | _, _, .tup h r, n => .tup (sqT_bwB c s h) (dps_bwB c s r (by cases n with | tup h => exact h))
theorem dps_bwB (c : WkB H L st) (s : BwB L H H') : ∀ {vs : List V} {ds : List PyData}, DpAll K H vs ds → (∀ d ∈ ds, NoL d) → DpAll K H' vs ds
  | _, _, .nil, _ => .nil
  | _, _, .cons h r, n => .cons (dp_bwB c s h (n _ List.mem_cons_self)) (dps_bwB c s r fun d hd => n d (List.mem_cons_of_mem _ hd))
end
end
def resB : Option Int → V
  | none => .int (-1)
  | some v => .int v
section
variable {P : Program} {w : World} {K : PySem.W.Frag} {mg : Str → Option Value} {base : Heap}
def spDoB (K : PySem.W.Frag) : Nat → Sp
  | 0 => fun _ _ _ _ => False
  | n + 1 => fun vs H Q _ => ∃ (v : V) (L : LB) (rs : List Row) (st : Mst) (deep loops : Nat), vs = [v, .ref L.ce, .ref L.sz, .ref L.he, .ref L.fa] ∧ Dp K H v (.tuple (rowsD rs)) ∧ rowsOk st.cells.length deep loops rs ∧ 14 ≤ deep + (n + 1) ∧ MOk st ∧ WkB H L st ∧
    (0 ≤ st.fallen ∧ st.fallen ≤ st.coins.length) ∧ (∀ H' s o u, BwB L H H' → RowsS rs st s o u → WkB H' L s → Q (resB o) H') ∧ ∀ H' s, BwB L H H' → RowsO rs st → WkB H' L s → Q (.int 10) H'
theorem ca_l_doB1 {n : Nat} (R : Ca P w K mg base (n + 10) "_law_do" (spDoB K n)) (T : Txt w K mg) : Ca P w K mg base (n + 11) "_law_do" (spDoB K (n + 1)) := by
    refine ca_of (N := ["_law_rows_here", "_law_cells", "_law_sizes", "_law_regs", "_law_falls", "_law_row", "_law_told", "_law_hit", "_law_k"]) (ps := ["_law_rows_here", "_law_cells", "_law_sizes", "_law_regs", "_law_falls"]) T.f_l_do T.g_law_do ⟨rfl, rfl, rfl, by decide +kernel, rfl, by decide +kernel, by decide +kernel⟩ (fun _ _ _ _ _ _ us hl => match us, hl with | [_, _, _, _, _], _ => rfl)
      (fun vs H Q E h => by obtain ⟨v, L, rs, st, deep, loops, rfl, hv, ok, hn, m, wk, hf, q, qo⟩ := h; rfl) (fun cdv A outer s H vs Q E hr h => ?_)
    have nd : (["_law_rows_here", "_law_cells", "_law_sizes", "_law_regs", "_law_falls", "_law_row", "_law_told", "_law_hit", "_law_k"] : List Str).Nodup := by decide +kernel
    obtain ⟨v, L, rs, st, deep, loops, rfl, hv, ok, hn, m, wk, hf, q, qo⟩ := h
    obtain ⟨a, xs, rfl, ha, hxs⟩ := dp_tup hv
    have lxs : xs.length = rs.length := by rw [dps_len hxs, rowsD_map, List.length_map]
    refine ⟨_, (pss_cons (ps_for PassesOwn.never rfl (pi_tup (pv 0)) (pg_name (i := 5) nd rfl (.inl rfl)) (pss_cons (ps_set (i := 6) nd rfl (.inl rfl) (pe_un un_neg pe_int))
      (pss_cons (ps_if (pt_cmpR op_eq (pe_ix ix_tup (pv 5) pe_int (fun _ _ => rfl)) pe_str (nomark _)) (pss_one (ps_ret (pe_ca (ca_l_worth 7 T) hr (pa_cons (pe_ix ix_tup (pv 5) pe_int (fun _ _ => rfl)) (pa_cons (pv 3) pa_nil)) (by omega)))) pss_nil)
      (pss_cons (ps_if (pt_cmpR op_eq (pe_ix ix_tup (pv 5) pe_int (fun _ _ => rfl)) pe_str (nomark _)) (pss_one (ps_dput (hu_of hr) (pv 3) (pe_ix ix_tup (pv 5) pe_int (fun _ _ => rfl)) (pe_ix ix_list (pv 1) (pe_ix ix_tup (pv 5) pe_int (fun _ _ => rfl)) (fun _ _ => rfl)) rfl)) (pss_one (ps_if (pt_cmpR op_eq (pe_ix ix_tup (pv 5) pe_int (fun _ _ => rfl)) pe_str (nomark _)) (pss_one (ps_asg (pe_op op_mod (pe_callTy call_int1 (by rfl) T.b_int boot_int (pa_cons (pe_ca (ca_l_worth 7 T) hr (pa_cons (pe_ix ix_tup (pv 5) pe_int (fun _ _ => rfl)) (pa_cons (pv 3) pa_nil)) (by omega)) pa_nil)) (pe_ix ix_list (pv 2) (pe_ix ix_tup (pv 5) pe_int (fun _ _ => rfl)) (fun _ _ => rfl))) (pg_sub (pv 1) (pe_ix ix_tup (pv 5) pe_int (fun _ _ => rfl)) set_list))) (pss_one (ps_if (pt_cmpR op_eq (pe_ix ix_tup (pv 5) pe_int (fun _ _ => rfl)) pe_str (nomark _)) (pss_one (ps_dput (hu_of hr) (pv 3) (pe_ix ix_tup (pv 5) pe_int (fun _ _ => rfl)) (pe_ca (ca_l_worth 7 T) hr (pa_cons (pe_ix ix_tup (pv 5) pe_int (fun _ _ => rfl)) (pa_cons (pv 3) pa_nil)) (by omega)) rfl)) (pss_one (ps_if (pt_cmpR op_eq (pe_ix ix_tup (pv 5) pe_int (fun _ _ => rfl)) pe_str (nomark _)) (pss_cons (ps_set (i := 7) nd rfl (.inl rfl) (pe_cmpR op_eq (pe_ix ix_list (pv 1) (pe_ix ix_tup (pv 5) pe_int (fun _ _ => rfl)) (fun _ _ => rfl)) (pe_ca (ca_l_worth 7 T) hr (pa_cons (pe_ix ix_tup (pv 5) pe_int (fun _ _ => rfl)) (pa_cons (pv 3) pa_nil)) (by omega)) (nomark _)))
      (pss_cons (ps_if (pt_val (pv 7)) (pss_one (ps_asg (pe_op op_mod (pe_callTy call_int1 (by rfl) T.b_int boot_int (pa_cons (pe_ca (ca_l_worth 7 T) hr (pa_cons (pe_ix ix_tup (pv 5) pe_int (fun _ _ => rfl)) (pa_cons (pv 3) pa_nil)) (by omega)) pa_nil)) (pe_ix ix_list (pv 2) (pe_ix ix_tup (pv 5) pe_int (fun _ _ => rfl)) (fun _ _ => rfl))) (pg_sub (pv 1) (pe_ix ix_tup (pv 5) pe_int (fun _ _ => rfl)) set_list))) pss_nil)
      (pss_one (ps_dput (hu_of hr) (pv 3) (pe_ix ix_tup (pv 5) pe_int (fun _ _ => rfl)) (pe_callTy call_int1 (by rfl) T.b_int boot_int (pa_cons (pv 7) pa_nil)) rfl)))) (pss_one (ps_if (pt_cmpR op_eq (pe_ix ix_tup (pv 5) pe_int (fun _ _ => rfl)) pe_str (nomark _)) (pss_cons (ps_if (pt_cmpR op_eq (pe_callB call_len_seq (by rfl) T.b_len PySem.boot_len (pa_cons (pv 4) pa_nil)) pe_int (nomark _)) (pss_one (ps_ret pe_int)) pss_nil)
      (pss_one (ps_dput (hu_of hr) (pv 3) (pe_ix ix_tup (pv 5) pe_int (fun _ _ => rfl)) (pe_bm PySem.F.plainAttrs_list PySem.F.slot_list_pop PySem.F.type_list_pop mt_popAt (pv 4) (pa_cons pe_int pa_nil)) rfl))) (pss_one (ps_if (pt_cmpR op_eq (pe_ix ix_tup (pv 5) pe_int (fun _ _ => rfl)) pe_str (nomark _)) (pss_one (ps_set (i := 6) nd rfl (.inl rfl) (pe_ca R hr (pa_cons (pe_ix ix_tup (pv 5) (pe_op op_add pe_int (pe_callTy call_int1 (by rfl) T.b_int boot_int (pa_cons (pe_cmpR op_eq (pe_ca (ca_l_worth 7 T) hr (pa_cons (pe_ix ix_tup (pv 5) pe_int (fun _ _ => rfl)) (pa_cons (pv 3) pa_nil)) (by omega)) pe_int (nomark _)) pa_nil))) (fun _ _ => rfl)) (pa_cons (pv 1) (pa_cons (pv 2) (pa_cons (pv 3) (pa_cons (pv 4) pa_nil))))) (by omega)))) (pss_one (ps_for PassesOwn.never rfl (pi_range1 rfl T.b_range (pa_cons (pe_ca (ca_l_worth 7 T) hr (pa_cons (pe_ix ix_tup (pv 5) pe_int (fun _ _ => rfl)) (pa_cons (pv 3) pa_nil)) (by omega)) pa_nil)) (pg_name (i := 8) nd rfl (.inl rfl)) (pss_one (ps_if (pt_cmpR op_lt (pv 6) pe_int (nomark _)) (pss_one (ps_set (i := 6) nd rfl (.inl rfl) (pe_ca R hr (pa_cons (pe_ix ix_tup (pv 5) pe_int (fun _ _ => rfl)) (pa_cons (pv 1) (pa_cons (pv 2) (pa_cons (pv 3) (pa_cons (pv 4) pa_nil))))) (by omega)))) pss_nil)))))))))))))))
      (pss_one (ps_if (pt_cmpR op_ge (pv 6) pe_int (nomark _)) (pss_one (ps_ret (pv 6))) pss_nil))))))
      (pss_one (ps_ret (pe_un un_neg pe_int)))), ?_⟩
    refine ⟨_, rfl, a, rfl, ⟨_, ha⟩, for_tup (xs := xs) (fun i σ' H' => ∃ x y z k m1 u, σ' = [some (.ref a), some (.ref L.ce), some (.ref L.sz), some (.ref L.he), some (.ref L.fa), x, y, z, k] ∧ BwB L H H' ∧ WkB H' L m1 ∧ RowsS (rs.take i) st m1 none u) ⟨none, none, none, none, st, [], rfl, BwB.refl L H, wk, .nil⟩ (fun i σ' H' _ ⟨_, _, _, _, _, _, _, bw, _⟩ => sqT_bwB wk bw ha) ?_ ?_⟩
    · rintro i x σ' H' hx ⟨_, y0, z0, k0, m1, u, rfl, bw, wk1, rw1⟩
      obtain ⟨dd, hdd, hxd⟩ := dps_get hxs hx
      rw [rowsD_map] at hdd
      obtain ⟨r, hr', rfl⟩ := get_mapA hdd
      have okr := rowsOkAt ok r (List.mem_of_getElem? hr')
      have af := aft_rows rw1 (ok_take i ok) m
      have ct := cc_take hr'
      have hx2 : Dp K H' x r.d := dp_bwB wk bw hxd r.noL
      have okr2 : r.ok m1.cells.length deep loops := by rw [af.le]; exact okr.2
      have hf1 : 0 ≤ m1.fallen ∧ m1.fallen ≤ m1.coins.length := ⟨by have := af.f0; omega, fell_rows rw1 hf.2⟩
      -- what comes behind the row
      have nxt : ∀ (H3 : Hp) (z k : Option V) (s : Mst) (u2 : List PyData), BwB L H' H3 → WkB H3 L s → RowS r m1 s none u2 → ∃ x' y' z' k' m1 u, [some (V.ref a), some (.ref L.ce), some (.ref L.sz), some (.ref L.he), some (.ref L.fa), some x, some (.int (-1)), z, k] = [some (V.ref a), some (.ref L.ce), some (.ref L.sz), some (.ref L.he), some (.ref L.fa), x', y', z', k'] ∧ BwB L H H3 ∧ WkB H3 L m1 ∧ RowsS (rs.take (i + 1)) st m1 none u :=
        fun H3 z k s u2 b3 w3 r3 => ⟨_, _, _, _, s, u ++ u2, rfl, bw.trans b3, w3, rowsS_more hr' rw1 r3⟩
      have ret : ∀ (H3 : Hp) (s : Mst) (v : Int) (u2 : List PyData), BwB L H' H3 → WkB H3 L s → RowS r m1 s (some v) u2 → Q (.int v) H3 :=
        fun H3 s v u2 b3 w3 r3 => q H3 s (some v) (u ++ u2) (bw.trans b3) (rowsS_end hr' rw1 r3) w3
      have reto : ∀ (H3 : Hp) (s : Mst), BwB L H' H3 → WkB H3 L s → RowO r m1 → Q (.int 10) H3 :=
        fun H3 s b3 w3 r3 => qo H3 s (bw.trans b3) (rowsO_at hr' rw1 r3) w3
      have n1 : decide ((0 : Int) ≤ -1) = false := by decide
      rw [row_d] at hx2
      obtain ⟨ra, zs, rfl, hra, hzs⟩ := dp_tup hx2
      obtain ⟨z0', zr, rfl, h0, hzr⟩ : ∃ y ys, zs = y :: ys ∧ Dp K H' y (.str r.word) ∧ DpAll K H' ys (r.prts.map Prt.d) := by
        cases hzs with | cons h1 h2 => exact ⟨_, _, rfl, h1, h2⟩
      cases dp_str h0
      refine ⟨_, rfl, _, rfl, _, _, _, _, rfl, rfl, hra, at0, rfl, _, rfl, ?_⟩
      cases r with
      | ans e =>
        cases hzr with | cons e1 hzr =>
        have e1 : Dp K H' _ e.d := e1
        have g : e.good := okr2
        refine iteT ⟨_, rfl, _, _, _, _, rfl, rfl, hra, at1, _, rfl, _, e, L.he, m1.regs, rfl, e1, g.1, by have := g.2; omega, wk1.he, af.mo.rg, fun H2 s2 => ?_⟩
        exact ret H2 m1 (e.ev m1.regs) [] (BwB.same s2) (wk1.same s2) .ans
      | read rg k =>
        cases hzr with | cons e1 hzr => cases hzr with | cons e2 hzr =>
        cases dp_str (show Dp K H' _ (.str rg) from e1)
        cases dp_int (show Dp K H' _ (.int k) from e2)
        obtain ⟨o1, o2, o3⟩ := okr2
        refine iteF ⟨_, rfl, _, _, _, _, rfl, rfl, hra, at0, rfl, _, rfl, iteT ?_⟩
        refine ⟨_, rfl, _, rfl, _, _, _, _, rfl, rfl, hra, at2, _, _, _, _, rfl, rfl, .of wk1.ce, atK o2 o3 rfl, ?_⟩
        refine ⟨_, rfl, _, rfl, _, _, _, _, rfl, rfl, hra, at1, L.he, _, rfl, DPut.k (k := Sum.inr rg) wk1.he (by show 5 < sizeLine; decide), ?_⟩
        rw [held_put (in45 o1)]
        refine ⟨_, rfl, _, _, rfl, rfl, _, rfl, ?_⟩
        rw [n1]
        exact iteF (nxt _ _ _ _ [_] (BwB.he But.upd) (wk1.setH (rset m1.regs rg (m1.cells.getD k.toNat 0))) (.plain (r := .read rg k) trivial))
      | set k e =>
        cases hzr with | cons e1 hzr => cases hzr with | cons e2 hzr =>
        cases dp_int (show Dp K H' _ (.int k) from e1)
        have e2 : Dp K H' _ e.d := e2
        obtain ⟨⟨o1, o2⟩, o3, o4⟩ := okr2
        have o2' : k < m1.sides.length := by rw [af.mo.le]; exact o2
        have pos : (0 : Int) < m1.sides.getD k.toNat 0 := by
          have := af.mo.sd _ (getD_mem (l := m1.sides) (i := k.toNat) (d := 0) (by omega))
          omega
        refine iteF ⟨_, rfl, _, _, _, _, rfl, rfl, hra, at0, rfl, _, rfl, iteF ?_⟩
        refine ⟨_, rfl, _, _, _, _, rfl, rfl, hra, at0, rfl, _, rfl, iteT ?_⟩
        refine ⟨_, rfl, _, _, _, _, rfl, rfl, hra, at2, _, rfl, _, e, L.he, m1.regs, rfl, e2, o3, by omega, wk1.he, af.mo.rg, fun H2 s2 => ?_⟩
        have wk2 := wk1.same s2
        have hra2 := same_t s2 hra
        refine .inl ⟨_, rfl, _, rfl, _, rfl, _, _, _, _, rfl, rfl, hra2, at1, _, _, _, _, rfl, rfl, .of wk2.sz, atK o1 o2' rfl, _, _, rfl, rfl, pos, ?_⟩
        refine ⟨_, rfl, _, rfl, _, _, _, _, rfl, rfl, hra2, at1, L.ce, _, _, k.toNat, rfl, rfl, wk2.ce, by rw [List.length_map]; exact ixK o1 o2, ?_⟩
        rw [setI]
        refine ⟨_, rfl, _, _, rfl, rfl, _, rfl, ?_⟩
        rw [n1]
        exact iteF (nxt _ _ _ _ [_] ((BwB.same s2).trans (BwB.ce But.upd)) (wk2.setC (m1.cells.set k.toNat (e.ev m1.regs % m1.sides.getD k.toNat 0))) (.plain (r := .set k e) trivial))
      | keep rg e =>
        cases hzr with | cons e1 hzr => cases hzr with | cons e2 hzr =>
        cases dp_str (show Dp K H' _ (.str rg) from e1)
        have e2 : Dp K H' _ e.d := e2
        obtain ⟨o1, g⟩ : rg ∈ regs4 ∧ e.good := okr2
        refine iteF ⟨_, rfl, _, _, _, _, rfl, rfl, hra, at0, rfl, _, rfl, iteF ?_⟩
        refine ⟨_, rfl, _, _, _, _, rfl, rfl, hra, at0, rfl, _, rfl, iteF ?_⟩
        refine ⟨_, rfl, _, _, _, _, rfl, rfl, hra, at0, rfl, _, rfl, iteT ?_⟩
        refine ⟨_, rfl, _, _, _, _, rfl, rfl, hra, at2, _, rfl, _, e, L.he, m1.regs, rfl, e2, g.1, by have := g.2; omega, wk1.he, af.mo.rg, fun H2 s2 => ?_⟩
        have wk2 := wk1.same s2
        refine ⟨_, rfl, _, rfl, _, _, _, _, rfl, rfl, same_t s2 hra, at1, L.he, _, rfl, DPut.k (k := Sum.inr rg) wk2.he (by show 5 < sizeLine; decide), ?_⟩
        rw [held_put (in45 o1)]
        refine ⟨_, rfl, _, _, rfl, rfl, _, rfl, ?_⟩
        rw [n1]
        exact iteF (nxt _ _ _ _ [] ((BwB.same s2).trans (BwB.he But.upd)) (wk2.setH (rset m1.regs rg (e.ev m1.regs))) (.plain (r := .keep rg e) trivial))
      | swap rg k e f =>
        cases hzr with | cons e1 hzr => cases hzr with | cons e2 hzr => cases hzr with | cons e3 hzr => cases hzr with | cons e4 hzr =>
        cases dp_str (show Dp K H' _ (.str rg) from e1)
        cases dp_int (show Dp K H' _ (.int k) from e2)
        have e3 : Dp K H' _ e.d := e3
        have e4 : Dp K H' _ f.d := e4
        obtain ⟨o0, ⟨o1, o2⟩, ⟨o3, o4⟩, o5, o6⟩ := okr2
        have o2' : k < m1.sides.length := by rw [af.mo.le]; exact o2
        have pos : (0 : Int) < m1.sides.getD k.toNat 0 := by
          have := af.mo.sd _ (getD_mem (l := m1.sides) (i := k.toNat) (d := 0) (by omega))
          omega
        refine iteF ⟨_, rfl, _, _, _, _, rfl, rfl, hra, at0, rfl, _, rfl, iteF ?_⟩
        refine ⟨_, rfl, _, _, _, _, rfl, rfl, hra, at0, rfl, _, rfl, iteF ?_⟩
        refine ⟨_, rfl, _, _, _, _, rfl, rfl, hra, at0, rfl, _, rfl, iteF ?_⟩
        refine ⟨_, rfl, _, _, _, _, rfl, rfl, hra, at0, rfl, _, rfl, iteT ?_⟩
        refine ⟨_, rfl, _, rfl, _, _, _, _, rfl, rfl, hra, at2, _, _, _, _, rfl, rfl, .of wk1.ce, atK o1 o2 rfl, ?_⟩
        refine ⟨_, rfl, _, _, _, _, rfl, rfl, hra, at3, _, rfl, _, e, L.he, m1.regs, rfl, e3, o3, by omega, wk1.he, af.mo.rg, fun H2 s2 => ⟨rfl, ?_⟩⟩
        have wk2 := wk1.same s2
        have hra2 := same_t s2 hra
        have est : stp1 (.row (.swap rg k e f)) m1 = if m1.cells.getD k.toNat 0 = e.ev m1.regs then { m1 with cells := m1.cells.set k.toNat (f.ev m1.regs % m1.sides.getD k.toNat 0), regs := rset m1.regs rg 1 } else { m1 with regs := rset m1.regs rg 0 } := rfl
        by_cases c : m1.cells.getD k.toNat 0 = e.ev m1.regs
        · rw [decide_eq_true (show V.int (m1.cells.getD k.toNat 0) = V.int (e.ev m1.regs) from congrArg V.int c)]
          rw [if_pos c] at est
          refine ⟨_, rfl, _, rfl, iteT ?_⟩
          refine ⟨_, rfl, _, _, _, _, rfl, rfl, hra2, at4, _, rfl, _, f, L.he, m1.regs, rfl, dp_same s2 e4, o5, by omega, wk2.he, af.mo.rg, fun H3 s3 => ?_⟩
          have wk3 := wk2.same s3
          have hra3 := same_t s3 hra2
          refine .inl ⟨_, rfl, _, rfl, _, rfl, _, _, _, _, rfl, rfl, hra3, at2, _, _, _, _, rfl, rfl, .of wk3.sz, atK o1 o2' rfl, _, _, rfl, rfl, pos, ?_⟩
          refine ⟨_, rfl, _, rfl, _, _, _, _, rfl, rfl, hra3, at2, L.ce, _, _, k.toNat, rfl, rfl, wk3.ce, by rw [List.length_map]; exact ixK o1 o2, ?_⟩
          rw [setI]
          have b := But.upd (H := H3) (D := L.ce) (o := .lst ((m1.cells.set k.toNat (f.ev m1.regs % m1.sides.getD k.toNat 0)).map .int))
          have wk4 := wk3.setC (m1.cells.set k.toNat (f.ev m1.regs % m1.sides.getD k.toNat 0))
          have hra4 := sqT_but (.lst wk3.ce) b hra3
          generalize upd H3 L.ce (.lst ((m1.cells.set k.toNat (f.ev m1.regs % m1.sides.getD k.toNat 0)).map .int)) = H4 at b wk4 hra4 ⊢
          refine ⟨_, rfl, .inr ⟨_, rfl, _, rfl, _, rfl, _, _, _, _, rfl, rfl, hra4, at1, L.he, _, rfl, DPut.k (k := Sum.inr rg) wk4.he (by show 5 < sizeLine; decide), ?_⟩⟩
          rw [show (if true = true then (1 : Int) else 0) = 1 from rfl, held_put (in45 o0)]
          have wk5 := wk4.setH (rset m1.regs rg 1)
          refine ⟨_, rfl, _, _, rfl, rfl, _, rfl, ?_⟩
          rw [n1]
          have rs1 : RowS (.swap rg k e f) m1 (stp1 (.row (.swap rg k e f)) m1) none _ := .plain trivial
          rw [est] at rs1
          exact iteF (nxt _ _ _ _ _ ((((BwB.same s2).trans (BwB.same s3)).trans (BwB.ce b)).trans (BwB.he But.upd)) wk5 rs1)
        · rw [decide_eq_false (show ¬ V.int (m1.cells.getD k.toNat 0) = V.int (e.ev m1.regs) from fun z => c (V.int.inj z))]
          rw [if_neg c] at est
          refine ⟨_, rfl, _, rfl, iteF ?_⟩
          refine ⟨_, rfl, .inr ⟨_, rfl, _, rfl, _, rfl, _, _, _, _, rfl, rfl, hra2, at1, L.he, _, rfl, DPut.k (k := Sum.inr rg) wk2.he (by show 5 < sizeLine; decide), ?_⟩⟩
          rw [show (if false = true then (1 : Int) else 0) = 0 from rfl, held_put (in45 o0)]
          have wk5 := wk2.setH (rset m1.regs rg 0)
          refine ⟨_, rfl, _, _, rfl, rfl, _, rfl, ?_⟩
          rw [n1]
          have rs1 : RowS (.swap rg k e f) m1 (stp1 (.row (.swap rg k e f)) m1) none _ := .plain trivial
          rw [est] at rs1
          exact iteF (nxt _ _ _ _ _ ((BwB.same s2).trans (BwB.he But.upd)) wk5 rs1)
      | coin rg =>
        cases hzr with | cons e1 hzr =>
        cases dp_str (show Dp K H' _ (.str rg) from e1)
        obtain ⟨o1, _⟩ : rg ∈ regs4 ∧ loops = 0 := okr2
        refine iteF ⟨_, rfl, _, _, _, _, rfl, rfl, hra, at0, rfl, _, rfl, iteF ?_⟩
        refine ⟨_, rfl, _, _, _, _, rfl, rfl, hra, at0, rfl, _, rfl, iteF ?_⟩
        refine ⟨_, rfl, _, _, _, _, rfl, rfl, hra, at0, rfl, _, rfl, iteF ?_⟩
        refine ⟨_, rfl, _, _, _, _, rfl, rfl, hra, at0, rfl, _, rfl, iteF ?_⟩
        refine ⟨_, rfl, _, _, _, _, rfl, rfl, hra, at0, rfl, _, rfl, iteT ?_⟩
        refine ⟨_, rfl, _, _, rfl, .inl (.of wk1.fa), rfl, _, rfl, ?_⟩
        by_cases hc : m1.fallen < m1.coins.length
        case neg =>
          have eL : m1.coins.drop m1.fallen.toNat = [] := List.drop_eq_nil_of_le (by omega)
          rw [eL]
          exact iteT (reto H' m1 (BwB.refl _ _) wk1 (.coin (by omega)))
        have hc : 0 ≤ m1.fallen ∧ m1.fallen < m1.coins.length := ⟨hf1.1, hc⟩
        have hfk : m1.fallen.toNat < m1.coins.length := by omega
        have ed : m1.coins.drop m1.fallen.toNat = m1.coins.getD m1.fallen.toNat 0 :: m1.coins.drop (m1.fallen + 1).toNat := by
          rw [show (m1.fallen + 1).toNat = m1.fallen.toNat + 1 from by omega, List.drop_eq_getElem_cons hfk, List.getD_eq_getElem?_getD, List.getElem?_eq_getElem hfk]
          rfl
        have hfa := wk1.fa
        rw [ed] at hfa ⊢
        refine iteF ?_
        refine ⟨_, rfl, .inl ⟨rfl, _, .of hfa⟩, L.fa, _, 0, 0, _, rfl, rfl, hfa, by decide, by decide, by simp [seqIndex?], rfl, ?_⟩
        have wk2 := wk1.setF
        have b2 := But.upd (H := H') (D := L.fa) (o := .lst ((m1.coins.drop (m1.fallen + 1).toNat).map V.int))
        have hra2 := sqT_but (.lst hfa) b2 hra
        rw [show (List.map V.int (m1.coins.getD m1.fallen.toNat 0 :: List.drop (m1.fallen + 1).toNat m1.coins)).eraseIdx 0 = (m1.coins.drop (m1.fallen + 1).toNat).map V.int from rfl]
        generalize upd H' L.fa (.lst ((m1.coins.drop (m1.fallen + 1).toNat).map V.int)) = H2 at wk2 b2 hra2 ⊢
        refine ⟨_, rfl, _, rfl, _, _, _, _, rfl, rfl, hra2, at1, L.he, _, rfl, DPut.k (k := Sum.inr rg) wk2.he (by show 5 < sizeLine; decide), ?_⟩
        rw [held_put (in45 o1)]
        refine ⟨_, rfl, _, _, rfl, rfl, _, rfl, ?_⟩
        rw [n1]
        exact iteF (nxt _ _ _ _ [] ((BwB.fa b2).trans (BwB.he But.upd)) (wk2.setH (rset m1.regs rg (m1.coins.getD m1.fallen.toNat 0))) (.coin hc))
      | iff e b c =>
        cases hzr with | cons e1 hzr => cases hzr with | cons e2 hzr => cases hzr with | cons e3 hzr =>
        have e1 : Dp K H' _ e.d := e1
        have e2 : Dp K H' _ (.tuple (rowsD b)) := e2
        have e3 : Dp K H' _ (.tuple (rowsD c)) := e3
        obtain ⟨g, ob, oc⟩ : e.good ∧ rowsOk m1.cells.length (deep + 1) loops b ∧ rowsOk m1.cells.length (deep + 1) loops c := okr2
        obtain ⟨n0, rfl⟩ : ∃ n0, n = n0 + 1 := ⟨n - 1, by have := okr.1; omega⟩
        refine iteF ⟨_, rfl, _, _, _, _, rfl, rfl, hra, at0, rfl, _, rfl, iteF ?_⟩
        refine ⟨_, rfl, _, _, _, _, rfl, rfl, hra, at0, rfl, _, rfl, iteF ?_⟩
        refine ⟨_, rfl, _, _, _, _, rfl, rfl, hra, at0, rfl, _, rfl, iteF ?_⟩
        refine ⟨_, rfl, _, _, _, _, rfl, rfl, hra, at0, rfl, _, rfl, iteF ?_⟩
        refine ⟨_, rfl, _, _, _, _, rfl, rfl, hra, at0, rfl, _, rfl, iteF ?_⟩
        refine ⟨_, rfl, _, _, _, _, rfl, rfl, hra, at0, rfl, _, rfl, iteT ?_⟩
        refine ⟨_, rfl, _, rfl, _, _, _, _, rfl, rfl, hra, at1, _, rfl, _, e, L.he, m1.regs, rfl, e1, g.1, by have := g.2; omega, wk1.he, af.mo.rg, fun H2 s2 => ⟨rfl, .inr ⟨_, rfl, ?_⟩⟩⟩
        have wk2 := wk1.same s2
        have hra2 := same_t s2 hra
        by_cases cz : e.ev m1.regs = 0
        · rw [decide_eq_true (show V.int (e.ev m1.regs) = V.int 0 from congrArg V.int cz)]
          refine ⟨_, _, rfl, rfl, _, _, _, _, rfl, rfl, hra2, at3, _, rfl, _, rfl, _, rfl, _, rfl, _, L, c, m1, deep + 1, loops, rfl, dp_same s2 e3, oc, by omega, af.mo, wk2, hf1, fun H3 s o u2 b3 r3 w3 => ?_, fun H3 s b3 r3 w3 => ?_⟩
          · cases o with
            | none =>
              refine ⟨_, rfl, _, _, rfl, rfl, _, rfl, ?_⟩
              rw [n1]
              exact iteF (nxt H3 _ _ s u2 ((BwB.same s2).trans b3) w3 (.no cz r3))
            | some v =>
              have vb := ans_rows r3 oc af.mo
              refine ⟨_, rfl, _, _, rfl, rfl, _, rfl, ?_⟩
              rw [decide_eq_true (show (0 : Int) ≤ v from vb.1)]
              exact iteT ⟨_, rfl, ret H3 s v u2 ((BwB.same s2).trans b3) w3 (.no cz r3)⟩
          · refine ⟨_, rfl, _, _, rfl, rfl, _, rfl, ?_⟩
            rw [decide_eq_true (show (0 : Int) ≤ 10 by decide)]
            exact iteT ⟨_, rfl, reto H3 s ((BwB.same s2).trans b3) w3 (.no cz r3)⟩
        · rw [decide_eq_false (show ¬ V.int (e.ev m1.regs) = V.int 0 from fun z => cz (V.int.inj z))]
          refine ⟨_, _, rfl, rfl, _, _, _, _, rfl, rfl, hra2, at2, _, rfl, _, rfl, _, rfl, _, rfl, _, L, b, m1, deep + 1, loops, rfl, dp_same s2 e2, ob, by omega, af.mo, wk2, hf1, fun H3 s o u2 b3 r3 w3 => ?_, fun H3 s b3 r3 w3 => ?_⟩
          · cases o with
            | none =>
              refine ⟨_, rfl, _, _, rfl, rfl, _, rfl, ?_⟩
              rw [n1]
              exact iteF (nxt H3 _ _ s u2 ((BwB.same s2).trans b3) w3 (.yes cz r3))
            | some v =>
              have vb := ans_rows r3 ob af.mo
              refine ⟨_, rfl, _, _, rfl, rfl, _, rfl, ?_⟩
              rw [decide_eq_true (show (0 : Int) ≤ v from vb.1)]
              exact iteT ⟨_, rfl, ret H3 s v u2 ((BwB.same s2).trans b3) w3 (.yes cz r3)⟩
          · refine ⟨_, rfl, _, _, rfl, rfl, _, rfl, ?_⟩
            rw [decide_eq_true (show (0 : Int) ≤ 10 by decide)]
            exact iteT ⟨_, rfl, reto H3 s ((BwB.same s2).trans b3) w3 (.yes cz r3)⟩
      | times e b =>
        cases hzr with | cons e1 hzr => cases hzr with | cons e2 hzr =>
        have e1 : Dp K H' _ e.d := e1
        have e2 : Dp K H' _ (.tuple (rowsD b)) := e2
        obtain ⟨g, l2, ob⟩ : e.good ∧ loops < 2 ∧ rowsOk m1.cells.length (deep + 1) (loops + 1) b := okr2
        obtain ⟨n0, rfl⟩ : ∃ n0, n = n0 + 1 := ⟨n - 1, by have := okr.1; omega⟩
        have cb := ccs_loop ob (Nat.succ_pos _)
        refine iteF ⟨_, rfl, _, _, _, _, rfl, rfl, hra, at0, rfl, _, rfl, iteF ?_⟩
        refine ⟨_, rfl, _, _, _, _, rfl, rfl, hra, at0, rfl, _, rfl, iteF ?_⟩
        refine ⟨_, rfl, _, _, _, _, rfl, rfl, hra, at0, rfl, _, rfl, iteF ?_⟩
        refine ⟨_, rfl, _, _, _, _, rfl, rfl, hra, at0, rfl, _, rfl, iteF ?_⟩
        refine ⟨_, rfl, _, _, _, _, rfl, rfl, hra, at0, rfl, _, rfl, iteF ?_⟩
        refine ⟨_, rfl, _, _, _, _, rfl, rfl, hra, at0, rfl, _, rfl, iteF ?_⟩
        refine ⟨_, rfl, _, _, _, _, rfl, rfl, hra, at1, _, rfl, _, e, L.he, m1.regs, rfl, e1, g.1, by have := g.2; omega, wk1.he, af.mo.rg, fun H1 s1 => ?_⟩
        have wkA := wk1.same s1
        have hra1 := same_t s1 hra
        have e2' := dp_same s1 e2
        have nb := ev_bd af.mo.rg g.1
        generalize en : e.ev m1.regs = ev at nb ⊢
        have hn1 : ev = ((ev.toNat : Nat) : Int) := (Int.toNat_of_nonneg nb.1).symm
        have n9 : ev.toNat ≤ 9 := by omega
        refine ⟨ev, rfl, by omega, by omega, for_it (n := ev.toNat) walk_range (fun j σ' H2 => ∃ z m2 u2 o, σ' = [some (.ref a), some (.ref L.ce), some (.ref L.sz), some (.ref L.he), some (.ref L.fa), some (.ref ra), some (resB o), z0, z] ∧ BwB L H1 H2 ∧ WkB H2 L m2 ∧ ((o = none ∧ TurnsT j b m1 m2 u2) ∨ ∃ v, o = some v ∧ 0 ≤ v ∧ TimesS ev.toNat b m1 m2 (some v) u2)) ⟨_, m1, [], none, rfl, BwB.refl _ _, wkA, .inl ⟨rfl, rfl, rfl⟩⟩ (fun _ _ _ _ _ => trivial) ?_ ?_⟩
        · rintro j z σ' H0 H2 hj ⟨_, m2, u2, o, rfl, b2, w2, ho⟩ ⟨rfl, rfl⟩
          rcases ho with ⟨rfl, tu⟩ | ⟨v, rfl, vb, ts⟩
          · have af2 : Aft m1 m2 0 (j * mxs b) u2 := aft_turns tu ob (Nat.succ_pos _) af.mo
            have f2 := af2.f0
            refine ⟨_, rfl, _, _, rfl, rfl, _, rfl, ?_⟩
            rw [decide_eq_true (show (-1 : Int) < 0 by decide)]
            refine iteT ⟨_, rfl, _, _, _, _, rfl, rfl, sqT_bwB wkA b2 hra1, at2, _, rfl, _, rfl, _, rfl, _, rfl, _, L, b, m2, deep + 1, loops + 1, rfl, dp_bwB wkA b2 e2' (.tup (rows_noL b)), by rw [af2.le]; exact ob, by omega, af2.mo, w2, ⟨by have := hf1.1; omega, fell_turns tu hf1.2⟩, fun H3 s o u3 b3 r3 w3 => ?_, fun _ _ _ r3 _ => (no_outs r3 ob (Nat.succ_pos _)).elim⟩
            refine ⟨_, s, u2 ++ u3, o, rfl, b2.trans b3, w3, ?_⟩
            cases o with
            | none => exact .inl ⟨rfl, m2, u2, u3, rfl, tu, r3⟩
            | some v => exact .inr ⟨v, rfl, (ans_rows r3 (by rw [af2.le]; exact ob) af2.mo).1, turnsT_stop hj tu r3⟩
          · refine ⟨_, rfl, _, _, rfl, rfl, _, rfl, ?_⟩
            rw [decide_eq_false (show ¬ v < 0 by omega)]
            exact iteF ⟨_, m2, u2, some v, rfl, b2, w2, .inr ⟨v, rfl, vb, ts⟩⟩
        · rintro σ' H2 ⟨_, m2, u2, o, rfl, b2, w2, ho⟩
          rcases ho with ⟨rfl, tu⟩ | ⟨v, rfl, vb, ts⟩
          · refine ⟨_, rfl, _, _, rfl, rfl, _, rfl, ?_⟩
            rw [n1]
            exact iteF (nxt H2 _ _ m2 u2 ((BwB.same s1).trans b2) w2 (.times (by rw [en]; exact hn1) (turnsT_all tu)))
          · refine ⟨_, rfl, _, _, rfl, rfl, _, rfl, ?_⟩
            rw [decide_eq_true (show (0 : Int) ≤ v from vb)]
            exact iteT ⟨_, rfl, ret H2 m2 v u2 ((BwB.same s1).trans b2) w2 (.times (by rw [en]; exact hn1) ts)⟩
    · rintro σ' H' ⟨_, _, _, _, m1, u, rfl, bw, wk1, rw1⟩
      rw [lxs, List.take_length] at rw1
      exact ⟨_, rfl, q H' m1 none u bw rw1 wk1⟩
theorem ca_l_doB (T : Txt w K mg) : ∀ n, Ca P w K mg base (n + 10) "_law_do" (spDoB K n)
  | 0 => ca_false (ps := ["_law_rows_here", "_law_cells", "_law_sizes", "_law_regs", "_law_falls"]) T.f_l_do T.g_law_do (fun _ _ _ _ _ _ us hl => match us, hl with | [_, _, _, _, _], _ => rfl)
  | n + 1 => ca_l_doB1 (ca_l_doB T n) T
end

end M

set_option Elab.async false
set_option linter.all false
set_option maxRecDepth 100000
set_option maxHeartbeats 2000000
namespace M
open PySem PySem.Spec PyProof.Rows L2

section
variable {rs : List Row} {sides hs : List Int} {a : Int}
theorem Able.wl1 (g : Able rs sides hs a) {fs cs cs' : List Int} {r r' : Int} (h : WL rs sides hs a fs r cs) (k : WL rs sides hs a fs r' cs') : r = r' ∧ cs = cs' := wayM_det (wl_way g.ok h) (wl_way g.ok k)
theorem Able.wl0 (g : Able rs sides hs a) {fs cs : List Int} {r : Int} (h : WL rs sides hs a fs r cs) (k : OL rs sides hs a fs) : False := by
  obtain ⟨_, _, f, _, _⟩ := wl_way g.ok h
  obtain ⟨_, o⟩ := body_out g.ok k
  exact fin_out f o
end
theorem trav_empty {W : List Int → Int → List Int → Prop} {O : List Int → Prop} {m : Nat} {todo : List (List Int)} {ws : List (List Int × Int × List Int)} (h : Trav W O m todo ws) (e : todo = []) : m = 0 ∧ ws = [] := by
  cases h with
  | done => exact ⟨rfl, rfl⟩
  | hit => simp at e
  | out => simp at e
theorem trav_zero {W : List Int → Int → List Int → Prop} {O : List Int → Prop} {m : Nat} {todo : List (List Int)} {ws : List (List Int × Int × List Int)} (h : Trav W O m todo ws) (e : m = 0) : ws = [] := by
  cases h with
  | done => rfl
  | hit => simp at e
  | out => simp at e
theorem trav_last {W : List Int → Int → List Int → Prop} {O : List Int → Prop} {m : Nat} {td todo : List (List Int)} {fs : List Int} {ws : List (List Int × Int × List Int)} (h : Trav W O m td ws) (e : td = todo ++ [fs]) : ∃ m', m = m' + 1 ∧ ((∃ r cs ws', W fs r cs ∧ ws = (fs, r, cs) :: ws' ∧ Trav W O m' todo ws') ∨ (O fs ∧ fs.length < 4 ∧ Trav W O m' (todo ++ [fs ++ [1], fs ++ [0]]) ws)) := by
  cases h with
  | done => simp at e
  | hit w k =>
    obtain ⟨e1, e2⟩ := List.append_inj' e rfl
    cases e2
    subst e1
    exact ⟨_, rfl, .inl ⟨_, _, _, w, rfl, k⟩⟩
  | out o l k =>
    obtain ⟨e1, e2⟩ := List.append_inj' e rfl
    cases e2
    subst e1
    exact ⟨_, rfl, .inr ⟨o, l, k⟩⟩
section
variable {P : Program} {w : World} {K : PySem.W.Frag} {mg : Str → Option Value} {base : Heap}
theorem ix_tupH {X : Cx} (K : PySem.W.Frag) (hK : X.K = K) : IxR X (rIxT K) := hK ▸ ix_tup
/-- a call by the deed d from the state hs -/
structure CallB (v : Vlt) (hs : List Int) (d : Str × Int × List Row) (arg : Int) : Prop where
  nd : (v.deeds.map (·.1)).Nodup
  c6 : v.cells.length ≤ 6
  d8 : v.deeds.length ≤ 8
  de : d ∈ v.deeds
  ab : Able d.2.2 (v.cells.map (·.1)) hs arg
def spOutsB (K : PySem.W.Frag) : Sp := fun vs H Q _ => ∃ (s b ta : Addr) (v : Vlt) (hs : List Int) (d : Str × Int × List Row) (arg : Int), vs = [.ref s, .ref b, .ref ta] ∧ ShpAt K H s v ∧ SqT K H b (hs.map .int) ∧ H ta = some (.tup [.str d.1, .int arg]) ∧ CallB v hs d arg ∧
  ∀ (z : Addr) (ys : List V) (H' : Hp), Same H H' → H z = none → H' z = some (.lst ys) → WysAt K H' ys (M.wys d.2.2 (v.cells.map (·.1)) arg hs) → Q (.ref z) H'
theorem ca_l_outcomes (T : Txt w K mg) : Ca P w K mg base 25 "_law_outcomes" (spOutsB K) := by
  refine ca_of (N := ["_law_shape", "_law_state", "_law_call", "_law_cell", "_law_sizes", "_law_deed", "_law_rows_here", "_law_done", "_law_todo", "_law_k", "_law_coins", "_law_cells", "_law_told"]) (ps := ["_law_shape", "_law_state", "_law_call"]) T.f_l_outcomes T.g_law_outcomes ⟨rfl, rfl, rfl, by decide +kernel, rfl, by decide +kernel, by decide +kernel⟩ (fun _ _ _ _ _ _ us hl => match us, hl with | [_, _, _], _ => rfl)
    (fun vs H Q E h => by obtain ⟨s, b, ta, v, hs, d, arg, rfl, hsh, hb, hta, cb, q⟩ := h; rfl) (fun cdv A outer s H vs Q E hr h => ?_)
  have nd : (["_law_shape", "_law_state", "_law_call", "_law_cell", "_law_sizes", "_law_deed", "_law_rows_here", "_law_done", "_law_todo", "_law_k", "_law_coins", "_law_cells", "_law_told"] : List Str).Nodup := by decide +kernel
  obtain ⟨s, b, ta, v, hs, d, arg, rfl, hsh, hb, hta, cb, q⟩ := h
  refine ⟨_, (pss_cons (ps_setLc (i := 4) (own := [("_law_cell", 3)]) (tt := tYes) rfl nd rfl rfl (by rfl) (pi_tup (pe_ix (ix_tupH K rfl) (pv 0) pe_int (fun _ _ => rfl))) (blkOk_by (N := ["_law_shape", "_law_state", "_law_call", "_law_cell", "_law_sizes", "_law_deed", "_law_rows_here", "_law_done", "_law_todo", "_law_k", "_law_coins", "_law_cells", "_law_told"]) (sc := defScope s_l_outcomes) (by decide +kernel)) (fun _ _ _ _ _ => pg_name (i := 3) nd rfl (.inl rfl)) (fun _ _ _ _ _ => pts_nil) (fun _ _ _ _ _ => pe_ix (ix_tupH K rfl) (pv 3) pe_int (fun _ _ => rfl)))
      (pss_cons (ps_set (i := 6) nd rfl (.inl rfl) (pe_ix ix_list (pe_lc (own := [("_law_deed", 5)]) rfl nd (pi_tup (pe_ix (ix_tupH K rfl) (pv 0) pe_int (fun _ _ => rfl))) (blkOk_by (N := ["_law_shape", "_law_state", "_law_call", "_law_cell", "_law_sizes", "_law_deed", "_law_rows_here", "_law_done", "_law_todo", "_law_k", "_law_coins", "_law_cells", "_law_told"]) (sc := defScope s_l_outcomes) (by decide +kernel)) (fun _ _ _ _ _ => pg_name (i := 5) nd rfl (.inl rfl)) (fun _ _ _ _ _ => pts_one (pt_cmpR op_eq (pe_ix (ix_tupH K rfl) (pv 5) pe_int (fun _ _ => rfl)) (pe_ix (ix_tupH K rfl) (pv 2) pe_int (fun _ _ => rfl)) (nomark _))) (fun _ _ _ _ _ => pe_ix (ix_tupH K rfl) (pv 5) pe_int (fun _ _ => rfl))) pe_int (fun _ _ => rfl)))
      (pss_cons (ps_set (i := 7) nd rfl (.inl rfl) (pe_lst pa_nil))
      (pss_cons (ps_set (i := 8) nd rfl (.inl rfl) (pe_lst (pa_cons (pe_tup pa_nil) pa_nil)))
      (pss_cons (ps_for PassesOwn.never rfl (pi_range1 rfl T.b_range (pa_cons pe_int pa_nil)) (pg_name (i := 9) nd rfl (.inl rfl)) (pss_one (ps_if (pt_cmpR op_gt (pe_callB call_len_seq (by rfl) T.b_len PySem.boot_len (pa_cons (pv 8) pa_nil)) pe_int (nomark _)) (pss_cons (ps_set (i := 10) nd rfl (.inl rfl) (pe_bm0 PySem.F.plainAttrs_list PySem.F.slot_list_pop PySem.F.type_list_pop mt_pop (pv 8)))
      (pss_cons (ps_set (i := 11) nd rfl (.inl rfl) (pe_callTy call_list_of (by rfl) T.b_list boot_list (pa_cons (pv 1) pa_nil)))
      (pss_cons (ps_set (i := 12) nd rfl (.inl rfl) (pe_ca (ca_l_doB T 13) hr (pa_cons (pv 6) (pa_cons (pv 11) (pa_cons (pv 4) (pa_cons (pe_disp (pps_cons pe_str pe_int (pps_cons pe_str pe_int (pps_cons pe_str pe_int (pps_cons pe_str pe_int (pps_cons pe_str (pe_ix ix_tup (pv 2) pe_int (fun _ _ => rfl)) pps_nil))))) rfl rfl (List.cons_ne_nil _ _) (by decide)) (pa_cons (pe_callTy call_list_of (by rfl) T.b_list boot_list (pa_cons (pv 10) pa_nil)) pa_nil)))))))
      (pss_one (ps_if (pt_cmpR op_eq (pv 12) pe_int (nomark _)) (pss_cons (ps_expr (pe_bm PySem.F.plainAttrs_list PySem.F.slot_list_append PySem.F.type_list_append mt_append (pv 8) (pa_cons (pe_op op_catA (pv 10) (pe_tup (pa_cons pe_int pa_nil))) pa_nil)))
      (pss_one (ps_expr (pe_bm PySem.F.plainAttrs_list PySem.F.slot_list_append PySem.F.type_list_append mt_append (pv 8) (pa_cons (pe_op op_catA (pv 10) (pe_tup (pa_cons pe_int pa_nil))) pa_nil))))) (pss_one (ps_expr (pe_bm PySem.F.plainAttrs_list PySem.F.slot_list_append PySem.F.type_list_append mt_append (pv 7) (pa_cons (pe_tup (pa_cons (pv 10) (pa_cons (pe_callB (call_max2 rfl) (by rfl) T.b_max boot_max (pa_cons (pv 12) (pa_cons pe_int pa_nil))) (pa_cons (pe_tupleOf (by rfl) T.b_tuple (pv 11)) pa_nil)))) pa_nil))))))))) pss_nil)))
      (pss_one (ps_ret (pv 7)))))))), ?_⟩
  obtain ⟨ca, da, cxs, dxs, hsq, hca, hcx, hda, hdx⟩ := hsh.at'
  have lcx : cxs.length = v.cells.length := by rw [dps_len hcx, List.length_map]
  have ldx : dxs.length = v.deeds.length := by rw [dps_len hdx, List.length_map]
  have c6 := cb.c6
  have d8 := cb.d8
  refine ⟨_, rfl, _, _, _, _, rfl, rfl, hsq, at0, ca, rfl, ⟨_, hca⟩, fun D nD => ?_⟩
  refine lc_out (n := cxs.length) walk_tup nD (by omega) (fun i y H => ∃ c, v.cells[i]? = some c ∧ y = .int c.1) (fun _ _ _ _ _ _ h => h) (fun H' s => same_t s hca) (fun i x H' H2 N F hi s y k => ?_) (fun H1 zs s1 hD el hr => ?_)
  · obtain ⟨rfl, ex⟩ := y
    obtain ⟨dd, ed, hdd⟩ := dps_get hcx ex
    obtain ⟨cc, ec, rfl⟩ := get_mapA ed
    obtain ⟨t, x1, x2, rfl, ht, e1, e2⟩ := dp2 (dp_same s hdd)
    cases dp_int e1
    exact ⟨rfl, iteT ⟨_, rfl, _, _, _, _, rfl, rfl, ht, at0, k _ _ (Same.refl _) ⟨cc, ec, rfl⟩⟩⟩
  have em : zs = (v.cells.map (·.1)).map V.int := by
    rw [List.map_map]
    exact map_of (by omega) fun i y e => by
      obtain ⟨c, h1, h2⟩ := hr i y e
      exact ⟨c, h1, h2⟩
  subst em
  clear hr el
  obtain ⟨j, hjl, hje⟩ := List.mem_iff_getElem.mp cb.de
  have hj : v.deeds[j]? = some d := by rw [List.getElem?_eq_getElem hjl, hje]
  refine ⟨_, rfl, _, _, _, _, rfl, rfl, same_t s1 hsq, at1, da, rfl, ⟨_, same_t s1 hda⟩, fun D2 nD2 => ?_⟩
  refine lc_it (n := dxs.length) walk_tup (fun i J => Same H1 J ∧ ∃ ys, J D2 = some (.lst ys) ∧ (i ≤ j → ys = []) ∧ (j < i → ∃ x, ys = [x] ∧ Dp K J x (.tuple (rowsD d.2.2)))) ⟨same_new nD2, [], upd_same, fun _ => rfl, fun h => by omega⟩ (fun i J _ ⟨s, _⟩ => same_t (s1.trans s) hda) ?_ ?_
  · rintro i x J J2 hi ⟨s2, ys, hD2, h1, h2⟩ ⟨rfl, ex⟩
    obtain ⟨dd, ed, hdd⟩ := dps_get hdx ex
    obtain ⟨d', ed', rfl⟩ := get_mapA ed
    obtain ⟨t, x1, x2, x3, rfl, ht, e1, e2, e3⟩ := dp3 (dp_same (s1.trans s2) hdd)
    cases dp_str e1
    refine ⟨rfl, _, rfl, _, _, _, _, rfl, rfl, ht, at0, _, rfl, _, _, _, _, rfl, rfl, .of ((s1.trans s2) _ _ hta), at0, rfl, ?_⟩
    have bb : But D2 J2 (upd J2 D2 (.lst (ys ++ [x3]))) := But.upd
    by_cases en : d'.1 = d.1
    · have ij : i = j := nd_ixG cb.nd (x := d.1) (i := i) (j := j) (by rw [List.getElem?_map, ed']; show some d'.1 = _; rw [en]) (by rw [List.getElem?_map, hj]; rfl)
      subst ij
      rw [hj] at ed'
      cases (Option.some.inj ed')
      rw [decide_eq_true (show V.str d.1 = V.str d.1 from rfl)]
      have ey := h1 (Nat.le_refl _)
      subst ey
      refine ⟨_, rfl, iteT ⟨_, rfl, _, _, _, _, rfl, rfl, ht, at2, [], hD2, (by show 0 < sizeLine; decide), fun b o e => bb _ _ (ne_of_none e nD2) (s2 _ _ e), [x3], upd_same, fun h => by omega, fun _ => ⟨x3, rfl, dp_but (.lst hD2) bb e3 (.tup (rows_noL _))⟩⟩⟩
    · rw [decide_eq_false (show ¬ V.str d'.1 = V.str d.1 from fun z => en (V.str.inj z))]
      have ij : i ≠ j := fun e => by
        subst e
        rw [hj] at ed'
        cases (Option.some.inj ed')
        exact en rfl
      exact ⟨_, rfl, iteF ⟨s2, ys, hD2, fun h => h1 (by omega), fun h => h2 (by omega)⟩⟩
  rintro H2 ⟨s2, ys, hD2, _, h2⟩
  obtain ⟨rv, rfl, dv⟩ := h2 (by omega)
  refine ⟨D2, _, _, _, rfl, rfl, .of hD2, at0, ?_⟩
  have s02 := s1.trans s2
  have hD' := s2 _ _ hD
  -- what is done, and what is still due
  refine ⟨(by show 0 ≤ sizeLine; exact Nat.zero_le _), fun wl nwl => ⟨(by show 0 ≤ sizeLine; exact Nat.zero_le _), fun t0 nt0 => ⟨(by show 1 ≤ sizeLine; decide), fun du ndu => ?_⟩⟩⟩
  have a1 : Same H2 (upd H2 wl (.lst [])) := same_new nwl
  have e1 : upd H2 wl (.lst []) wl = some (.lst []) := upd_same
  generalize upd H2 wl (.lst []) = A1 at a1 e1 nt0 ndu ⊢
  have a2 : Same A1 (upd A1 t0 (.tup [])) := same_new nt0
  have e2 : upd A1 t0 (.tup []) t0 = some (.tup []) := upd_same
  generalize upd A1 t0 (.tup []) = A2 at a2 e2 ndu ⊢
  have a3 : Same A2 (upd A2 du (.lst [.ref t0])) := same_new ndu
  have e3 : upd A2 du (.lst [.ref t0]) du = some (.lst [.ref t0]) := upd_same
  have hwd : wl ≠ du := ne_of_none (a2 _ _ e1) ndu
  have ndu0 : H du = none := none_of ((s02.trans a1).trans a2) ndu
  have nwl0 : H wl = none := none_of s02 nwl
  have ndu2 : H2 du = none := none_of (a1.trans a2) ndu
  generalize upd A2 du (.lst [.ref t0]) = A3 at a3 e3 ⊢
  obtain ⟨n, hn, tr, _, _⟩ := cb.ab.wys
  obtain ⟨ws, ews⟩ : ∃ ws, ws = M.wys d.2.2 (v.cells.map (·.1)) arg hs := ⟨_, rfl⟩
  rw [← ews] at tr q
  clear ews
  refine ⟨31, rfl, by decide, by decide, for_it (n := 31) walk_range (fun i σ' H' => ∃ (x9 x10 x11 x12 : Option V) (ys dys : List V) (dn rest : List (List Int × Int × List Int)) (todo : List (List Int)) (m : Nat), σ' = [some (.ref s), some (.ref b), some (.ref ta), none, some (.ref D), none, some rv, some (.ref wl), some (.ref du), x9, x10, x11, x12] ∧ Same H2 H' ∧ H' wl = some (.lst ys) ∧ WysAt K H' ys dn ∧ H' du = some (.lst dys) ∧ DpAll K H' dys (todo.map tupI) ∧ Trav (WL d.2.2 (v.cells.map (·.1)) hs arg) (OL d.2.2 (v.cells.map (·.1)) hs arg) m todo rest ∧ ws = dn ++ rest ∧ m + i ≤ 31 + (if m = 0 then i else 0) ∧ dn.length ≤ i ∧ todo.length ≤ i + 1 ∧ ∀ fs ∈ todo, fs.length ≤ 4 ∧ ∀ f ∈ fs, 0 ≤ f ∧ f ≤ 1) ⟨none, none, none, none, [], [.ref t0], [], ws, [[]], n, rfl, (a1.trans a2).trans a3, (a2.trans a3) _ _ e1, wys_nil, e3, .cons (.tup (.of (a3 _ _ e2)) .nil) .nil, tr, rfl, by split <;> omega, Nat.le_refl 0, Nat.le_refl 1, fun fs hf => by rw [List.mem_singleton.mp hf]; exact ⟨Nat.zero_le _, fun f h => nomatch h⟩⟩ (fun _ _ _ _ _ => trivial) ?_ ?_⟩
  · rintro i z σ' Hz H' hi ⟨x9, x10, x11, x12, ys, dys, dn, rest, todo0, m, rfl, sH, hwl, dyw, hdu, dyd, trv, ews, hm, hdn, htd, hbits⟩ ⟨rfl, rfl⟩
    have ldy : dys.length = todo0.length := by rw [dps_len dyd, List.length_map]
    refine ⟨_, rfl, _, _, rfl, .inl (.of hdu), _, _, rfl, rfl, _, rfl, ?_⟩
    rcases List.eq_nil_or_concat todo0 with te | ⟨todo, fs, te⟩
    · obtain ⟨m0, r0'⟩ := trav_empty trv te
      rw [decide_eq_false (show ¬ (0 : Int) < ((dys.length : Nat) : Int) from by rw [ldy, te]; show ¬ (0 : Int) < 0; decide)]
      exact iteF ⟨_, _, _, _, ys, dys, dn, rest, todo0, m, rfl, sH, hwl, dyw, hdu, dyd, trv, ews, by rw [if_pos m0]; omega, by omega, by omega, hbits⟩
    rw [List.concat_eq_append] at te
    subst te
    obtain ⟨dy0, dyl, rfl⟩ : ∃ dy0 dyl, dys = dy0 ++ [dyl] := by
      have : dys ≠ [] := fun e => by rw [e] at ldy; simp at ldy
      exact ⟨_, _, (List.dropLast_concat_getLast this).symm⟩
    have l0 : dy0.length = todo.length := by simpa using ldy
    obtain ⟨dyd0, dl⟩ : DpAll K H' dy0 (todo.map tupI) ∧ Dp K H' dyl (tupI fs) := by
      rw [List.map_append] at dyd
      exact dps_snoc dyd
    obtain ⟨m', em, tc⟩ := trav_last trv rfl
    subst em
    have hm2 : m' + 1 + i ≤ 31 := by rw [if_neg (by omega)] at hm; omega
    have htd2 : todo.length ≤ i := by simpa using htd
    have hlen := (hbits fs (by simp)).1
    have hbit := (hbits fs (by simp)).2
    have hb0 : ∀ gs ∈ todo, gs.length ≤ 4 ∧ ∀ f ∈ gs, 0 ≤ f ∧ f ≤ 1 := fun gs hg => hbits gs (List.mem_append_left _ hg)
    rw [decide_eq_true (show (0 : Int) < (((dy0 ++ [dyl]).length : Nat) : Int) from by simp)]
    refine iteT ⟨_, rfl, .inl ⟨rfl, _, .of hdu⟩, du, _, dyl, rfl, rfl, hdu, by simp, ?_⟩
    rw [List.dropLast_concat]
    have bd : But du H' (upd H' du (.lst dy0)) := But.upd
    have hdu1 : upd H' du (.lst dy0) du = some (.lst dy0) := upd_same
    generalize upd H' du (.lst dy0) = G0 at bd hdu1 ⊢
    have chd : Ch H' du := .lst hdu
    have sG : Same H2 G0 := fun b o e => bd _ _ (ne_of_none e ndu2) (sH _ _ e)
    have hwl1 := bd _ _ hwd hwl
    have dyw1 := wys_but chd bd dyw
    have dyd1 := dps_but chd bd dyd0 (tups_noL _)
    have dv1 := dp_but chd bd dl (tupI_noL _)
    obtain ⟨ct, cxs', rfl, hct, hcx'⟩ := dp_tup dv1
    have := dps_ints hcx'
    subst this
    have s0G := s02.trans sG
    -- the cells, the registers, the falls
    refine ⟨_, rfl, b, _, rfl, .inr (same_t s0G hb), fun l nl => ?_⟩
    have s4 : Same G0 (upd G0 l (.lst (hs.map V.int))) := same_new nl
    have hl4 : upd G0 l (.lst (hs.map V.int)) l = some (.lst (hs.map V.int)) := upd_same
    generalize upd G0 l (.lst (hs.map V.int)) = H4 at s4 hl4 ⊢
    refine ⟨_, rfl, _, rfl, _, rfl, ?_⟩
    refine fun HD nHD => ⟨_, rfl, _, _, _, _, rfl, rfl, .of (same_new nHD _ _ ((s0G.trans s4) _ _ hta)), at1, upd_same, [kS "a" (.int 0), kS "b" (.int 0), kS "c" (.int 0), kS "d" (.int 0), kS "x" (.int arg)], rfl, (by show 5 ≤ 15; decide), ?_⟩
    rw [upd_upd, held_disp]
    have s5 : Same H4 (upd H4 HD (.dK (heldK (r0 arg)))) := same_new nHD
    have hHD : upd H4 HD (.dK (heldK (r0 arg))) HD = some (.dK (heldK (r0 arg))) := upd_same
    generalize upd H4 HD (.dK (heldK (r0 arg))) = H5 at s5 hHD ⊢
    have sG5 := s4.trans s5
    refine ⟨_, rfl, ct, _, rfl, .inr (same_t sG5 hct), fun n5 nn => ?_⟩
    have s6 : Same H5 (upd H5 n5 (.lst (fs.map V.int))) := same_new nn
    have hn6 : upd H5 n5 (.lst (fs.map V.int)) n5 = some (.lst (fs.map V.int)) := upd_same
    generalize upd H5 n5 (.lst (fs.map V.int)) = H6 at s6 hn6 ⊢
    have sG6 := sG5.trans s6
    have s46 := s5.trans s6
    have nGl : G0 l = none := nl
    have nGh : G0 HD = none := none_of s4 nHD
    have nGn : G0 n5 = none := none_of sG5 nn
    have wk : WkB H6 ⟨l, D, HD, n5⟩ (mst0 (codeOf d.2.2) (v.cells.map (·.1)) hs fs arg) := ⟨(sG.trans sG6) _ _ hD', s46 _ _ hl4, s6 _ _ hHD, hn6, ⟨ne_of_none (sG _ _ hD') nl, ne_of_none ((sG.trans sG5) _ _ hD') nn, ne_of_none (s5 _ _ hl4) nn⟩⟩
    have m0 := cb.ab.mo fs hbit
    refine ⟨_, ⟨l, D, HD, n5⟩, d.2.2, mst0 (codeOf d.2.2) (v.cells.map (·.1)) hs fs arg, 1, 0, rfl, dp_same (sG.trans sG6) dv, cb.ab.ok, by decide, m0, wk, ⟨by show (0 : Int) ≤ 0; decide, by show (0 : Int) ≤ ((fs.length : Nat) : Int); omega⟩, fun H7 st' o u bw rs1 wk7 => ?_, fun H7 st' bw rs1 wk7 => ?_⟩
    · have s7 : Same G0 H7 := fun b o e => bw _ _ (ne_of_none e nGl) (ne_of_none e nGh) (ne_of_none e nGn) (sG6 _ _ e)
      have w1 : WL d.2.2 (v.cells.map (·.1)) hs arg fs (o.getD 0) st'.cells := ⟨st', o, u, rs1, rfl, rfl⟩
      rcases tc with ⟨r, cs, ws', wq, rfl, k⟩ | ⟨oq, _, _⟩
      case inr => exact (cb.ab.wl0 w1 oq).elim
      obtain ⟨rfl, rfl⟩ := cb.ab.wl1 w1 wq
      obtain ⟨tv, et, e10, emx⟩ : ∃ tv : Int, resB o = .int tv ∧ tv ≠ 10 ∧ (if (0 : Int) > tv then 0 else tv) = o.getD 0 := by
        cases o with
        | none => exact ⟨-1, rfl, by decide, rfl⟩
        | some x =>
          have := ans_rows rs1 cb.ab.ok m0
          exact ⟨x, rfl, by omega, by rw [if_neg (by omega)]; rfl⟩
      rw [et]
      refine ⟨_, rfl, rfl, _, rfl, ?_⟩
      rw [decide_eq_false (show ¬ V.int tv = V.int 10 from fun z => e10 (V.int.inj z))]
      refine iteF ⟨_, rfl, .inl ⟨rfl, _, .of (s7 _ _ hwl1)⟩, _, rfl, _, rfl, _, _, rfl, ?_⟩
      rw [emx]
      refine ⟨_, rfl, .inl ⟨l, _, rfl, .of wk7.ce, fun u1 nu1 => ⟨(by show 3 ≤ sizeLine; decide), fun u2 nu2 => ?_⟩⟩⟩
      have q1 := same_new (o := .tup (st'.cells.map V.int)) nu1
      have f1 : upd H7 u1 (.tup (st'.cells.map V.int)) u1 = some (.tup (st'.cells.map V.int)) := upd_same
      generalize upd H7 u1 (.tup (st'.cells.map V.int)) = G2 at q1 f1 nu2 ⊢
      have q2 : Same G2 (upd G2 u2 (.tup [.ref ct, .int (o.getD 0), .ref u1])) := same_new nu2
      have q07 := (s7.trans q1).trans q2
      have dw : WayAt K (upd G2 u2 (.tup [.ref ct, .int (o.getD 0), .ref u1])) (.ref u2) (fs, o.getD 0, st'.cells) := ⟨u2, ct, u1, rfl, .of upd_same, same_t q07 hct, q2 _ _ f1⟩
      generalize upd G2 u2 (.tup [.ref ct, .int (o.getD 0), .ref u1]) = G3 at q2 dw q07 ⊢
      have hwl3 := q07 _ _ hwl1
      have bb : But wl G3 (upd G3 wl (.lst (ys ++ [.ref u2]))) := But.upd
      have lys : ys.length = dn.length := wys_len dyw
      refine ⟨wl, ys, _, rfl, rfl, hwl3, by rw [sizeLine_eq]; omega, _, _, _, _, ys ++ [.ref u2], dy0, dn ++ [(fs, o.getD 0, st'.cells)], ws', todo, m', rfl, fun b o e => bb _ _ (ne_of_none e nwl) (q07 _ _ (sG _ _ e)), upd_same, wys_but (.lst hwl3) bb (wys_snoc dw (wys_same q07 dyw1)), bb _ _ (Ne.symm hwd) (q07 _ _ hdu1), dps_but (.lst hwl3) bb (dps_same q07 dyd1) (tups_noL _), k, by rw [ews, List.append_assoc]; rfl, by split <;> omega, by simp; omega, by omega, hb0⟩
    · have s7 : Same G0 H7 := fun b o e => bw _ _ (ne_of_none e nGl) (ne_of_none e nGh) (ne_of_none e nGn) (sG6 _ _ e)
      rcases tc with ⟨r, cs, ws', wq, _, _⟩ | ⟨_, l4, k⟩
      · exact (cb.ab.wl0 wq rs1).elim
      refine ⟨_, rfl, rfl, _, rfl, iteT ?_⟩
      -- one more fall
      have more : ∀ (i : Int) (J J2 : Hp) (t : Addr) (Z : VK), SqT K J ct (fs.map V.int) → Same J J2 → SqT K J2 t [.int i] → (∀ (v : V) (J' : Hp), Same J2 J' → Dp K J' v (tupI (fs ++ [i])) → Z v J') → rCatA K (.ref ct) (.ref t) J2 Z := fun i J J2 t Z hct sj ht k => by
        refine ⟨ct, t, _, _, rfl, rfl, same_t sj hct, ht, by rw [List.length_map, sizeLine_eq]; simp; omega, fun e0 => ?_, fun _ e => (by cases e), fun _ _ p np => ?_⟩
        · have ef : fs = [] := List.map_eq_nil_iff.mp e0
          rw [ef] at k
          exact k _ _ (Same.refl _) (.tup ht (.cons (.int _) .nil))
        · refine k _ _ (same_new np) (.tup (.of upd_same) ?_)
          rw [List.map_append]
          exact dps_app ints_dps (.cons (.int _) .nil)
      have hct7 := same_t s7 hct
      have hdu7 := s7 _ _ hdu1
      refine ⟨_, rfl, .inl ⟨rfl, _, .of hdu7⟩, _, rfl, (by show 1 ≤ sizeLine; decide), fun t1 nt1 => ?_⟩
      have u1 : Same H7 (upd H7 t1 (.tup [.int 1])) := same_new nt1
      refine more 1 H7 _ t1 _ hct7 u1 (.of upd_same) fun v1 J1 w1 d1 => ?_
      have r1 := (s7.trans u1).trans w1
      have hdu10 := r1 _ _ hdu1
      refine ⟨du, dy0, v1, rfl, rfl, hdu10, by rw [l0, sizeLine_eq]; omega, ?_⟩
      have b1 : But du J1 (upd J1 du (.lst (dy0 ++ [v1]))) := But.upd
      have e11 : upd J1 du (.lst (dy0 ++ [v1])) du = some (.lst (dy0 ++ [v1])) := upd_same
      have d11 := dp_but (.lst hdu10) b1 d1 (tupI_noL _)
      have dyd11 := dps_but (.lst hdu10) b1 (dps_same r1 dyd1) (tups_noL _)
      have dyw11 := wys_but (.lst hdu10) b1 (wys_same r1 dyw1)
      have hwl11 := b1 _ _ hwd (r1 _ _ hwl1)
      have hct11 : SqT K (upd J1 du (.lst (dy0 ++ [v1]))) ct (fs.map V.int) := sqT_but (.lst hdu10) b1 (same_t r1 hct)
      have sH11 : Same H2 (upd J1 du (.lst (dy0 ++ [v1]))) := fun b o e => b1 _ _ (ne_of_none e ndu2) (r1 _ _ (sG _ _ e))
      generalize upd J1 du (.lst (dy0 ++ [v1])) = J2 at b1 e11 d11 dyd11 dyw11 hwl11 hct11 sH11 ⊢
      refine ⟨_, rfl, .inl ⟨rfl, _, .of e11⟩, _, rfl, (by show 1 ≤ sizeLine; decide), fun t2 nt2 => ?_⟩
      have u3 : Same J2 (upd J2 t2 (.tup [.int 0])) := same_new nt2
      refine more 0 J2 _ t2 _ hct11 u3 (.of upd_same) fun v2 J3 w3 d3 => ?_
      have u4 := u3.trans w3
      have hdu12 := u4 _ _ e11
      have b2 : But du J3 (upd J3 du (.lst (dy0 ++ [v1] ++ [v2]))) := But.upd
      refine ⟨du, dy0 ++ [v1], v2, rfl, rfl, hdu12, by rw [List.length_append, l0, sizeLine_eq]; simp; omega, _, _, _, _, ys, dy0 ++ [v1] ++ [v2], dn, rest, todo ++ [fs ++ [1], fs ++ [0]], m', rfl, fun b o e => b2 _ _ (ne_of_none e ndu2) (u4 _ _ (sH11 _ _ e)), b2 _ _ hwd (u4 _ _ hwl11), wys_but (.lst hdu12) b2 (wys_same u4 dyw11), upd_same, ?_, k, ews, by split <;> omega, by omega, by simp; omega, fun gs hg => ?_⟩
      · rw [show todo ++ [fs ++ [1], fs ++ [0]] = todo ++ [fs ++ [1]] ++ [fs ++ [0]] from by simp, List.map_append, List.map_append]
        exact dps_app (dps_app (dps_but (.lst hdu12) b2 (dps_same u4 dyd11) (tups_noL _)) (.cons (dp_but (.lst hdu12) b2 (dp_same u4 d11) (tupI_noL _)) .nil)) (.cons (dp_but (.lst hdu12) b2 d3 (tupI_noL _)) .nil)
      · rcases List.mem_append.mp hg with h | h
        · exact hb0 gs h
        · have hx : ∀ i : Int, (i = 0 ∨ i = 1) → (fs ++ [i]).length ≤ 4 ∧ ∀ f ∈ fs ++ [i], 0 ≤ f ∧ f ≤ 1 := fun i hi => ⟨by simp; omega, fun f hf => by
            rcases List.mem_append.mp hf with h | h
            · exact hbit f h
            · rw [List.mem_singleton.mp h]
              omega⟩
          simp only [List.mem_cons, List.not_mem_nil, or_false] at h
          rcases h with rfl | rfl
          · exact hx 1 (.inr rfl)
          · exact hx 0 (.inl rfl)
  · rintro σ' H' ⟨_, _, _, _, ys, dys, dn, rest, todo, m, rfl, sH, hwl, dyw, _, _, trv, ews, hm, _, _, _⟩
    have m0 : m = 0 := by
      by_cases c : m = 0
      · exact c
      · rw [if_neg c] at hm
        omega
    have er := trav_zero trv m0
    subst er
    rw [List.append_nil] at ews
    exact ⟨_, rfl, q wl ys H' (s02.trans sH) nwl0 hwl (by rw [ews]; exact dyw)⟩
end

end M

set_option Elab.async false
set_option linter.all false
set_option maxRecDepth 100000
set_option maxHeartbeats 2000000
namespace M
open PySem PySem.Spec PyProof.Rows L2

/-! ### the states that can come, in their order -/
/-- the ways of the call c -/
noncomputable def hwy (v : Vlt) (c : Str × Int) (hs : List Int) : List (List Int × Int × List Int) :=
  match v.deeds.find? (fun d => decide (d.1 = c.1)) with
  | some d => M.wys d.2.2 (v.cells.map (·.1)) c.2 hs
  | none => []
theorem hwy_of {v : Vlt} (nd : (v.deeds.map (·.1)).Nodup) {d : Str × Int × List Row} (hd : d ∈ v.deeds) {c : Str × Int} (e : d.1 = c.1) (hs : List Int) : hwy v c hs = M.wys d.2.2 (v.cells.map (·.1)) c.2 hs := by
  unfold hwy
  cases h : v.deeds.find? (fun d => decide (d.1 = c.1)) with
  | none =>
    have := List.find?_eq_none.mp h d hd
    simp [e] at this
  | some d2 =>
    have h1 := List.mem_of_find?_eq_some h
    have h2 := List.find?_some h
    have h2 : d2.1 = c.1 := by simpa using h2
    rw [deed_eq nd h1 hd (h2.trans e.symm)]
theorem hable {v : Vlt} (g : VGood v) {d : Str × Int × List Row} (hd : d ∈ v.deeds) {a : Int} (ar : 0 ≤ a ∧ a < d.2.1) {hs : List Int} (so : StateOk (v.cells.map (·.1)) hs) : Able d.2.2 (v.cells.map (·.1)) hs a := by
  have dok := g.ds d hd
  have lh : v.cells.length = hs.length := by have := so.1; rw [List.length_map] at this; exact this
  exact ⟨fun fs hf => mst0_ok g hd so ⟨ar.1, by have := ar.2; have := dok.2.1.2; omega⟩ hf, by rw [← lh]; exact dok.2.2.1, dok.2.2.2.1⟩
def met (l : List (List Int)) (s : List Int) : List (List Int) := if s ∈ l then l else l ++ [s]
def metW (l : List (List Int)) (ws : List (List Int × Int × List Int)) : List (List Int) := ws.foldl (fun l w => met l w.2.2) l
noncomputable def visitC (v : Vlt) (hs : List Int) (l : List (List Int)) (cs : List (Str × Int)) : List (List Int) := cs.foldl (fun l c => metW l (hwy v c hs)) l
noncomputable def rstep (v : Vlt) (n : Nat) (l : List (List Int)) : List (List Int) := match l[n]? with
  | some hs => visitC v hs l v.calls
  | none => l
noncomputable def rch (v : Vlt) : Nat → List (List Int)
  | 0 => [v.cells.map (·.2)]
  | n + 1 => rstep v n (rch v n)
theorem rch_some {v : Vlt} {n : Nat} {hs : List Int} (h : (rch v n)[n]? = some hs) : rch v (n + 1) = visitC v hs (rch v n) v.calls := by
  show rstep v n (rch v n) = _
  unfold rstep
  rw [h]
theorem rch_none {v : Vlt} {n : Nat} (h : (rch v n)[n]? = none) : rch v (n + 1) = rch v n := by
  show rstep v n (rch v n) = _
  unfold rstep
  rw [h]
theorem met_pre (l : List (List Int)) (s : List Int) : l <+: met l s := by
  unfold met
  split
  · exact List.prefix_refl _
  · exact ⟨[s], rfl⟩
theorem metW_pre : ∀ (ws : List (List Int × Int × List Int)) (l : List (List Int)), l <+: metW l ws
  | [], l => List.prefix_refl l
  | w :: ws, l => (met_pre l w.2.2).trans (metW_pre ws _)
theorem visitC_pre {v : Vlt} {hs : List Int} : ∀ (cs : List (Str × Int)) (l : List (List Int)), l <+: visitC v hs l cs
  | [], l => List.prefix_refl l
  | c :: cs, l => (metW_pre _ l).trans (visitC_pre cs _)
theorem rch_pre (v : Vlt) (n : Nat) : rch v n <+: rch v (n + 1) := by
  cases h : (rch v n)[n]? with
  | some hs => rw [rch_some h]; exact visitC_pre _ _
  | none => rw [rch_none h]; exact List.prefix_refl _
theorem rch_mono (v : Vlt) {n : Nat} : ∀ k : Nat, rch v n <+: rch v (n + k)
  | 0 => List.prefix_refl _
  | k + 1 => (rch_mono v k).trans (rch_pre v (n + k))
theorem metW_snoc (l : List (List Int)) (ws : List (List Int × Int × List Int)) (w : List Int × Int × List Int) : metW l (ws ++ [w]) = met (metW l ws) w.2.2 := by
  unfold metW
  rw [List.foldl_append]
  rfl
theorem visitC_snoc {v : Vlt} {hs : List Int} (l : List (List Int)) (cs : List (Str × Int)) (c : Str × Int) : visitC v hs l (cs ++ [c]) = metW (visitC v hs l cs) (hwy v c hs) := by
  unfold visitC
  rw [List.foldl_append]
  rfl
theorem met_nd {l : List (List Int)} (n : l.Nodup) (s : List Int) : (met l s).Nodup := by
  unfold met
  split
  · exact n
  · rename_i h
    exact List.nodup_append.mpr ⟨n, List.nodup_cons.mpr ⟨(fun h => nomatch h), List.nodup_nil⟩, fun x hx y hy e => by
      rw [List.mem_singleton.mp hy] at e
      exact h (e ▸ hx)⟩
theorem metW_nd : ∀ (ws : List (List Int × Int × List Int)) {l : List (List Int)}, l.Nodup → (metW l ws).Nodup
  | [], _, n => n
  | w :: ws, _, n => metW_nd ws (met_nd n w.2.2)
theorem visitC_nd {v : Vlt} {hs : List Int} : ∀ (cs : List (Str × Int)) {l : List (List Int)}, l.Nodup → (visitC v hs l cs).Nodup
  | [], _, n => n
  | c :: cs, _, n => visitC_nd cs (metW_nd _ n)
theorem rch_nd (v : Vlt) : ∀ n, (rch v n).Nodup
  | 0 => List.nodup_cons.mpr ⟨(fun h => nomatch h), List.nodup_nil⟩
  | n + 1 => by
    cases h : (rch v n)[n]? with
    | some hs => rw [rch_some h]; exact visitC_nd _ (rch_nd v n)
    | none => rw [rch_none h]; exact rch_nd v n
section
variable {P : List Int → Prop}
theorem met_all {l : List (List Int)} (h : ∀ x ∈ l, P x) {s : List Int} (hs : P s) : ∀ x ∈ met l s, P x := fun x hx => by
  unfold met at hx
  split at hx
  · exact h x hx
  · rcases List.mem_append.mp hx with hx | hx
    · exact h x hx
    · rw [List.mem_singleton.mp hx]
      exact hs
theorem metW_all : ∀ (ws : List (List Int × Int × List Int)) {l : List (List Int)}, (∀ x ∈ l, P x) → (∀ w ∈ ws, P w.2.2) → ∀ x ∈ metW l ws, P x
  | [], _, h, _ => h
  | w :: ws, _, h, k => metW_all ws (met_all h (k w List.mem_cons_self)) fun u hu => k u (List.mem_cons_of_mem _ hu)
theorem visitC_all {v : Vlt} {hs : List Int} : ∀ (cs : List (Str × Int)) {l : List (List Int)}, (∀ x ∈ l, P x) → (∀ c ∈ cs, ∀ w ∈ hwy v c hs, P w.2.2) → ∀ x ∈ visitC v hs l cs, P x
  | [], _, h, _ => h
  | c :: cs, _, h, k => visitC_all cs (metW_all _ h (k c List.mem_cons_self)) fun u hu => k u (List.mem_cons_of_mem _ hu)
theorem rch_all {v : Vlt} (h0 : P (v.cells.map (·.2))) (k : ∀ hs, P hs → ∀ c ∈ v.calls, ∀ w ∈ hwy v c hs, P w.2.2) : ∀ n, ∀ x ∈ rch v n, P x
  | 0, x, hx => by
    rw [List.mem_singleton.mp hx]
    exact h0
  | n + 1, x, hx => by
    cases e : (rch v n)[n]? with
    | some hs =>
      rw [rch_some e] at hx
      exact visitC_all _ (rch_all h0 k n) (k hs (rch_all h0 k n hs (List.mem_of_getElem? e))) x hx
    | none =>
      rw [rch_none e] at hx
      exact rch_all h0 k n x hx
end
theorem rch_stop {v : Vlt} {n : Nat} (h : (rch v n).length ≤ n) : ∀ k : Nat, rch v (n + k) = rch v n
  | 0 => rfl
  | k + 1 => by
    have ih := rch_stop h k
    have e : (rch v (n + k))[n + k]? = none := by rw [ih]; exact List.getElem?_eq_none (by omega)
    exact (rch_none e).trans ih
theorem pre_get {α : Type} {l m : List α} (h : l <+: m) {i : Nat} {x : α} (e : l[i]? = some x) : m[i]? = some x := by
  obtain ⟨t, rfl⟩ := h
  rw [List.getElem?_append_left (List.getElem?_eq_some_iff.mp e).1]
  exact e
theorem rch_pos (v : Vlt) (n : Nat) : 1 ≤ (rch v n).length := by
  have := (rch_mono v (n := 0) n).length_le
  rw [Nat.zero_add] at this
  exact this
/-! ### rows of few cells -/
mutual
theorem ok_mono {c c' : Int} (h : c ≤ c') : ∀ {r : Row} {deep loops : Nat}, r.ok c deep loops → r.ok c' deep loops
  | .read r k, _, _, ok => ⟨ok.1, ok.2.1, by have := ok.2.2; omega⟩
  | .set k e, _, _, ok => ⟨⟨ok.1.1, by have := ok.1.2; omega⟩, ok.2⟩
  | .swap r k e f, _, _, ok => ⟨ok.1, ⟨ok.2.1.1, by have := ok.2.1.2; omega⟩, ok.2.2⟩
  | .keep r e, _, _, ok => ok
  | .coin r, _, _, ok => ok
  | .iff e a b, _, _, ok => ⟨ok.1, oks_mono h ok.2.1, oks_mono h ok.2.2⟩
  | .times e a, _, _, ok => ⟨ok.1, ok.2.1, oks_mono h ok.2.2⟩
  | .ans e, _, _, ok => ok
theorem oks_mono {c c' : Int} (h : c ≤ c') : ∀ {rs : List Row} {deep loops : Nat}, rowsOk c deep loops rs → rowsOk c' deep loops rs
  | [], _, _, _ => trivial
  | r :: rs, _, _, ok => ⟨ok.1, ok_mono h ok.2.1, oks_mono h ok.2.2⟩
end
mutual
theorem keep_row {c : Int} : ∀ {r : Row} {st s : Mst} {o : Option Int} {t : List PyData} {deep loops : Nat}, RowS r st s o t → r.ok c deep loops → s.cells.drop c.toNat = st.cells.drop c.toNat
  | r, _, _, _, _, _, _, .plain (st := st) h, ok => by
    cases r with
    | read r k => rfl
    | set k e => exact List.drop_set_of_lt (by have := ok.1; omega)
    | swap r k e f =>
      have z : ∀ s', s' = stp1 (.row (.swap r k e f)) st → s'.cells.drop c.toNat = st.cells.drop c.toNat := fun s' e' => by
        rw [e']
        show (if st.cells.getD k.toNat 0 = e.ev st.regs then ({ st with cells := st.cells.set k.toNat (f.ev st.regs % st.sides.getD k.toNat 0), regs := rset st.regs r 1 } : Mst) else { st with regs := rset st.regs r 0 }).cells.drop c.toNat = _
        split
        · exact List.drop_set_of_lt (by have := ok.2.1; omega)
        · rfl
      exact z _ rfl
    | keep r e => rfl
    | _ => exact h.elim
  | _, _, _, _, _, _, _, .coin h, ok => rfl
  | _, _, _, _, _, _, _, .ans, ok => rfl
  | _, _, _, _, _, _, _, .yes h r, ok => keep_rows r ok.2.1
  | _, _, _, _, _, _, _, .no h r, ok => keep_rows r ok.2.2
  | _, _, _, _, _, _, _, .times hn r, ok => keep_times r ok.2.2
theorem keep_rows {c : Int} : ∀ {rs : List Row} {st s : Mst} {o : Option Int} {t : List PyData} {deep loops : Nat}, RowsS rs st s o t → rowsOk c deep loops rs → s.cells.drop c.toNat = st.cells.drop c.toNat
  | _, _, _, _, _, _, _, .nil, _ => rfl
  | _, _, _, _, _, _, _, .stop h, ok => keep_row h ok.2.1
  | _, _, _, _, _, _, _, .cons h k, ok => (keep_rows k ok.2.2).trans (keep_row h ok.2.1)
theorem keep_times {c : Int} : ∀ {n : Nat} {a : List Row} {st s : Mst} {o : Option Int} {t : List PyData} {deep loops : Nat}, TimesS n a st s o t → rowsOk c deep loops a → s.cells.drop c.toNat = st.cells.drop c.toNat
  | _, _, _, _, _, _, _, _, .zero, _ => rfl
  | _, _, _, _, _, _, _, _, .stop h, ok => keep_rows h ok
  | _, _, _, _, _, _, _, _, .more h k, ok => (keep_times k ok).trans (keep_rows h ok)
end
/-! ### how many there are at most -/
def hAll : List Int → List (List Int)
  | [] => [[]]
  | s :: r => (List.range s.toNat).flatMap fun i : Nat => (hAll r).map fun t => ((i : Nat) : Int) :: t
theorem mem_hAll : ∀ {ss hs : List Int}, StateOk ss hs → hs ∈ hAll ss
  | [], [], _ => List.mem_singleton.mpr rfl
  | [], h :: t, so => by have := so.1; simp at this
  | s :: r, [], so => by have := so.1; simp at this
  | s :: r, h :: t, so => by
    have z := so.2 0 s h rfl rfl
    have k : StateOk r t := ⟨by have := so.1; simpa using this, fun i a b e1 e2 => so.2 (i + 1) a b e1 e2⟩
    refine List.mem_flatMap.mpr ⟨h.toNat, List.mem_range.mpr (show h.toNat < s.toNat by omega), List.mem_map.mpr ⟨t, mem_hAll k, ?_⟩⟩
    show ((h.toNat : Nat) : Int) :: t = h :: t
    rw [Int.toNat_of_nonneg z.1]
theorem len_hAll : ∀ {cs : List (Int × Int)}, (∀ c ∈ cs, CellOk c) → ((hAll (cs.map (·.1))).length : Int) = szP cs
  | [], _ => rfl
  | c :: r, h => by
    have ih := len_hAll (cs := r) fun x hx => h x (List.mem_cons_of_mem _ hx)
    show ((((List.range c.1.toNat).flatMap fun i : Nat => (hAll (r.map (·.1))).map fun t => ((i : Nat) : Int) :: t).length : Nat) : Int) = c.1 * szP r
    rw [List.length_flatMap]
    have e : (List.map (fun i : Nat => ((hAll (r.map (·.1))).map fun t => ((i : Nat) : Int) :: t).length) (List.range c.1.toNat)) = List.replicate c.1.toNat (hAll (r.map (·.1))).length := by
      refine List.ext_getElem (by simp) fun i _ _ => by simp
    rw [e, List.sum_replicate_nat, Int.natCast_mul, ih]
    have := (h c List.mem_cons_self).1
    rw [Int.toNat_of_nonneg (by omega)]
theorem nodup_on {α β : Type} {f : α → β} {l : List α} (inj : ∀ x ∈ l, ∀ y ∈ l, f x = f y → x = y) (n : l.Nodup) : (l.map f).Nodup := by
  unfold List.Nodup
  rw [List.pairwise_map]
  exact List.Pairwise.imp_of_mem (fun ha hb ne e => ne (inj _ ha _ hb e)) n
/-- a state of a vault whose last cells stay as they are -/
def HFit (cs0 : List (Int × Int)) (ss rest : List Int) (hs : List Int) : Prop := StateOk ss hs ∧ hs.drop cs0.length = rest
theorem fit_len {cs0 : List (Int × Int)} {ss rest : List Int} (ok : ∀ c ∈ cs0, CellOk c) (pre : (cs0.map (·.1)) <+: ss) {l : List (List Int)} (n : l.Nodup) (h : ∀ hs ∈ l, HFit cs0 ss rest hs) : (l.length : Int) ≤ szP cs0 := by
  have n2 : (l.map fun hs => hs.take cs0.length).Nodup := nodup_on (fun x hx y hy e => by
    rw [← List.take_append_drop cs0.length x, ← List.take_append_drop cs0.length y, e, (h x hx).2, (h y hy).2]) n
  have z := hNodup_len n2 (m := hAll (cs0.map (·.1))) fun t ht => by
    obtain ⟨hs, hh, rfl⟩ := List.mem_map.mp ht
    obtain ⟨so, _⟩ := h hs hh
    refine mem_hAll ⟨?_, fun i s x e1 e2 => ?_⟩
    · have := so.1
      have := pre.length_le
      simp only [List.length_map] at this
      rw [List.length_map, List.length_take]
      omega
    · refine so.2 i s x (pre_get pre e1) ?_
      rw [List.getElem?_take] at e2
      split at e2
      · exact e2
      · cases e2
  rw [List.length_map] at z
  have := len_hAll ok
  omega

end M

set_option Elab.async false
set_option linter.all false
set_option maxRecDepth 100000
set_option maxHeartbeats 2000000
namespace M
open PySem PySem.Spec PyProof.Rows L2

/-! ### what the law finds -/
theorem Ch.dT {H : Hp} {D : Addr} {l : List (List Key × V)} (h : H D = some (.dT l)) : Ch H D := ⟨fun _ e => (by rw [h] at e; cases e), fun _ _ e => (by rw [h] at e; cases e)⟩
def hstK (k : List Int) : List Key := k.map Sum.inl
theorem hstK_v (k : List Int) : (hstK k).map kV = k.map V.int := by
  unfold hstK
  rw [List.map_map]
  rfl
theorem hstK_inj : ∀ {a b : List Int}, hstK a = hstK b → a = b
  | [], [], _ => rfl
  | [], _ :: _, h => by cases h
  | _ :: _, [], h => by cases h
  | x :: a, y :: b, h => by
    have h : Sum.inl x :: hstK a = (Sum.inl y :: hstK b : List Key) := h
    injection h with h1 h2
    injection h1 with h1
    rw [h1, hstK_inj h2]
/-- states as they stand: tracked tuples -/
def StsAt (H : Hp) : List V → List (List Int) → Prop
  | [], [] => True
  | y :: ys, s :: ss => (∃ t, y = .ref t ∧ H t = some (.tup (s.map .int))) ∧ StsAt H ys ss
  | _, _ => False
theorem StsAt.imp {H H' : Hp} (k : ∀ a xs, H a = some (.tup xs) → H' a = some (.tup xs)) : ∀ {ys : List V} {ss : List (List Int)}, StsAt H ys ss → StsAt H' ys ss
  | [], [], _ => trivial
  | _ :: _, _ :: _, ⟨⟨t, e, h⟩, r⟩ => ⟨⟨t, e, k _ _ h⟩, r.imp k⟩
  | [], _ :: _, h => h.elim
  | _ :: _, [], h => h.elim
theorem StsAt.len {H : Hp} : ∀ {ys : List V} {ss : List (List Int)}, StsAt H ys ss → ys.length = ss.length
  | [], [], _ => rfl
  | _ :: _, _ :: _, ⟨_, r⟩ => congrArg (· + 1) r.len
  | [], _ :: _, h => h.elim
  | _ :: _, [], h => h.elim
theorem StsAt.snoc {H : Hp} {t : Addr} {s : List Int} (ht : H t = some (.tup (s.map .int))) : ∀ {ys : List V} {ss : List (List Int)}, StsAt H ys ss → StsAt H (ys ++ [.ref t]) (ss ++ [s])
  | [], [], _ => ⟨⟨t, rfl, ht⟩, trivial⟩
  | _ :: _, _ :: _, ⟨h, r⟩ => ⟨h, r.snoc ht⟩
  | [], _ :: _, h => h.elim
  | _ :: _, [], h => h.elim
theorem StsAt.at {H : Hp} : ∀ {ys : List V} {ss : List (List Int)} {i : Nat} {s : List Int}, StsAt H ys ss → ss[i]? = some s → ∃ t, ys[i]? = some (.ref t) ∧ H t = some (.tup (s.map .int))
  | y :: _, s :: _, 0, u, ⟨⟨t, e, h⟩, _⟩, q => by
    cases (Option.some.inj q)
    exact ⟨t, by rw [e]; rfl, h⟩
  | _ :: _, _ :: _, i + 1, u, ⟨_, r⟩, q => StsAt.at (i := i) r q
  | [], [], _, _, _, q => by simp at q
  | [], _ :: _, _, _, h, _ => h.elim
  | _ :: _, [], _, _, h, _ => h.elim
theorem StsAt.dp {K : PySem.W.Frag} {H : Hp} : ∀ {ys : List V} {ss : List (List Int)}, StsAt H ys ss → DpAll K H ys (ss.map tupI)
  | [], [], _ => .nil
  | _ :: _, _ :: _, ⟨⟨t, e, h⟩, r⟩ => by
    subst e
    exact .cons (.tup (.of h) ints_dps) r.dp
  | [], _ :: _, h => h.elim
  | _ :: _, [], h => h.elim
/-- the states with their places, as a dict has them -/
def idxK : Nat → List (List Int) → List (List Key × V)
  | _, [] => []
  | n, s :: r => (hstK s, .int ((n : Nat) : Int)) :: idxK (n + 1) r
theorem idxK_len : ∀ (n : Nat) (l : List (List Int)), (idxK n l).length = l.length
  | _, [] => rfl
  | n, _ :: r => congrArg (· + 1) (idxK_len (n + 1) r)
theorem idxK_snoc : ∀ (n : Nat) (l : List (List Int)) (s : List Int), idxK n (l ++ [s]) = idxK n l ++ [(hstK s, .int ((n + l.length : Nat) : Int))]
  | n, [], s => rfl
  | n, x :: r, s => by
    show (hstK x, V.int ((n : Nat) : Int)) :: idxK (n + 1) (r ++ [s]) = (hstK x, V.int ((n : Nat) : Int)) :: (idxK (n + 1) r ++ [(hstK s, V.int ((n + (r.length + 1) : Nat) : Int))])
    rw [idxK_snoc (n + 1) r s, show n + 1 + r.length = n + (r.length + 1) from by omega]
theorem idxK_no : ∀ {n : Nat} {l : List (List Int)} {s : List Int}, s ∉ l → valV (idxK n l) (hstK s) = none
  | _, [], _, _ => rfl
  | n, x :: r, s, h => by
    show valV ((hstK x, V.int ((n : Nat) : Int)) :: idxK (n + 1) r) (hstK s) = none
    rw [valV_neg (fun e => h (by rw [hstK_inj e]; exact List.mem_cons_self))]
    exact idxK_no fun e => h (List.mem_cons_of_mem _ e)
theorem idxK_yes : ∀ {n : Nat} {l : List (List Int)} {s : List Int}, s ∈ l → ∃ i, l[i]? = some s ∧ valV (idxK n l) (hstK s) = some (.int ((n + i : Nat) : Int))
  | n, x :: r, s, h => by
    by_cases e : x = s
    · subst e
      exact ⟨0, rfl, valV_pos rfl⟩
    · rcases List.mem_cons.mp h with h | h
      · exact absurd h.symm e
      · obtain ⟨i, e1, e2⟩ := idxK_yes (n := n + 1) h
        refine ⟨i + 1, e1, ?_⟩
        show valV ((hstK x, V.int ((n : Nat) : Int)) :: idxK (n + 1) r) (hstK s) = _
        rw [valV_neg (fun z => e (hstK_inj z)), e2, show n + 1 + i = n + (i + 1) from by omega]
theorem idxK_met {l : List (List Int)} {s : List Int} (h : s ∉ l) : putK (idxK 0 l) (hstK s) (.int ((l.length : Nat) : Int)) = idxK 0 (l ++ [s]) := by
  rw [putK_new _ (idxK_no h), idxK_snoc, Nat.zero_add]
/-- a state and a call, as a key -/
def skey (hs : List Int) (c : Str × Int) : NestedKey := .tup [.tup (hs.map .num), .tup [.text c.1, .num c.2]]
theorem hnums_inj : ∀ {a b : List Int}, a.map NestedKey.num = b.map NestedKey.num → a = b
  | [], [], _ => rfl
  | [], _ :: _, h => by cases h
  | _ :: _, [], h => by cases h
  | x :: a, y :: b, h => by
    injection h with h1 h2
    injection h1 with h1
    rw [h1, hnums_inj h2]
theorem skey_inj {a b : List Int} {c d : Str × Int} (h : skey a c = skey b d) : a = b ∧ c = d := by
  unfold skey at h
  injection h with h
  injection h with h1 h2
  injection h1 with h1
  injection h2 with h2 _
  injection h2 with h2
  injection h2 with h2 h3
  injection h2 with h2
  injection h3 with h3 _
  injection h3 with h3
  exact ⟨hnums_inj h1, Prod.ext h2 h3⟩
theorem hnkvs_ints (H : Hp) : ∀ hs : List Int, NKVs H (hs.map V.int) (hs.map .num)
  | [] => .nil
  | x :: r => .cons (.int x) (hnkvs_ints H r)
theorem hdepth_nums : ∀ hs : List Int, NestedKey.depthAll (hs.map .num) ≤ 1
  | [] => by rw [List.map_nil]; unfold NestedKey.depthAll; omega
  | x :: r => by
    rw [List.map_cons]
    unfold NestedKey.depthAll
    have := hdepth_nums r
    have e : (NestedKey.num x).depth ≤ 1 := by unfold NestedKey.depth; omega
    omega
theorem skey_is {H : Hp} {t qa ca : Addr} {hs : List Int} {c : Str × Int} (ht : H t = some (.tup [.ref qa, .ref ca])) (hq : H qa = some (.tup (hs.map .int))) (hc : H ca = some (.tup [.str c.1, .int c.2])) : NKey H (.ref t) (skey hs c) := by
  refine ⟨⟨t, rfl⟩, .tup ht (.cons (.tup hq (hnkvs_ints H hs)) (.cons (.tup hc (.cons (.str _) (.cons (.int _) .nil))) .nil)), ?_⟩
  unfold skey
  simp only [NestedKey.depth, NestedKey.depthAll]
  have := hdepth_nums hs
  omega
theorem hfirst_so {v : Vlt} (g : VGood v) : StateOk (v.cells.map (·.1)) (v.cells.map (·.2)) := by
  refine ⟨by rw [List.length_map, List.length_map], fun i s h e1 e2 => ?_⟩
  rw [List.getElem?_map] at e1 e2
  obtain ⟨c, hc, rfl⟩ := Option.map_eq_some_iff.mp e1
  rw [hc] at e2
  cases (Option.some.inj e2)
  exact (g.cs c (List.mem_of_getElem? hc)).2.2
theorem hwy_so {v : Vlt} (g : VGood v) {hs : List Int} (so : StateOk (v.cells.map (·.1)) hs) {c : Str × Int} (hc : c ∈ v.calls) {w : List Int × Int × List Int} (hw : w ∈ hwy v c hs) : StateOk (v.cells.map (·.1)) w.2.2 := by
  obtain ⟨d, hd, e, h0, h1⟩ := calls_mem hc
  rw [hwy_of g.nd hd e.symm] at hw
  exact ((hable g hd ⟨h0, h1⟩ so).so so hw).1
theorem rch_so {v : Vlt} (g : VGood v) : ∀ n, ∀ x ∈ rch v n, StateOk (v.cells.map (·.1)) x :=
  rch_all (P := StateOk (v.cells.map (·.1))) (hfirst_so g) fun _ so _ hc _ hw => hwy_so g so hc hw
theorem callB_of {v : Vlt} (g : VGood v) {hs : List Int} (so : StateOk (v.cells.map (·.1)) hs) {c : Str × Int} (hc : c ∈ v.calls) : ∃ d, c.1 = d.1 ∧ CallB v hs d c.2 ∧ M.wys d.2.2 (v.cells.map (·.1)) c.2 hs = hwy v c hs := by
  obtain ⟨d, hd, e, h0, h1⟩ := calls_mem hc
  exact ⟨d, e, ⟨g.nd, g.c1, g.d1, hd, hable g hd ⟨h0, h1⟩ so⟩, (hwy_of g.nd hd e.symm hs).symm⟩
theorem ways31 {v : Vlt} (g : VGood v) {hs : List Int} (so : StateOk (v.cells.map (·.1)) hs) {c : Str × Int} (hc : c ∈ v.calls) : (hwy v c hs).length ≤ 16 := by
  obtain ⟨d, hd, e, h0, h1⟩ := calls_mem hc
  rw [hwy_of g.nd hd e.symm]
  obtain ⟨_, _, _, h16, h⟩ := (hable g hd ⟨h0, h1⟩ so).wys
  have : ∀ ws : List (List Int × Int × List Int), ws.length ≤ (ws.map fun w => chn w.1).sum := fun ws => by
    induction ws with
    | nil => exact Nat.le_refl 0
    | cons w r ih =>
      rw [List.map_cons, List.sum_cons, List.length_cons]
      have : 1 ≤ chn w.1 := Nat.one_le_two_pow
      omega
  have := this (M.wys d.2.2 (v.cells.map (·.1)) c.2 hs)
  omega
/-- how the finding stands -/
structure FnAt (P : Program) (w : World) (K : PySem.W.Frag) (v : Vlt) (fl st sn : Addr) (H0 H : Hp) (bs : List V) (l : List (List Int)) (kvs : List (NestedKey × V)) (D : List Int → Str × Int → Prop) : Prop where
  sm : Same H0 H
  hf : H fl = some (.lst bs)
  fx : StsAt H bs l
  hs : H sn = some (.dT (idxK 0 l))
  hd : NDat P w H st kvs
  kn : ∀ hs c, D hs c → ∃ z ys, valV kvs (skey hs c) = some (.ref z) ∧ H z = some (.lst ys) ∧ z ≠ fl ∧ WysAt K H ys (hwy v c hs)
  ne : fl ≠ st ∧ fl ≠ sn ∧ st ≠ sn
  n0 : H0 fl = none ∧ H0 st = none ∧ H0 sn = none
section
variable {P : Program} {w : World} {K : PySem.W.Frag} {v : Vlt} {fl st sn : Addr} {H0 H H' : Hp} {bs : List V} {l : List (List Int)} {kvs : List (NestedKey × V)} {D : List Int → Str × Int → Prop}
theorem FnAt.same (h : FnAt P w K v fl st sn H0 H bs l kvs D) (s : Same H H') : FnAt P w K v fl st sn H0 H' bs l kvs D :=
  ⟨h.sm.trans s, s _ _ h.hf, h.fx.imp fun _ _ => s _ _, s _ _ h.hs, h.hd.same s, fun hs c d => by
    obtain ⟨z, ys, e1, e2, e3, e4⟩ := h.kn hs c d
    exact ⟨z, ys, e1, s _ _ e2, e3, wys_same s e4⟩, h.ne, h.n0⟩
theorem FnAt.keepT (h : FnAt P w K v fl st sn H0 H bs l kvs D) {d : Addr} (b : But d H H') (hd : Ch H d) : ∀ a xs, H a = some (.tup xs) → H' a = some (.tup xs) := fun a xs e => b _ _ (fun z => hd.1 _ (z ▸ e)) e
/-- the ways of a call are put -/
theorem FnAt.step (h : FnAt P w K v fl st sn H0 H bs l kvs D) {hs : List Int} {c : Str × Int} {z : Addr} {ys : List V} (e : ∀ b, b ≠ st → H' b = H b) (nd : NDat P w H' st (putK kvs (skey hs c) (.ref z))) (hz : H z = some (.lst ys)) (nz : z ≠ fl) (wy : WysAt K H ys (hwy v c hs)) : FnAt P w K v fl st sn H0 H' bs l (putK kvs (skey hs c) (.ref z)) (fun a b => D a b ∨ (a = hs ∧ b = c)) := by
  have b : But st H H' := fun x o n q => by rw [e x n]; exact q
  have hc : Ch H st := Ch.nd h.hd
  have k := h.keepT b hc
  obtain ⟨o, ho⟩ := h.hd.some
  have stl : ∀ x xs, H x = some (.lst xs) → x ≠ st := fun x xs q z => by
    obtain ⟨_, _, zs, _, e9⟩ := h.hd
    rw [z, e9] at q
    cases q
  refine ⟨fun x o q => b _ _ (ne_of_none q h.n0.2.1) (h.sm _ _ q), b _ _ h.ne.1 h.hf, h.fx.imp k, b _ _ (Ne.symm h.ne.2.2) h.hs, nd, fun a q hq => ?_, h.ne, h.n0⟩
  by_cases ek : skey a q = skey hs c
  · obtain ⟨rfl, rfl⟩ := skey_inj ek
    exact ⟨z, ys, by rw [valV_put, if_pos rfl], b _ _ (stl _ _ hz) hz, nz, wys_but hc b wy⟩
  · rcases hq with hq | ⟨rfl, rfl⟩
    · obtain ⟨z2, ys2, e1, e2, e3, e4⟩ := h.kn a q hq
      exact ⟨z2, ys2, by rw [valV_put, if_neg ek]; exact e1, b _ _ (stl _ _ e2) e2, e3, wys_but hc b e4⟩
    · exact absurd rfl ek
/-- a state is met -/
theorem FnAt.seen (h : FnAt P w K v fl st sn H0 H bs l kvs D) {t : Addr} {s : List Int} (ht : H t = some (.tup (s.map .int))) (n : s ∉ l) : FnAt P w K v fl st sn H0 (upd (upd H sn (.dT (idxK 0 (l ++ [s])))) fl (.lst (bs ++ [.ref t]))) (bs ++ [.ref t]) (l ++ [s]) kvs D := by
  have b1 : But sn H (upd H sn (.dT (idxK 0 (l ++ [s])))) := But.upd
  have c1 : Ch H sn := .dT h.hs
  have f1 : upd H sn (.dT (idxK 0 (l ++ [s]))) fl = some (.lst bs) := b1 _ _ h.ne.2.1 h.hf
  have b2 : But fl (upd H sn (.dT (idxK 0 (l ++ [s])))) (upd (upd H sn (.dT (idxK 0 (l ++ [s])))) fl (.lst (bs ++ [.ref t]))) := But.upd
  have c2 : Ch (upd H sn (.dT (idxK 0 (l ++ [s])))) fl := .lst f1
  have k : ∀ a xs, H a = some (.tup xs) → upd (upd H sn (.dT (idxK 0 (l ++ [s])))) fl (.lst (bs ++ [.ref t])) a = some (.tup xs) := fun a xs e => by
    have q := b1 _ _ (fun z => c1.1 _ (z ▸ e)) e
    exact b2 _ _ (fun z => c2.1 _ (z ▸ q)) q
  have snl : ∀ x xs, H x = some (.lst xs) → x ≠ sn := fun x xs q z => by
    rw [z, h.hs] at q
    cases q
  refine ⟨fun x o q => b2 _ _ (ne_of_none q h.n0.1) (b1 _ _ (ne_of_none q h.n0.2.2) (h.sm _ _ q)), upd_same, StsAt.snoc (k _ _ ht) (h.fx.imp k), b2 _ _ (Ne.symm h.ne.2.1) upd_same, (h.hd.but c1 b1 h.ne.2.2).but c2 b2 (Ne.symm h.ne.1), fun a q hq => ?_, h.ne, h.n0⟩
  obtain ⟨z2, ys2, e1, e2, e3, e4⟩ := h.kn a q hq
  exact ⟨z2, ys2, e1, b2 _ _ e3 (b1 _ _ (snl _ _ e2) e2), e3, wys_but c2 b2 (wys_but c1 b1 e4)⟩
theorem FnAt.imp (h : FnAt P w K v fl st sn H0 H bs l kvs D) {D' : List Int → Str × Int → Prop} (k : ∀ a b, D' a b → D a b) : FnAt P w K v fl st sn H0 H bs l kvs D' := ⟨h.sm, h.hf, h.fx, h.hs, h.hd, fun a b d => h.kn a b (k a b d), h.ne, h.n0⟩
end
section
variable {P : Program} {w : World} {K : PySem.W.Frag} {mg : Str → Option Value} {base : Heap}
def spFoundB (P : Program) (w : World) (K : PySem.W.Frag) : Sp := fun vs H Q _ => ∃ (s : Addr) (v : Vlt), vs = [.ref s] ∧ ShpAt K H s v ∧ VGood v ∧ (rch v 100).length ≤ 100 ∧
  ∀ (z fl st sn : Addr) (bs : List V) (kvs : List (NestedKey × V)) (H' : Hp), FnAt P w K v fl st sn H H' bs (rch v 100) kvs (fun hs c => hs ∈ rch v 100 ∧ c ∈ v.calls) → H z = none → H' z = some (.tup [.ref fl, .ref st, .ref sn]) → Q (.ref z) H'
theorem ca_l_found (T : Txt w K mg) : Ca P w K mg base 26 "_law_found" (spFoundB P w K) := by
  refine ca_of (N := ["_law_shape", "_law_cell", "_law_first", "_law_found_here", "_law_steps", "_law_seen", "_law_k", "_law_call", "_law_outcome"]) (ps := ["_law_shape"]) T.f_l_found T.g_law_found ⟨rfl, rfl, rfl, by decide +kernel, rfl, by decide +kernel, by decide +kernel⟩ (fun _ _ _ _ _ _ us hl => match us, hl with | [_], _ => rfl)
    (fun vs H Q E h => by obtain ⟨s, v, rfl, hsh, gd, h100, q⟩ := h; rfl) (fun cdv A outer s H vs Q E hr h => ?_)
  have nd : (["_law_shape", "_law_cell", "_law_first", "_law_found_here", "_law_steps", "_law_seen", "_law_k", "_law_call", "_law_outcome"] : List Str).Nodup := by decide +kernel
  obtain ⟨s, v, rfl, hsh, gd, h100, q⟩ := h
  refine ⟨_, (pss_cons (ps_set (i := 2) nd rfl (.inl rfl) (pe_tupleOf (by rfl) T.b_tuple (pe_lc (own := [("_law_cell", 1)]) (tt := tYes) rfl nd (pi_tup (pe_ix (ix_tupH K rfl) (pv 0) pe_int (fun _ _ => rfl))) (blkOk_by (N := ["_law_shape", "_law_cell", "_law_first", "_law_found_here", "_law_steps", "_law_seen", "_law_k", "_law_call", "_law_outcome"]) (sc := defScope s_l_found) (by decide +kernel)) (fun _ _ _ _ _ => pg_name (i := 1) nd rfl (.inl rfl)) (fun _ _ _ _ _ => pts_nil) (fun _ _ _ _ _ => pe_ix (ix_tupH K rfl) (pv 1) pe_int (fun _ _ => rfl)))))
      (pss_cons (ps_set (i := 3) nd rfl (.inl rfl) (pe_lst (pa_cons (pv 2) pa_nil)))
      (pss_cons (ps_set (i := 4) nd rfl (.inl rfl) (pe_nnew))
      (pss_cons (ps_set (i := 5) nd rfl (.inl rfl) (pe_dispT (hu_of hr) (pv 2) pe_int))
      (pss_cons (ps_for PassesOwn.never rfl (pi_range1 rfl T.b_range (pa_cons pe_int pa_nil)) (pg_name (i := 6) nd rfl (.inl rfl)) (pss_one (ps_if (pt_cmpR op_lt (pv 6) (pe_callB call_len_seq (by rfl) T.b_len PySem.boot_len (pa_cons (pv 3) pa_nil)) (nomark _)) (pss_one (ps_for PassesOwn.never rfl (pi_list (pe_ca (ca_l_calls T) hr (pa_cons (pv 0) pa_nil))) (pg_name (i := 7) nd rfl (.inl rfl)) (pss_cons (ps_nput hr.units (pv 4) (pe_tup (pa_cons (pe_ix ix_list (pv 3) (pv 6) (fun _ _ => rfl)) (pa_cons (pv 7) pa_nil))) (pe_ca (ca_l_outcomes T) hr (pa_cons (pv 0) (pa_cons (pe_ix ix_list (pv 3) (pv 6) (fun _ _ => rfl)) (pa_cons (pv 7) pa_nil)))))
      (pss_one (ps_for PassesOwn.never rfl (pi_list (pe_nget hr.units (pv 4) (pe_tup (pa_cons (pe_ix ix_list (pv 3) (pv 6) (fun _ _ => rfl)) (pa_cons (pv 7) pa_nil))))) (pg_name (i := 8) nd rfl (.inl rfl)) (pss_one (ps_if (pt_cmp (pc_dnotin (hu_of hr) (pe_ix ix_tup (pv 8) pe_int (fun _ _ => rfl)) (pv 5))) (pss_cons (ps_dput (hu_of hr) (pv 5) (pe_ix ix_tup (pv 8) pe_int (fun _ _ => rfl)) (pe_callB call_len_seq (by rfl) T.b_len PySem.boot_len (pa_cons (pv 3) pa_nil)) rfl)
      (pss_one (ps_expr (pe_bm PySem.F.plainAttrs_list PySem.F.slot_list_append PySem.F.type_list_append mt_append (pv 3) (pa_cons (pe_ix ix_tup (pv 8) pe_int (fun _ _ => rfl)) pa_nil))))) pss_nil))))))) pss_nil)))
      (pss_one (ps_ret (pe_tup (pa_cons (pv 3) (pa_cons (pv 4) (pa_cons (pv 5) pa_nil))))))))))), ?_⟩
  obtain ⟨ca, da, cxs, dxs, hsq, hca, hcx, hda, hdx⟩ := hsh.at'
  have lcx : cxs.length = v.cells.length := by rw [dps_len hcx, List.length_map]
  have c6 := gd.c1
  refine ⟨_, rfl, _, _, _, _, rfl, rfl, hsq, at0, ca, rfl, ⟨_, hca⟩, fun D nD => ?_⟩
  refine lc_out (n := cxs.length) walk_tup nD (by omega) (fun i y H => ∃ c, v.cells[i]? = some c ∧ y = .int c.2) (fun _ _ _ _ _ _ h => h) (fun H' s => same_t s hca) (fun i x H' H2 N F hi s y k => ?_) (fun H1 zs s1 hD el hr => ?_)
  · obtain ⟨rfl, ex⟩ := y
    obtain ⟨dd, ed, hdd⟩ := dps_get hcx ex
    obtain ⟨cc, ec, rfl⟩ := get_mapA ed
    obtain ⟨t, x1, x2, rfl, ht, e1, e2⟩ := dp2 (dp_same s hdd)
    cases dp_int e2
    exact ⟨rfl, iteT ⟨_, rfl, _, _, _, _, rfl, rfl, ht, at1, k _ _ (Same.refl _) ⟨cc, ec, rfl⟩⟩⟩
  have em : zs = (v.cells.map (·.2)).map V.int := by
    rw [List.map_map]
    exact map_of (by omega) fun i y e => by
      obtain ⟨c, h1, h2⟩ := hr i y e
      exact ⟨c, h1, h2⟩
  subst em
  clear hr el
  refine .inl ⟨D, _, rfl, .of hD, fun f nf => ?_⟩
  have s2 : Same H1 (upd H1 f (.tup ((v.cells.map (·.2)).map V.int))) := same_new nf
  have hf2 : upd H1 f (.tup ((v.cells.map (·.2)).map V.int)) f = some (.tup ((v.cells.map (·.2)).map V.int)) := upd_same
  generalize upd H1 f (.tup ((v.cells.map (·.2)).map V.int)) = H2 at s2 hf2 ⊢
  have s02 := s1.trans s2
  refine ⟨_, rfl, (by show 1 ≤ sizeLine; decide), fun fl nfl => ?_⟩
  have s3 : Same H2 (upd H2 fl (.lst [.ref f])) := same_new nfl
  have hfl3 : upd H2 fl (.lst [.ref f]) fl = some (.lst [.ref f]) := upd_same
  generalize upd H2 fl (.lst [.ref f]) = H3 at s3 hfl3 ⊢
  intro st H4 nst s4 _ nd4
  have s34 := s3.trans s4
  intro sn nsn
  refine ⟨_, rfl, upd_same, f, hstK (v.cells.map (·.2)), rfl, by rw [hstK_v]; exact (same_new nsn) _ _ (s34 _ _ hf2), ?_⟩
  rw [upd_upd]
  have s5 : Same H4 (upd H4 sn (.dT [(hstK (v.cells.map (·.2)), .int 0)])) := same_new nsn
  have hsn5 : upd H4 sn (.dT [(hstK (v.cells.map (·.2)), .int 0)]) sn = some (.dT (idxK 0 (rch v 0))) := upd_same
  generalize upd H4 sn (.dT [(hstK (v.cells.map (·.2)), .int 0)]) = H5 at s5 hsn5 ⊢
  have hfl5 := (s4.trans s5) _ _ hfl3
  have fn0 : FnAt P w K v fl st sn H H5 [.ref f] (rch v 0) [] (fun hs c => hs ∈ (rch v 0).take 0 ∧ c ∈ v.calls) := ⟨(s02.trans s34).trans s5, hfl5, ⟨⟨f, rfl, (s34.trans s5) _ _ hf2⟩, trivial⟩, hsn5, nd4.same s5, (fun hs c d => nomatch d.1), ⟨ne_of_none hfl3 nst, ne_of_none (s4 _ _ hfl3) nsn, fun e => by
    obtain ⟨o, ho⟩ := nd4.some
    rw [e, nsn] at ho
    cases ho⟩, ⟨none_of s02 nfl, none_of (s02.trans s3) nst, none_of (s02.trans s34) nsn⟩⟩
  have l72 : v.calls.length ≤ 72 := by
    have h1 := callsOf_len (ds := v.deeds) fun d hd => (gd.ds d hd).2.1.2
    have h2 := gd.d1
    show (callsOf v.deeds).length ≤ 72
    omega
  refine ⟨100, rfl, by decide, by decide, for_it (n := 100) walk_range (fun i σ' H' => ∃ (x6 x7 x8 : Option V) (bs : List V) (kvs : List (NestedKey × V)), σ' = [some (.ref s), none, some (.ref f), some (.ref fl), some (.ref st), some (.ref sn), x6, x7, x8] ∧ FnAt P w K v fl st sn H H' bs (rch v i) kvs (fun hs c => hs ∈ (rch v i).take i ∧ c ∈ v.calls) ∧ kvs.length ≤ 72 * i) ⟨none, none, none, _, _, rfl, fn0, Nat.le_refl 0⟩ (fun _ _ _ _ _ => trivial) ?_ ?_⟩
  · rintro k z σ' Hz G0 hk ⟨x6, x7, x8, bs, kvs, rfl, fn, hkv⟩ ⟨rfl, rfl⟩
    have ek : (0 : Int) + (k : Int) = ((k : Nat) : Int) := by omega
    have lb := fn.fx.len
    refine ⟨_, rfl, _, rfl, _, _, rfl, .inl (.of fn.hf), _, _, rfl, rfl, _, rfl, ?_⟩
    by_cases ck : k < (rch v k).length
    case neg =>
      have e : (rch v k)[k]? = none := List.getElem?_eq_none (by omega)
      have er := rch_none e
      rw [decide_eq_false (show ¬ (0 : Int) + (k : Int) < ((bs.length : Nat) : Int) by omega)]
      refine iteF ⟨_, _, _, bs, kvs, rfl, ?_, by omega⟩
      rw [er]
      refine fn.imp fun a b ⟨h1, h2⟩ => ⟨?_, h2⟩
      rw [List.take_of_length_le (by omega)] at h1 ⊢
      exact h1
    obtain ⟨hs, ehs⟩ : ∃ hs, (rch v k)[k]? = some hs := ⟨_, List.getElem?_eq_getElem ck⟩
    have er := rch_some ehs
    have so := rch_so gd k hs (List.mem_of_getElem? ehs)
    rw [decide_eq_true (show (0 : Int) + (k : Int) < ((bs.length : Nat) : Int) by omega)]
    refine iteT ⟨_, rfl, s, v, rfl, hsh.same fn.sm, gd.d1, fun d hd => (gd.ds d hd).2.1, fun cl cys G1 t1 ncl hcl hcys => ?_⟩
    have fn1 := fn.same t1
    have lc := tups_len hcys
    have nclf : cl ≠ fl := fun e => by
      have := fn.hf
      rw [← e, ncl] at this
      cases this
    have fnS : FnAt P w K v fl st sn H G1 bs (visitC v hs (rch v k) (v.calls.take 0)) kvs (fun a c => (a ∈ (rch v k).take k ∧ c ∈ v.calls) ∨ (a = hs ∧ c ∈ v.calls.take 0)) := fn1.imp fun a c h => by
      rcases h with h | h
      · exact h
      · exact nomatch h.2
    refine ⟨cl, rfl, ⟨_, .of hcl⟩, for_list (xs := cys) (fun j σ' H' => ∃ (x7 x8 : Option V) (bs : List V) (kvs : List (NestedKey × V)), σ' = [some (.ref s), none, some (.ref f), some (.ref fl), some (.ref st), some (.ref sn), some (.int (0 + (k : Int))), x7, x8] ∧ FnAt P w K v fl st sn H H' bs (visitC v hs (rch v k) (v.calls.take j)) kvs (fun a c => (a ∈ (rch v k).take k ∧ c ∈ v.calls) ∨ (a = hs ∧ c ∈ v.calls.take j)) ∧ kvs.length ≤ 72 * k + j ∧ H' cl = some (.lst cys) ∧ TupsAt H' cys v.calls) ⟨_, _, bs, kvs, rfl, fnS, by omega, hcl, hcys⟩ (fun j σ' H' _ ⟨_, _, _, _, _, _, _, h, _⟩ => .of h) ?_ ?_⟩
    · rintro j x σ' G2 hx ⟨_, _, bs, kvs, rfl, fn2, hkv2, hcl2, hcy2⟩
      obtain ⟨c, t, hc, rfl, ht⟩ := tups_get hcy2 hx
      have hcm := List.mem_of_getElem? hc
      have hj : j < v.calls.length := (List.getElem?_eq_some_iff.mp hc).1
      obtain ⟨d, ed, cb, ew⟩ := callB_of gd so hcm
      have pre := visitC_pre (v := v) (hs := hs) (v.calls.take j) (rch v k)
      have e2 := pre_get pre ehs
      obtain ⟨fb, efb, hfb⟩ := fn2.fx.at e2
      have hat : atI bs (0 + (k : Int)) = some (.ref fb) := by rw [ek]; exact atI_nat efb
      refine ⟨_, rfl, _, rfl, _, rfl, _, _, _, _, rfl, rfl, .of fn2.hf, hat, _, rfl, s, fb, t, v, hs, d, c.2, rfl, hsh.same fn2.sm, .of hfb, by rw [← ed]; exact ht, cb, fun z ys G3 t3 nz hz wy => ?_⟩
      rw [ew] at wy
      have fn3 := fn2.same t3
      have hfb3 := t3 _ _ hfb
      have ht3 := t3 _ _ ht
      refine ⟨_, rfl, _, rfl, _, rfl, _, _, _, _, rfl, rfl, .of fn3.hf, hat, _, rfl, (by show 2 ≤ sizeLine; decide), fun kt nkt => ?_⟩
      have s4 := same_new (o := .tup [.ref fb, .ref t]) nkt
      have hk4 : upd G3 kt (.tup [.ref fb, .ref t]) kt = some (.tup [.ref fb, .ref t]) := upd_same
      have fn4 := fn3.same s4
      have hz4 := s4 _ _ hz
      have wy4 := wys_same s4 wy
      have hfb4 := s4 _ _ hfb3
      have ht4 := s4 _ _ ht3
      have hcl4 := s4 _ _ (t3 _ _ hcl2)
      have hcy4 := tups_same (t3.trans s4) hcy2
      generalize upd G3 kt (.tup [.ref fb, .ref t]) = G4 at s4 hk4 fn4 hz4 wy4 hfb4 ht4 hcl4 hcy4 ⊢
      have nzf : z ≠ fl := fun e => by
        have := fn2.hf
        rw [← e, nz] at this
        cases this
      refine ⟨st, kvs, skey hs c, rfl, fn4.hd, skey_is hk4 hfb4 ht4, by rw [sizeLine_eq]; omega, fun G5 e5 nd5 => ?_⟩
      have b5 : But st G4 G5 := fun x o n q => by rw [e5 x n]; exact q
      have c5 : Ch G4 st := Ch.nd fn4.hd
      have fn5 := fn4.step e5 nd5 hz4 nzf wy4
      have hcl5 := b5 _ _ (fun e => by
        obtain ⟨_, _, zs, _, e9⟩ := fn4.hd
        rw [e, e9] at hcl4
        cases hcl4) hcl4
      have hcy5 := tups_but c5 b5 hcy4
      have lk5 := length_putK kvs (skey hs c) (V.ref z)
      -- the outcomes
      obtain ⟨fb2, efb2, hfb5⟩ := fn5.fx.at e2
      have hat5 : atI bs (0 + (k : Int)) = some (.ref fb2) := by rw [ek]; exact atI_nat efb2
      have ht5 : G5 t = some (.tup [.str c.1, .int c.2]) := b5 _ _ (fun e => c5.1 _ (e ▸ ht4)) ht4
      refine ⟨_, rfl, _, rfl, _, rfl, _, _, _, _, rfl, rfl, .of fn5.hf, hat5, _, rfl, (by show 2 ≤ sizeLine; decide), fun kt2 nkt2 => ?_⟩
      have s6 := same_new (o := .tup [.ref fb2, .ref t]) nkt2
      have hk6 : upd G5 kt2 (.tup [.ref fb2, .ref t]) kt2 = some (.tup [.ref fb2, .ref t]) := upd_same
      have fn6 := fn5.same s6
      have hcl6 := s6 _ _ hcl5
      have hcy6 := tups_same s6 hcy5
      have key6 := skey_is hk6 (s6 _ _ hfb5) (s6 _ _ ht5)
      generalize upd G5 kt2 (.tup [.ref fb2, .ref t]) = G6 at s6 fn6 hcl6 hcy6 key6 ⊢
      obtain ⟨z6, ys6, ez6, hz6, nz6, wy6⟩ := fn6.kn hs c (.inr ⟨rfl, rfl⟩)
      refine ⟨st, _, _, _, rfl, fn6.hd, key6, ez6, z6, rfl, ⟨_, .of hz6⟩, ?_⟩
      have lw := wys_len wy6
      have l16 := ways31 gd so hcm
      refine for_list (xs := ys6) (fun i σ' H' => ∃ (x8 : Option V) (bs : List V), σ' = [some (.ref s), none, some (.ref f), some (.ref fl), some (.ref st), some (.ref sn), some (.int (0 + (k : Int))), some (.ref t), x8] ∧ FnAt P w K v fl st sn H H' bs (metW (visitC v hs (rch v k) (v.calls.take j)) ((hwy v c hs).take i)) (putK kvs (skey hs c) (.ref z)) (fun a q => ((a ∈ (rch v k).take k ∧ q ∈ v.calls) ∨ (a = hs ∧ q ∈ v.calls.take j)) ∨ (a = hs ∧ q = c)) ∧ H' z6 = some (.lst ys6) ∧ WysAt K H' ys6 (hwy v c hs) ∧ H' cl = some (.lst cys) ∧ TupsAt H' cys v.calls) ⟨_, bs, rfl, fn6, hz6, wy6, hcl6, hcy6⟩ (fun i σ' H' _ ⟨_, _, _, _, h, _⟩ => .of h) ?_ ?_
      · rintro i x σ' G7 hx ⟨_, bs, rfl, fn7, hz7, wy7, hcl7, hcy7⟩
        obtain ⟨w1, ew1, wa, cc, sa, rfl, hwa, hcc, hsa⟩ := wys_at wy7 hx
        have em := metW_snoc (visitC v hs (rch v k) (v.calls.take j)) ((hwy v c hs).take i) w1
        rw [← take_more ew1] at em
        rw [em]
        refine ⟨_, rfl, _, _, _, _, rfl, rfl, hwa, at2, _, rfl, sn, _, rfl, .t fn7.hs (k := hstK w1.2.2) (by rw [hstK_v]; exact hsa), ?_⟩
        have lb7 := fn7.fx.len
        by_cases ms : w1.2.2 ∈ metW (visitC v hs (rch v k) (v.calls.take j)) ((hwy v c hs).take i)
        · obtain ⟨ii, _, ev⟩ := idxK_yes (n := 0) ms
          rw [ev]
          refine ⟨_, rfl, iteF ⟨_, bs, rfl, ?_, hz7, wy7, hcl7, hcy7⟩⟩
          unfold met
          rw [if_pos ms]
          exact fn7
        · rw [idxK_no ms]
          have llen : (metW (visitC v hs (rch v k) (v.calls.take j)) ((hwy v c hs).take i)).length ≤ 100 := by
            have q1 : metW (visitC v hs (rch v k) (v.calls.take j)) ((hwy v c hs).take i) <+: metW (visitC v hs (rch v k) (v.calls.take j)) (hwy v c hs) := by
              conv => rhs; rw [← List.take_append_drop i (hwy v c hs)]
              unfold metW
              rw [List.foldl_append]
              exact metW_pre _ _
            have q2 : metW (visitC v hs (rch v k) (v.calls.take j)) (hwy v c hs) <+: rch v (k + 1) := by
              rw [er, ← visitC_snoc, ← take_more hc]
              conv => rhs; rw [← List.take_append_drop (j + 1) v.calls]
              unfold visitC
              rw [List.foldl_append]
              exact visitC_pre _ _
            have q3 := rch_mono v (n := k + 1) (100 - (k + 1))
            rw [show k + 1 + (100 - (k + 1)) = 100 from by omega] at q3
            have := ((q1.trans q2).trans q3).length_le
            omega
          refine ⟨_, rfl, iteT ⟨_, rfl, _, _, rfl, .inl (.of fn7.hf), _, rfl, _, rfl, _, _, _, _, rfl, rfl, hwa, at2, sn, _, rfl, .t fn7.hs (k := hstK w1.2.2) (by rw [hstK_v]; exact hsa) (by rw [idxK_len, sizeLine_eq]; omega), ?_⟩⟩
          rw [lb7, idxK_met ms]
          have fn8 := fn7.seen hsa ms
          have b1 : But sn G7 (upd G7 sn (.dT (idxK 0 (metW (visitC v hs (rch v k) (v.calls.take j)) ((hwy v c hs).take i) ++ [w1.2.2])))) := But.upd
          have c1 : Ch G7 sn := .dT fn7.hs
          have hfl8 := b1 _ _ fn7.ne.2.1 fn7.hf
          have hwa8 := sqT_but c1 b1 hwa
          have ns : ∀ x xs, G7 x = some (.lst xs) → x ≠ sn := fun x xs q z => by
            rw [z, fn7.hs] at q
            cases q
          have hz8 := b1 _ _ (ns _ _ hz7) hz7
          have wy8 := wys_but c1 b1 wy7
          have hcl8 := b1 _ _ (ns _ _ hcl7) hcl7
          have hcy8 := tups_but c1 b1 hcy7
          generalize upd G7 sn (.dT (idxK 0 (metW (visitC v hs (rch v k) (v.calls.take j)) ((hwy v c hs).take i) ++ [w1.2.2]))) = G8 at fn8 b1 hfl8 hwa8 hz8 wy8 hcl8 hcy8 ⊢
          refine ⟨_, rfl, .inl ⟨rfl, _, .of hfl8⟩, _, rfl, _, _, _, _, rfl, rfl, hwa8, at2, fl, bs, _, rfl, rfl, hfl8, by rw [sizeLine_eq]; omega, ?_⟩
          have b2 : But fl G8 (upd G8 fl (.lst (bs ++ [.ref sa]))) := But.upd
          have c2 : Ch G8 fl := .lst hfl8
          refine ⟨_, bs ++ [.ref sa], rfl, ?_, b2 _ _ nz6 hz8, wys_but c2 b2 wy8, b2 _ _ nclf hcl8, tups_but c2 b2 hcy8⟩
          unfold met
          rw [if_neg ms]
          exact fn8
      · rintro σ' G7 ⟨_, bs, rfl, fn7, hz7, wy7, hcl7, hcy7⟩
        rw [lw, List.take_length] at fn7
        refine ⟨_, _, bs, putK kvs (skey hs c) (V.ref z), rfl, ?_, by omega, hcl7, hcy7⟩
        rw [take_more hc, visitC_snoc]
        refine fn7.imp fun a q h => ?_
        rcases h with h | ⟨h1, h2⟩
        · exact .inl (.inl h)
        · rcases List.mem_append.mp h2 with h2 | h2
          · exact .inl (.inr ⟨h1, h2⟩)
          · exact .inr ⟨h1, List.mem_singleton.mp h2⟩
    · rintro σ' G2 ⟨_, _, bs, kvs, rfl, fn2, hkv2, _, _⟩
      rw [lc, List.take_length] at fn2
      refine ⟨_, _, _, bs, kvs, rfl, ?_, by rw [lc] at hkv2; omega⟩
      rw [er]
      refine fn2.imp fun a q ⟨h1, h2⟩ => ?_
      have pre := visitC_pre (v := v) (hs := hs) v.calls (rch v k)
      have e2 := pre_get pre ehs
      rw [take_more e2] at h1
      rcases List.mem_append.mp h1 with h1 | h1
      · refine .inl ⟨?_, h2⟩
        obtain ⟨tl, et⟩ := pre
        rw [← et, List.take_append_of_le_length (by omega)] at h1
        exact h1
      · exact .inr ⟨List.mem_singleton.mp h1, h2⟩
  · rintro σ' G0 ⟨_, _, _, bs, kvs, rfl, fn, _⟩
    refine ⟨_, rfl, _, rfl, _, rfl, (by show 3 ≤ sizeLine; decide), fun z nz => ?_⟩
    have s1 := same_new (o := .tup [.ref fl, .ref st, .ref sn]) nz
    refine q z fl st sn bs kvs _ ((fn.same s1).imp fun a c h => ⟨?_, h.2⟩) (none_of fn.sm nz) upd_same
    rw [List.take_of_length_le h100]
    exact h.1
end

end M

set_option Elab.async false
set_option linter.all false
set_option maxRecDepth 100000
set_option maxHeartbeats 2000000
namespace M
open PySem PySem.Spec PyProof.Rows L2

/-! ### the program's finding -/
structure RcA where
  r : Addr
  dx : Addr
  p : Addr
  cl : Addr
  fo : Addr
  pl : Addr
  og : Addr
  ra : Addr
  la : Addr
  sp : Addr
  rs : List Addr
  ls : List Addr
def rcF (R : RcA) : List (Str × V) := [("source", .ref R.p), ("list_of_calls", .ref R.cl), ("found", .ref R.fo), ("places", .ref R.pl), ("origins", .ref R.og), ("replies", .ref R.ra), ("leads", .ref R.la), ("spread", .ref R.sp)]
theorem rcf_calls (R : RcA) : (rcF R).lookup ("list_of_calls" : Str) = some (.ref R.cl) := by kernel_rfl
theorem rcf_found (R : RcA) : (rcF R).lookup ("found" : Str) = some (.ref R.fo) := by kernel_rfl
theorem rcf_places (R : RcA) : (rcF R).lookup ("places" : Str) = some (.ref R.pl) := by kernel_rfl
theorem rcf_origins (R : RcA) : (rcF R).lookup ("origins" : Str) = some (.ref R.og) := by kernel_rfl
theorem rcf_replies (R : RcA) : (rcF R).lookup ("replies" : Str) = some (.ref R.ra) := by kernel_rfl
theorem rcf_leads (R : RcA) : (rcF R).lookup ("leads" : Str) = some (.ref R.la) := by kernel_rfl
theorem rcf_spread (R : RcA) : (rcF R).lookup ("spread" : Str) = some (.ref R.sp) := by kernel_rfl
/-- what the finding changes -/
def RcA.Own (R : RcA) (a : Addr) : Prop := a = R.fo ∨ a = R.pl ∨ a = R.og ∨ a = R.sp ∨ a ∈ R.rs ∨ a ∈ R.ls
def RcA.Kp (R : RcA) (H H' : Hp) : Prop := ∀ b o, ¬ R.Own b → H b = some o → H' b = some o
theorem RcA.Kp.refl {R : RcA} (H : Hp) : R.Kp H H := fun _ _ _ e => e
theorem RcA.Kp.trans {R : RcA} {H H1 H2 : Hp} (h : R.Kp H H1) (k : R.Kp H1 H2) : R.Kp H H2 := fun b o n e => k b o n (h b o n e)
theorem Same.kp {R : RcA} {H H' : Hp} (s : Same H H') : R.Kp H H' := fun b o _ e => s b o e
theorem But.kp {R : RcA} {H H' : Hp} {D : Addr} (s : But D H H') (h : R.Own D) : R.Kp H H' := fun b o n e => s b o (fun z => n (z ▸ h)) e
/-- lists, none of them one of these -/
structure RchAt (K : PySem.W.Frag) (H : Hp) (R : RcA) (l : List (List Int)) (B : Nat) : Prop where
  ins : H R.r = some (.ins (He.ga K "Reach") R.dx (rcF R))
  fo : ∃ bs, H R.fo = some (.lst bs) ∧ StsAt H bs l
  pl : H R.pl = some (.dT (idxK 0 l))
  og : ∃ os, H R.og = some (.lst os) ∧ os.length = l.length
  ra : H R.ra = some (.lst (R.rs.map V.ref))
  la : H R.la = some (.lst (R.ls.map V.ref))
  rs : ∀ a ∈ R.rs, ∃ xs, H a = some (.lst xs) ∧ xs.length ≤ B
  ls : ∀ a ∈ R.ls, ∃ xs, H a = some (.lst xs) ∧ xs.length ≤ B
  sp : ∃ kvs, H R.sp = some (.dT kvs) ∧ kvs.length ≤ B
  ne : R.fo ≠ R.og ∧ R.fo ≠ R.ra ∧ R.fo ≠ R.la ∧ R.og ≠ R.ra ∧ R.og ≠ R.la ∧ R.pl ≠ R.sp
  nr : ∀ a, a ∈ R.rs ∨ a ∈ R.ls → a ≠ R.fo ∧ a ≠ R.og ∧ a ≠ R.ra ∧ a ≠ R.la
section
variable {K : PySem.W.Frag} {H H' : Hp} {R : RcA} {l : List (List Int)} {B : Nat}
theorem RchAt.same (h : RchAt K H R l B) (s : Same H H') : RchAt K H' R l B := by
  obtain ⟨bs, f1, f2⟩ := h.fo
  obtain ⟨os, o1, o2⟩ := h.og
  obtain ⟨kvs, s1, s2⟩ := h.sp
  exact ⟨s _ _ h.ins, ⟨bs, s _ _ f1, f2.imp fun _ _ => s _ _⟩, s _ _ h.pl, ⟨os, s _ _ o1, o2⟩, s _ _ h.ra, s _ _ h.la, fun a ha => by
    obtain ⟨xs, e, e2⟩ := h.rs a ha
    exact ⟨xs, s _ _ e, e2⟩, fun a ha => by
    obtain ⟨xs, e, e2⟩ := h.ls a ha
    exact ⟨xs, s _ _ e, e2⟩, ⟨kvs, s _ _ s1, s2⟩, h.ne, h.nr⟩
theorem RchAt.ch (h : RchAt K H R l B) : ∀ a, R.Own a → Ch H a := fun a ha => by
  obtain ⟨bs, f1, f2⟩ := h.fo
  obtain ⟨os, o1, o2⟩ := h.og
  obtain ⟨kvs, s1, s2⟩ := h.sp
  rcases ha with rfl | rfl | rfl | rfl | ha | ha
  · exact .lst f1
  · exact .dT h.pl
  · exact .lst o1
  · exact .dT s1
  · obtain ⟨xs, e, _⟩ := h.rs a ha
    exact .lst e
  · obtain ⟨xs, e, _⟩ := h.ls a ha
    exact .lst e
theorem RchAt.some (h : RchAt K H R l B) : ∀ a, R.Own a → ∃ o, H a = some o := fun a ha => by
  obtain ⟨bs, f1, f2⟩ := h.fo
  obtain ⟨os, o1, o2⟩ := h.og
  obtain ⟨kvs, s1, s2⟩ := h.sp
  rcases ha with rfl | rfl | rfl | rfl | ha | ha
  · exact ⟨_, f1⟩
  · exact ⟨_, h.pl⟩
  · exact ⟨_, o1⟩
  · exact ⟨_, s1⟩
  · obtain ⟨xs, e, _⟩ := h.rs a ha
    exact ⟨_, e⟩
  · obtain ⟨xs, e, _⟩ := h.ls a ha
    exact ⟨_, e⟩
theorem RchAt.none (h : RchAt K H R l B) {a : Addr} (e : H a = Option.none) : ¬ R.Own a := fun o => by
  obtain ⟨u, e2⟩ := h.some a o
  rw [e] at e2
  cases e2
theorem RchAt.tup (h : RchAt K H R l B) (k : R.Kp H H') {a : Addr} {xs : List V} (e : H a = Option.some (.tup xs)) : H' a = Option.some (.tup xs) := k _ _ (fun o => (h.ch a o).1 _ e) e
theorem RchAt.sqT (h : RchAt K H R l B) (k : R.Kp H H') {a : Addr} {xs : List V} (e : SqT K H a xs) : SqT K H' a xs := by
  rcases e with (e | ⟨o, e⟩) | e
  · exact .inl (.inl (h.tup k e))
  · exact .inl (.inr ⟨o, k _ _ (fun q => (h.ch a q).2 _ _ e) e⟩)
  · exact .inr e
mutual
theorem RchAt.dp (h : RchAt K H R l B) (k : R.Kp H H') : ∀ {v : V} {d : PyData}, Dp K H v d → NoL d → Dp K H' v d
  | _, _, .non, _ => .non
  | _, _, .bl b, _ => .bl b
  | _, _, .int i, _ => .int i
  | _, _, .str x, _ => .str x
  | _, _, .lst _ _, n => nomatch n
  | _, _, .tup e r, n => .tup (h.sqT k e) (RchAt.dps h k r (by cases n with | tup h => exact h))
theorem RchAt.dps (h : RchAt K H R l B) (k : R.Kp H H') : ∀ {vs : List V} {ds : List PyData}, DpAll K H vs ds → (∀ d ∈ ds, NoL d) → DpAll K H' vs ds
  | _, _, .nil, _ => .nil
  | _, _, .cons e r, n => .cons (RchAt.dp h k e (n _ List.mem_cons_self)) (RchAt.dps h k r fun d hd => n d (List.mem_cons_of_mem _ hd))
end
theorem RchAt.wys (h : RchAt K H R l B) (k : R.Kp H H') {vs : List V} {ws : List (List Int × Int × List Int)} (w : WysAt K H vs ws) : WysAt K H' vs ws := wys_imp (fun _ _ => h.sqT k) (fun _ _ => h.tup k) w
theorem RchAt.more (h : RchAt K H R l B) {C : Nat} (c : B ≤ C) : RchAt K H R l C := by
  obtain ⟨kvs, s1, s2⟩ := h.sp
  exact ⟨h.ins, h.fo, h.pl, h.og, h.ra, h.la, fun a ha => by
    obtain ⟨xs, e, e2⟩ := h.rs a ha
    exact ⟨xs, e, by omega⟩, fun a ha => by
    obtain ⟨xs, e, e2⟩ := h.ls a ha
    exact ⟨xs, e, by omega⟩, ⟨kvs, s1, by omega⟩, h.ne, h.nr⟩
/-- another list is changed, or a list of its own grows -/
theorem RchAt.grow (h : RchAt K H R l B) {D : Addr} {xs : List V} {v : V} (hD : D ∈ R.rs ∨ D ∈ R.ls) (e : H D = Option.some (.lst xs)) : RchAt K (upd H D (.lst (xs ++ [v]))) R l (B + 1) := by
  have b : But D H (upd H D (.lst (xs ++ [v]))) := But.upd
  have c : Ch H D := .lst e
  obtain ⟨n1, n2, n3, n4⟩ := h.nr D hD
  obtain ⟨bs, f1, f2⟩ := h.fo
  obtain ⟨os, o1, o2⟩ := h.og
  obtain ⟨kvs, s1, s2⟩ := h.sp
  have lx : xs.length ≤ B := by
    rcases hD with hD | hD
    · obtain ⟨ys, e1, e2⟩ := h.rs D hD
      rw [e] at e1
      cases (Option.some.inj e1)
      exact e2
    · obtain ⟨ys, e1, e2⟩ := h.ls D hD
      rw [e] at e1
      cases (Option.some.inj e1)
      exact e2
  have g : ∀ a, (∃ xs, H a = Option.some (.lst xs) ∧ xs.length ≤ B) → ∃ ys, upd H D (.lst (xs ++ [v])) a = Option.some (.lst ys) ∧ ys.length ≤ B + 1 := fun a ⟨ys, e1, e2⟩ => by
    by_cases q : a = D
    · rw [q, upd_same]
      exact ⟨_, rfl, by rw [List.length_append]; exact Nat.succ_le_succ lx⟩
    · exact ⟨ys, b _ _ q e1, by omega⟩
  exact ⟨b _ _ (fun q => by have := h.ins; rw [q, e] at this; cases this) h.ins, ⟨bs, b _ _ (Ne.symm n1) f1, f2.imp fun _ _ q => b _ _ (fun z => c.1 _ (z ▸ q)) q⟩, b _ _ (fun q => by have := h.pl; rw [q, e] at this; cases this) h.pl, ⟨os, b _ _ (Ne.symm n2) o1, o2⟩, b _ _ (Ne.symm n3) h.ra, b _ _ (Ne.symm n4) h.la, fun a ha => g a (h.rs a ha), fun a ha => g a (h.ls a ha), ⟨kvs, b _ _ (fun q => by have := s1; rw [q, e] at this; cases this) s1, by omega⟩, h.ne, h.nr⟩
/-- a call for which coins fall is put -/
theorem RchAt.spread (h : RchAt K H R l B) {kvs : List (List Key × V)} (hk : kvs.length ≤ B + 1) : RchAt K (upd H R.sp (.dT kvs)) R l (B + 1) := by
  have b : But R.sp H (upd H R.sp (.dT kvs)) := But.upd
  obtain ⟨bs, f1, f2⟩ := h.fo
  obtain ⟨os, o1, o2⟩ := h.og
  obtain ⟨kv0, s1, s2⟩ := h.sp
  have c : Ch H R.sp := .dT s1
  have nl : ∀ a xs, H a = Option.some (.lst xs) → a ≠ R.sp := fun a xs q z => by
    rw [z, s1] at q
    cases q
  exact ⟨b _ _ (fun q => by have := h.ins; rw [q, s1] at this; cases this) h.ins, ⟨bs, b _ _ (nl _ _ f1) f1, f2.imp fun _ _ q => b _ _ (fun z => c.1 _ (z ▸ q)) q⟩, b _ _ h.ne.2.2.2.2.2 h.pl, ⟨os, b _ _ (nl _ _ o1) o1, o2⟩, b _ _ (nl _ _ h.ra) h.ra, b _ _ (nl _ _ h.la) h.la, fun a ha => by
    obtain ⟨xs, e, e2⟩ := h.rs a ha
    exact ⟨xs, b _ _ (nl _ _ e) e, by omega⟩, fun a ha => by
    obtain ⟨xs, e, e2⟩ := h.ls a ha
    exact ⟨xs, b _ _ (nl _ _ e) e, by omega⟩, ⟨kvs, upd_same, hk⟩, h.ne, h.nr⟩
/-- a state is met: its place, itself, and whence it came -/
theorem RchAt.meet (h : RchAt K H R l B) {H1 H2 H3 : Hp} {bs os : List V} {t : Addr} {s : List Int} {o : V} (ht : H t = Option.some (.tup (s.map .int))) (n : s ∉ l)
    (b1 : But R.pl H H1) (e1 : H1 R.pl = Option.some (.dT (idxK 0 (l ++ [s])))) (b2 : But R.fo H1 H2) (f0 : H R.fo = Option.some (.lst bs)) (e2 : H2 R.fo = Option.some (.lst (bs ++ [.ref t]))) (b3 : ∃ D, But R.og D H3 ∧ Same H2 D) (o0 : H R.og = Option.some (.lst os)) (e3 : H3 R.og = Option.some (.lst (os ++ [o]))) : RchAt K H3 R (l ++ [s]) B := by
  obtain ⟨bs', f1, f2⟩ := h.fo
  cases (Option.some.inj (f0.symm.trans f1))
  obtain ⟨os', o1, o2⟩ := h.og
  cases (Option.some.inj (o0.symm.trans o1))
  obtain ⟨kvs, s1, s2⟩ := h.sp
  obtain ⟨D, b3, sD⟩ := b3
  obtain ⟨n1, n2, n3, n4, n5, n6⟩ := h.ne
  have nl : ∀ a xs, H a = Option.some (.lst xs) → a ≠ R.pl := fun a xs q z => by
    rw [z, h.pl] at q
    cases q
  have k : ∀ a u, a ≠ R.pl → a ≠ R.fo → a ≠ R.og → H a = Option.some u → H3 a = Option.some u := fun a u m1 m2 m3 q => b3 _ _ m3 (sD _ _ (b2 _ _ m2 (b1 _ _ m1 q)))
  have kt : ∀ a xs, H a = Option.some (.tup xs) → H3 a = Option.some (.tup xs) := fun a xs q => k _ _ (fun z => by rw [z, h.pl] at q; cases q) (fun z => by rw [z, f1] at q; cases q) (fun z => by rw [z, o1] at q; cases q) q
  refine ⟨k _ _ (fun q => by have := h.ins; rw [q, h.pl] at this; cases this) (fun q => by have := h.ins; rw [q, f1] at this; cases this) (fun q => by have := h.ins; rw [q, o1] at this; cases this) h.ins, ⟨_, b3 _ _ n1 (sD _ _ e2), StsAt.snoc (kt _ _ ht) (f2.imp kt)⟩, b3 _ _ (fun z => by have := h.pl; rw [z, o1] at this; cases this) (sD _ _ (b2 _ _ (fun z => by have := h.pl; rw [z, f1] at this; cases this) e1)), ⟨_, e3, by rw [List.length_append, List.length_append, o2]; rfl⟩, k _ _ (nl _ _ h.ra) (Ne.symm n2) (Ne.symm n4) h.ra, k _ _ (nl _ _ h.la) (Ne.symm n3) (Ne.symm n5) h.la, fun a ha => ?_, fun a ha => ?_, ⟨kvs, k _ _ (Ne.symm n6) (fun z => by have := s1; rw [z, f1] at this; cases this) (fun z => by have := s1; rw [z, o1] at this; cases this) s1, s2⟩, h.ne, h.nr⟩
  · obtain ⟨xs, q1, q2⟩ := h.rs a ha
    obtain ⟨m1, m2, _, _⟩ := h.nr a (.inl ha)
    exact ⟨xs, k _ _ (nl _ _ q1) m1 m2 q1, q2⟩
  · obtain ⟨xs, q1, q2⟩ := h.ls a ha
    obtain ⟨m1, m2, _, _⟩ := h.nr a (.inr ha)
    exact ⟨xs, k _ _ (nl _ _ q1) m1 m2 q1, q2⟩
end
theorem VaultAt.but {K : PySem.W.Frag} {H H' : Hp} {p D C dx : Addr} {v : Vlt} (h : VaultAt K H p v) (hD : H D = some (.ins C dx [])) (bm : But D H H') : VaultAt K H' p v := by
  have hp1 : D ≠ p := fun e => by
    obtain ⟨dx', a, d, c, b, kvs, h1, _⟩ := h.ob
    rw [← e, hD] at h1
    have z := Option.some.inj h1
    injection z with _ _ z
    exact nomatch z
  have cm : Ch H D := .ins hD
  obtain ⟨dx', a, d, c, b, kvs, h1, h2, h3, h4, h5⟩ := h.ob
  refine ⟨dx', a, d, c, b, kvs, bm _ _ (Ne.symm hp1) h1, dp_but cm bm h2 (.tup fun x hx => ?_), dp_but cm bm h3 (.tup fun x hx => ?_), bm _ _ (fun z => by rw [z, hD] at h4; cases h4) h4, codes_but cm bm h5⟩
  · obtain ⟨c, _, rfl⟩ := List.mem_map.mp hx
    exact cell_noL c
  · obtain ⟨d, _, rfl⟩ := List.mem_map.mp hx
    exact deed_noL d
section
variable {P : Program} {w : World} {K : PySem.W.Frag} {mg : Str → Option Value} {base : Heap}
def spReach (K : PySem.W.Frag) : Sp := fun vs H Q _ => ∃ (r dx p : Addr) (v : Vlt), vs = [.ref r, .ref p] ∧ H r = some (.ins (He.ga K "Reach") dx []) ∧ VaultAt K H p v ∧ VGood v ∧
  ∀ (R : RcA) (H' : Hp), R.r = r → R.rs.length = v.calls.length → R.ls.length = v.calls.length → (∀ a, R.Own a → H a = none) → H R.ra = none → H R.la = none → But r H H' → RchAt K H' R [v.cells.map (·.2)] 1 → Q .non H'
theorem ma_Reach (T : Txt w K mg) : Ma P w K mg base 3 "Reach" (He.ga K "Reach") (spReach K) := by
  refine ma_of (N := ["self", "vault", "_"]) (ps := ["self", "vault"]) T.f_Reach_init T.g_Reach T.k_Reach ⟨rfl, rfl, rfl, by decide +kernel, rfl, by decide +kernel, by decide +kernel⟩ (fun _ _ _ _ _ _ us hl => match us, hl with | [_, _], _ => rfl)
    (fun vs H Q E h => by obtain ⟨r, dx, p, v, rfl, hr0, hv, gd, q⟩ := h; rfl) (fun cdv A outer s H vs Q E hr h => ?_)
  have nd : (["self", "vault", "_"] : List Str).Nodup := by decide +kernel
  obtain ⟨r, dx, p, v, rfl, hr0, hv, gd, q⟩ := h
  refine ⟨_, (pss_cons (ps_fld (pv 0) (pv 1) rfl)
      (pss_cons (ps_fld (pv 0) (pe_me0 (me_Vault_calls T) hr (pv 1)) rfl)
      (pss_cons (ps_fld (pv 0) (pe_lst (pa_cons (pe_me0 (me_Vault_first T) hr (pv 1)) pa_nil)) rfl)
      (pss_cons (ps_fld (pv 0) (pe_dispT (hu_of hr) (pe_me0 (me_Vault_first T) hr (pv 1)) pe_int) rfl)
      (pss_cons (ps_fld (pv 0) (pe_lst (pa_cons (pe_tup (pa_cons pe_int (pa_cons pe_int (pa_cons (pe_tup pa_nil) pa_nil)))) pa_nil)) rfl)
      (pss_cons (ps_fld (pv 0) (pe_lc (own := [("_", 2)]) (tt := tYes) rfl nd (pi_list (pe_fld (pv 0) rfl)) (blkOk_by (N := ["self", "vault", "_"]) (sc := defScope s_Reach_init) (by decide +kernel)) (fun _ _ _ _ _ => pg_name (i := 2) nd rfl (.inl rfl)) (fun _ _ _ _ _ => pts_nil) (fun _ _ _ _ _ => pe_lst pa_nil)) rfl)
      (pss_cons (ps_fld (pv 0) (pe_lc (own := [("_", 2)]) (tt := tYes) rfl nd (pi_list (pe_fld (pv 0) rfl)) (blkOk_by (N := ["self", "vault", "_"]) (sc := defScope s_Reach_init) (by decide +kernel)) (fun _ _ _ _ _ => pg_name (i := 2) nd rfl (.inl rfl)) (fun _ _ _ _ _ => pts_nil) (fun _ _ _ _ _ => pe_lst pa_nil)) rfl)
      (pss_one (ps_fld (pv 0) (pe_dnewT) rfl))))))))), ?_⟩
  have fresh : ∀ {G : Hp} {a : Addr}, But r H G → (∃ o, G r = some o) → G a = none → H a = none ∧ a ≠ r := fun {G a} b o na => by
    obtain ⟨o, ho⟩ := o
    have nr : a ≠ r := fun z => by rw [z, ho] at na; cases na
    refine ⟨?_, nr⟩
    cases e : H a with
    | none => rfl
    | some u =>
      rw [b _ _ nr e] at na
      cases na
  -- source
  refine ⟨_, rfl, _, rfl, r, _, dx, _, rfl, hr0, T.c_Reach, T.n_Reach_source, (by show 0 < 1000; decide), ?_⟩
  have b1 : But r H (upd H r (.ins (He.ga K "Reach") dx (putF "source" (.ref p) []))) := But.upd
  have i1 : upd H r (.ins (He.ga K "Reach") dx (putF "source" (.ref p) [])) r = some (.ins (He.ga K "Reach") dx (putF "source" (.ref p) [])) := upd_same
  have hvG : ∀ {G : Hp}, But r H G → VaultAt K G p v := fun {G} b => hv.but hr0 b
  generalize upd H r (.ins (He.ga K "Reach") dx (putF "source" (.ref p) [])) = G1 at b1 i1 ⊢
  -- the calls
  obtain ⟨dy, gs, e1, e2⟩ := (hvG b1).me "calls"
  refine ⟨_, rfl, p, dy, gs, rfl, e1, e2, p, v, rfl, hvG b1, gd.ok, fun cl cys G2 s2 hcl hcy => ?_⟩
  refine ⟨_, rfl, r, _, dx, _, rfl, s2 _ _ i1, T.c_Reach, T.n_Reach_list_of_calls, (by show 1 < 1000; decide), ?_⟩
  have ncl : cl ≠ r := fun z => by
    have := s2 _ _ i1
    rw [← z, hcl] at this
    cases this
  have u2 : But r G2 (upd G2 r (.ins (He.ga K "Reach") dx (putF "list_of_calls" (.ref cl) (putF "source" (.ref p) [])))) := But.upd
  have b2 : But r H (upd G2 r (.ins (He.ga K "Reach") dx (putF "list_of_calls" (.ref cl) (putF "source" (.ref p) [])))) := (b1.trans (same_but s2)).trans u2
  have i2 : upd G2 r (.ins (He.ga K "Reach") dx (putF "list_of_calls" (.ref cl) (putF "source" (.ref p) []))) r = some (.ins (He.ga K "Reach") dx (putF "list_of_calls" (.ref cl) (putF "source" (.ref p) []))) := upd_same
  have hcl2 := u2 _ _ ncl hcl
  generalize upd G2 r (.ins (He.ga K "Reach") dx (putF "list_of_calls" (.ref cl) (putF "source" (.ref p) []))) = G3 at b2 i2 hcl2 ⊢
  have lcy := tups_len hcy
  clear u2 s2 hcl
  -- found
  obtain ⟨dy, gs, e1, e2⟩ := (hvG b2).me "first"
  refine ⟨_, rfl, p, dy, gs, rfl, e1, e2, p, v, rfl, hvG b2, gd.c1, fun fa G4 s4 hfa => ⟨(by show 1 ≤ sizeLine; decide), fun fo nfo => ?_⟩⟩
  have s5 : Same G4 (upd G4 fo (.lst [.ref fa])) := same_new nfo
  have hfo : upd G4 fo (.lst [.ref fa]) fo = some (.lst [.ref fa]) := upd_same
  have hfa5 := s5 _ _ hfa
  generalize upd G4 fo (.lst [.ref fa]) = G5 at s5 hfo hfa5 ⊢
  have s35 := s4.trans s5
  have i5 := s35 _ _ i2
  have b5 := b2.trans (same_but s35)
  obtain ⟨nfoH, nfor⟩ := fresh (b2.trans (same_but s4)) ⟨_, s4 _ _ i2⟩ nfo
  refine ⟨_, rfl, r, _, dx, _, rfl, i5, T.c_Reach, T.n_Reach_found, (by show 2 < 1000; decide), ?_⟩
  have u6 : But r G5 (upd G5 r (.ins (He.ga K "Reach") dx (putF "found" (.ref fo) (putF "list_of_calls" (.ref cl) (putF "source" (.ref p) []))))) := But.upd
  have i6 : upd G5 r (.ins (He.ga K "Reach") dx (putF "found" (.ref fo) (putF "list_of_calls" (.ref cl) (putF "source" (.ref p) [])))) r = some (.ins (He.ga K "Reach") dx (putF "found" (.ref fo) (putF "list_of_calls" (.ref cl) (putF "source" (.ref p) [])))) := upd_same
  generalize upd G5 r (.ins (He.ga K "Reach") dx (putF "found" (.ref fo) (putF "list_of_calls" (.ref cl) (putF "source" (.ref p) [])))) = G6 at u6 i6 ⊢
  have b6 := b5.trans u6
  have nfar : fa ≠ r := fun z => by rw [z, i5] at hfa5; cases hfa5
  have hcl6 := u6 _ _ ncl (s35 _ _ hcl2)
  have hfo6 := u6 _ _ nfor hfo
  have hfa6 := u6 _ _ nfar hfa5
  clear u6 i5 hcl2 hfo hfa5 s35 s4 s5 b5 i1 i2
  -- places
  intro pl npl
  have s7 : Same G6 (upd G6 pl (.dT [])) := same_new npl
  obtain ⟨nplH, nplr⟩ := fresh b6 ⟨_, i6⟩ npl
  have b7 := b6.trans (same_but s7)
  obtain ⟨dy, gs, e1, e2⟩ := (hvG b7).me "first"
  refine ⟨_, rfl, p, dy, gs, rfl, e1, e2, p, v, rfl, hvG b7, gd.c1, fun fb G7 s8 hfb => ⟨s8 _ _ upd_same, fb, hstK (v.cells.map (·.2)), rfl, by rw [hstK_v]; exact hfb, ?_⟩⟩
  have k8 : Same G6 (upd G7 pl (.dT [(hstK (v.cells.map (·.2)), .int 0)])) := fun b o e => by
    rw [upd_ne (ne_of_none e npl)]
    exact s8 _ _ (s7 _ _ e)
  have hpl8 : upd G7 pl (.dT [(hstK (v.cells.map (·.2)), .int 0)]) pl = some (.dT (idxK 0 [v.cells.map (·.2)])) := upd_same
  generalize upd G7 pl (.dT [(hstK (v.cells.map (·.2)), .int 0)]) = G8 at k8 hpl8 ⊢
  have i8 := k8 _ _ i6
  refine ⟨_, rfl, r, _, dx, _, rfl, i8, T.c_Reach, T.n_Reach_places, (by show 3 < 1000; decide), ?_⟩
  have u9 : But r G8 (upd G8 r (.ins (He.ga K "Reach") dx (putF "places" (.ref pl) (putF "found" (.ref fo) (putF "list_of_calls" (.ref cl) (putF "source" (.ref p) [])))))) := But.upd
  have i9 : upd G8 r (.ins (He.ga K "Reach") dx (putF "places" (.ref pl) (putF "found" (.ref fo) (putF "list_of_calls" (.ref cl) (putF "source" (.ref p) []))))) r = some (.ins (He.ga K "Reach") dx (putF "places" (.ref pl) (putF "found" (.ref fo) (putF "list_of_calls" (.ref cl) (putF "source" (.ref p) []))))) := upd_same
  generalize upd G8 r (.ins (He.ga K "Reach") dx (putF "places" (.ref pl) (putF "found" (.ref fo) (putF "list_of_calls" (.ref cl) (putF "source" (.ref p) []))))) = G9 at u9 i9 ⊢
  have b9 := (b6.trans (same_but k8)).trans u9
  have hcl9 := u9 _ _ ncl (k8 _ _ hcl6)
  have hfo9 := u9 _ _ nfor (k8 _ _ hfo6)
  have hfa9 := u9 _ _ nfar (k8 _ _ hfa6)
  have hpl9 := u9 _ _ nplr hpl8
  clear u9 k8 hpl8 i8 s7 s8 b7 hfb npl hcl6 hfo6 hfa6 i6
  -- origins
  refine ⟨(by show 0 ≤ sizeLine; exact Nat.zero_le _), fun t0 nt0 => ⟨(by show 3 ≤ sizeLine; decide), fun t1 nt1 => ⟨(by show 1 ≤ sizeLine; decide), fun og nog => ?_⟩⟩⟩
  have q1 : Same G9 (upd G9 t0 (.tup [])) := same_new nt0
  generalize upd G9 t0 (.tup []) = A1 at q1 nt1 nog ⊢
  have q2 : Same A1 (upd A1 t1 (.tup [.int 0, .int 0, .ref t0])) := same_new nt1
  generalize upd A1 t1 (.tup [.int 0, .int 0, .ref t0]) = A2 at q2 nog ⊢
  have q3 : Same A2 (upd A2 og (.lst [.ref t1])) := same_new nog
  have hog3 : upd A2 og (.lst [.ref t1]) og = some (.lst [.ref t1]) := upd_same
  generalize upd A2 og (.lst [.ref t1]) = A3 at q3 hog3 ⊢
  have q12 := q1.trans q2
  have q13 := q12.trans q3
  have nog9 : G9 og = none := none_of q12 nog
  obtain ⟨nogH, nogr⟩ := fresh b9 ⟨_, i9⟩ nog9
  have iA := q13 _ _ i9
  refine ⟨_, rfl, r, _, dx, _, rfl, iA, T.c_Reach, T.n_Reach_origins, (by show 4 < 1000; decide), ?_⟩
  have uB : But r A3 (upd A3 r (.ins (He.ga K "Reach") dx (putF "origins" (.ref og) (putF "places" (.ref pl) (putF "found" (.ref fo) (putF "list_of_calls" (.ref cl) (putF "source" (.ref p) []))))))) := But.upd
  have iB : upd A3 r (.ins (He.ga K "Reach") dx (putF "origins" (.ref og) (putF "places" (.ref pl) (putF "found" (.ref fo) (putF "list_of_calls" (.ref cl) (putF "source" (.ref p) [])))))) r = some (.ins (He.ga K "Reach") dx (putF "origins" (.ref og) (putF "places" (.ref pl) (putF "found" (.ref fo) (putF "list_of_calls" (.ref cl) (putF "source" (.ref p) [])))))) := upd_same
  generalize upd A3 r (.ins (He.ga K "Reach") dx (putF "origins" (.ref og) (putF "places" (.ref pl) (putF "found" (.ref fo) (putF "list_of_calls" (.ref cl) (putF "source" (.ref p) [])))))) = B0 at uB iB ⊢
  have bB := (b9.trans (same_but q13)).trans uB
  have hclB := uB _ _ ncl (q13 _ _ hcl9)
  have hfoB := uB _ _ nfor (q13 _ _ hfo9)
  have hfaB := uB _ _ nfar (q13 _ _ hfa9)
  have hplB := uB _ _ nplr (q13 _ _ hpl9)
  have hogB := uB _ _ nogr hog3
  have nfo_og : fo ≠ og := ne_of_none hfo9 nog9
  clear uB q13 q12 q1 q2 q3 hog3 iA hcl9 hfo9 hfa9 hpl9 i9 nog nog9 nt0 nt1
  -- lists of lists
  have l72 := calls_len gd.ok
  have looks : ∀ F : List (Str × V), (F = (putF "origins" (.ref og) (putF "places" (.ref pl) (putF "found" (.ref fo) (putF "list_of_calls" (.ref cl) (putF "source" (.ref p) []))))) ∨ ∃ ra : Addr, F = (putF "replies" (.ref ra) (putF "origins" (.ref og) (putF "places" (.ref pl) (putF "found" (.ref fo) (putF "list_of_calls" (.ref cl) (putF "source" (.ref p) []))))))) → F.lookup ("list_of_calls" : Str) = some (.ref cl) := fun F h => by
    rcases h with rfl | ⟨ra, rfl⟩ <;> kernel_rfl
  refine ⟨_, rfl, r, _, dx, _, _, rfl, iB, T.c_Reach, T.n_Reach_list_of_calls, looks _ (.inl rfl), cl, rfl, ⟨_, .of hclB⟩, fun ra nra => ?_⟩
  refine it_any (n := cys.length) walk_list (fun i J => ∃ rs : List Addr, Same B0 J ∧ J ra = some (.lst (rs.map V.ref)) ∧ rs.length = i ∧ ∀ a ∈ rs, J a = some (.lst []) ∧ B0 a = none ∧ a ≠ ra) ⟨[], same_new nra, upd_same, rfl, fun a h => nomatch h⟩ (fun i J _ ⟨_, s, _⟩ => .of (s _ _ hclB)) ?_ ?_
  · rintro i x J J2 hi ⟨rs, sJ, hD, lr, hrs⟩ ⟨rfl, ex⟩
    refine ⟨rfl, (by show 0 ≤ sizeLine; exact Nat.zero_le _), fun a na => ?_⟩
    have sa := same_new (o := .lst []) na
    have ha : upd J2 a (.lst []) a = some (.lst []) := upd_same
    have hD2 := sa _ _ hD
    have naD : a ≠ ra := fun z => by rw [z, hD] at na; cases na
    generalize upd J2 a (.lst []) = J3 at sa ha hD2 ⊢
    have bb : But ra J3 (upd J3 ra (.lst (rs.map V.ref ++ [.ref a]))) := But.upd
    refine ⟨rs.map V.ref, hD2, by rw [List.length_map, sizeLine_eq]; omega, rs ++ [a], fun b o e => bb _ _ (ne_of_none e nra) (sa _ _ (sJ _ _ e)), by rw [upd_same, List.map_append]; rfl, by rw [List.length_append, lr]; rfl, fun b hb => ?_⟩
    rcases List.mem_append.mp hb with hb | hb
    · obtain ⟨x1, x2, x3⟩ := hrs b hb
      exact ⟨bb _ _ x3 (sa _ _ x1), x2, x3⟩
    · rw [List.mem_singleton.mp hb]
      exact ⟨bb _ _ naD ha, none_of sJ na, naD⟩
  rintro C0 ⟨rs, sC, hraC, lrs, hrs⟩
  have iC := sC _ _ iB
  have nrar : ra ≠ r := fun z => by rw [z, iB] at nra; cases nra
  refine ⟨_, rfl, r, _, dx, _, rfl, iC, T.c_Reach, T.n_Reach_replies, (by show 5 < 1000; decide), ?_⟩
  have uD : But r C0 (upd C0 r (.ins (He.ga K "Reach") dx (putF "replies" (.ref ra) (putF "origins" (.ref og) (putF "places" (.ref pl) (putF "found" (.ref fo) (putF "list_of_calls" (.ref cl) (putF "source" (.ref p) [])))))))) := But.upd
  have iD : upd C0 r (.ins (He.ga K "Reach") dx (putF "replies" (.ref ra) (putF "origins" (.ref og) (putF "places" (.ref pl) (putF "found" (.ref fo) (putF "list_of_calls" (.ref cl) (putF "source" (.ref p) []))))))) r = some (.ins (He.ga K "Reach") dx (putF "replies" (.ref ra) (putF "origins" (.ref og) (putF "places" (.ref pl) (putF "found" (.ref fo) (putF "list_of_calls" (.ref cl) (putF "source" (.ref p) []))))))) := upd_same
  generalize upd C0 r (.ins (He.ga K "Reach") dx (putF "replies" (.ref ra) (putF "origins" (.ref og) (putF "places" (.ref pl) (putF "found" (.ref fo) (putF "list_of_calls" (.ref cl) (putF "source" (.ref p) []))))))) = D0 at uD iD ⊢
  have bD0 : But r B0 D0 := (same_but sC).trans uD
  have bD := bB.trans bD0
  have hrsr : ∀ a ∈ rs, a ≠ r := fun a ha z => by
    obtain ⟨x1, x2, x3⟩ := hrs a ha
    rw [z, iB] at x2
    cases x2
  have hraD := uD _ _ nrar hraC
  have hclD := bD0 _ _ ncl hclB
  refine ⟨_, rfl, r, _, dx, _, _, rfl, iD, T.c_Reach, T.n_Reach_list_of_calls, looks _ (.inr ⟨_, rfl⟩), cl, rfl, ⟨_, .of hclD⟩, fun la nla => ?_⟩
  refine it_any (n := cys.length) walk_list (fun i J => ∃ ls : List Addr, Same D0 J ∧ J la = some (.lst (ls.map V.ref)) ∧ ls.length = i ∧ ∀ a ∈ ls, J a = some (.lst []) ∧ D0 a = none ∧ a ≠ la) ⟨[], same_new nla, upd_same, rfl, fun a h => nomatch h⟩ (fun i J _ ⟨_, s, _⟩ => .of (s _ _ hclD)) ?_ ?_
  · rintro i x J J2 hi ⟨rs, sJ, hD, lr, hrs⟩ ⟨rfl, ex⟩
    refine ⟨rfl, (by show 0 ≤ sizeLine; exact Nat.zero_le _), fun a na => ?_⟩
    have sa := same_new (o := .lst []) na
    have ha : upd J2 a (.lst []) a = some (.lst []) := upd_same
    have hD2 := sa _ _ hD
    have naD : a ≠ la := fun z => by rw [z, hD] at na; cases na
    generalize upd J2 a (.lst []) = J3 at sa ha hD2 ⊢
    have bb : But la J3 (upd J3 la (.lst (rs.map V.ref ++ [.ref a]))) := But.upd
    refine ⟨rs.map V.ref, hD2, by rw [List.length_map, sizeLine_eq]; omega, rs ++ [a], fun b o e => bb _ _ (ne_of_none e nla) (sa _ _ (sJ _ _ e)), by rw [upd_same, List.map_append]; rfl, by rw [List.length_append, lr]; rfl, fun b hb => ?_⟩
    rcases List.mem_append.mp hb with hb | hb
    · obtain ⟨x1, x2, x3⟩ := hrs b hb
      exact ⟨bb _ _ x3 (sa _ _ x1), x2, x3⟩
    · rw [List.mem_singleton.mp hb]
      exact ⟨bb _ _ naD ha, none_of sJ na, naD⟩
  rintro E1 ⟨ls, sE, hlaE, lls, hls⟩
  have iE := sE _ _ iD
  have nlar : la ≠ r := fun z => by rw [z, iD] at nla; cases nla
  refine ⟨_, rfl, r, _, dx, _, rfl, iE, T.c_Reach, T.n_Reach_leads, (by show 6 < 1000; decide), ?_⟩
  have uF : But r E1 (upd E1 r (.ins (He.ga K "Reach") dx (putF "leads" (.ref la) (putF "replies" (.ref ra) (putF "origins" (.ref og) (putF "places" (.ref pl) (putF "found" (.ref fo) (putF "list_of_calls" (.ref cl) (putF "source" (.ref p) []))))))))) := But.upd
  have iF : upd E1 r (.ins (He.ga K "Reach") dx (putF "leads" (.ref la) (putF "replies" (.ref ra) (putF "origins" (.ref og) (putF "places" (.ref pl) (putF "found" (.ref fo) (putF "list_of_calls" (.ref cl) (putF "source" (.ref p) [])))))))) r = some (.ins (He.ga K "Reach") dx (putF "leads" (.ref la) (putF "replies" (.ref ra) (putF "origins" (.ref og) (putF "places" (.ref pl) (putF "found" (.ref fo) (putF "list_of_calls" (.ref cl) (putF "source" (.ref p) [])))))))) := upd_same
  generalize upd E1 r (.ins (He.ga K "Reach") dx (putF "leads" (.ref la) (putF "replies" (.ref ra) (putF "origins" (.ref og) (putF "places" (.ref pl) (putF "found" (.ref fo) (putF "list_of_calls" (.ref cl) (putF "source" (.ref p) [])))))))) = F0 at uF iF ⊢
  have bF0 : But r D0 F0 := (same_but sE).trans uF
  have bF := bD.trans bF0
  intro sp nsp
  have sZ : Same F0 (upd F0 sp (.dT [])) := same_new nsp
  have hspZ : upd F0 sp (.dT []) sp = some (.dT []) := upd_same
  obtain ⟨nspH, nspr⟩ := fresh bF ⟨_, iF⟩ nsp
  generalize upd F0 sp (.dT []) = Z0 at sZ hspZ ⊢
  have iZ := sZ _ _ iF
  refine ⟨_, rfl, r, _, dx, _, rfl, iZ, T.c_Reach, T.n_Reach_spread, (by show 7 < 1000; decide), ?_⟩
  have uY : But r Z0 (upd Z0 r (.ins (He.ga K "Reach") dx (putF "spread" (.ref sp) (putF "leads" (.ref la) (putF "replies" (.ref ra) (putF "origins" (.ref og) (putF "places" (.ref pl) (putF "found" (.ref fo) (putF "list_of_calls" (.ref cl) (putF "source" (.ref p) [])))))))))) := But.upd
  have iY : upd Z0 r (.ins (He.ga K "Reach") dx (putF "spread" (.ref sp) (putF "leads" (.ref la) (putF "replies" (.ref ra) (putF "origins" (.ref og) (putF "places" (.ref pl) (putF "found" (.ref fo) (putF "list_of_calls" (.ref cl) (putF "source" (.ref p) []))))))))) r = some (.ins (He.ga K "Reach") dx (putF "spread" (.ref sp) (putF "leads" (.ref la) (putF "replies" (.ref ra) (putF "origins" (.ref og) (putF "places" (.ref pl) (putF "found" (.ref fo) (putF "list_of_calls" (.ref cl) (putF "source" (.ref p) []))))))))) := upd_same
  generalize upd Z0 r (.ins (He.ga K "Reach") dx (putF "spread" (.ref sp) (putF "leads" (.ref la) (putF "replies" (.ref ra) (putF "origins" (.ref og) (putF "places" (.ref pl) (putF "found" (.ref fo) (putF "list_of_calls" (.ref cl) (putF "source" (.ref p) []))))))))) = Y0 at uY iY ⊢
  have bYF : But r F0 Y0 := (same_but sZ).trans uY
  have bYD : But r D0 Y0 := bF0.trans bYF
  have bYB : But r B0 Y0 := bD0.trans bYD
  have bY := bB.trans bYB
  have nraH := (fresh bB ⟨_, iB⟩ nra).1
  have nlaH := (fresh bD ⟨_, iD⟩ nla).1
  have nra_la : ra ≠ la := ne_of_none hraD nla
  refine q ⟨r, dx, p, cl, fo, pl, og, ra, la, sp, rs, ls⟩ Y0 rfl (by show rs.length = _; rw [lrs, lcy]) (by show ls.length = _; rw [lls, lcy]) ?_ nraH nlaH bY ?_
  · rintro a (h | h | h | h | h | h)
    · exact h ▸ nfoH
    · exact h ▸ nplH
    · exact h ▸ nogH
    · exact h ▸ nspH
    · exact (fresh bB ⟨_, iB⟩ (hrs a h).2.1).1
    · exact (fresh bD ⟨_, iD⟩ (hls a h).2.1).1
  · refine ⟨?_, ⟨_, bYB _ _ nfor hfoB, ⟨⟨fa, rfl, bYB _ _ nfar hfaB⟩, trivial⟩⟩, bYB _ _ nplr hplB, ⟨_, bYB _ _ nogr hogB, rfl⟩, bYD _ _ nrar hraD, bYF _ _ nlar (uF _ _ nlar hlaE), fun a ha => ?_, fun a ha => ?_, ⟨_, uY _ _ nspr hspZ, Nat.zero_le _⟩, ⟨nfo_og, ne_of_none hfoB nra, ne_of_none (bD0 _ _ nfor hfoB) nla, ne_of_none hogB nra, ne_of_none (bD0 _ _ nogr hogB) nla, ne_of_none (bF0 _ _ nplr (bD0 _ _ nplr hplB)) nsp⟩, fun a ha => ?_⟩
    · rw [iY]
      have : (putF "spread" (.ref sp) (putF "leads" (.ref la) (putF "replies" (.ref ra) (putF "origins" (.ref og) (putF "places" (.ref pl) (putF "found" (.ref fo) (putF "list_of_calls" (.ref cl) (putF "source" (.ref p) [])))))))) = rcF ⟨r, dx, p, cl, fo, pl, og, ra, la, sp, rs, ls⟩ := by kernel_rfl
      rw [this]
    · exact ⟨[], bYD _ _ (hrsr a ha) (uD _ _ (hrsr a ha) (hrs a ha).1), Nat.zero_le _⟩
    · have nar : a ≠ r := fun z => by
        have := (hls a ha).2.1
        rw [z, iD] at this
        cases this
      exact ⟨[], bYF _ _ nar (uF _ _ nar (hls a ha).1), Nat.zero_le _⟩
    · rcases ha with ha | ha
      · obtain ⟨x1, x2, x3⟩ := hrs a ha
        exact ⟨Ne.symm (ne_of_none hfoB x2), Ne.symm (ne_of_none hogB x2), x3, ne_of_none (uD _ _ (hrsr a ha) x1) nla⟩
      · obtain ⟨x1, x2, x3⟩ := hls a ha
        exact ⟨Ne.symm (ne_of_none (bD0 _ _ nfor hfoB) x2), Ne.symm (ne_of_none (bD0 _ _ nogr hogB) x2), Ne.symm (ne_of_none hraD x2), x3⟩
def spPut (K : PySem.W.Frag) : Sp := fun vs H Q _ => ∃ (R : RcA) (l : List (List Int)) (B pn nn : Nat) (ws : Addr) (ys : List V) (W : List (List Int × Int × List Int)), vs = [.ref R.r, .int (pn : Nat), .int (nn : Nat), .ref ws] ∧ RchAt K H R l B ∧ H ws = some (.lst ys) ∧ ¬ R.Own ws ∧ WysAt K H ys W ∧ W ≠ [] ∧ W.length ≤ 16 ∧ nn < R.rs.length ∧ nn < R.ls.length ∧ l.length ≤ 1000000 ∧ B ≤ 1000000 ∧
  ∀ H', R.Kp H H' → RchAt K H' R (metW l W) (B + 3) → Q .non H'
theorem ca_put_ways (T : Txt w K mg) : Ca P w K mg base 3 "put_ways" (spPut K) := by
  refine ca_of (N := ["reach", "place", "number", "ways", "told", "coins", "answer", "state"]) (ps := ["reach", "place", "number", "ways"]) T.f_put_ways T.g_put_ways ⟨rfl, rfl, rfl, by decide +kernel, rfl, by decide +kernel, by decide +kernel⟩ (fun _ _ _ _ _ _ us hl => match us, hl with | [_, _, _, _], _ => rfl)
    (fun vs H Q E h => by obtain ⟨R, l, B, pn, nn, ws, ys, W, rfl, rc, hws, nws, wy, W0, W16, hn1, hn2, hl, hB, q⟩ := h; rfl) (fun cdv A outer s H vs Q E hr h => ?_)
  have nd : (["reach", "place", "number", "ways", "told", "coins", "answer", "state"] : List Str).Nodup := by decide +kernel
  obtain ⟨R, l, B, pn, nn, ws, ys, W, rfl, rc, hws, nws, wy, W0, W16, hn1, hn2, hl, hB, q⟩ := h
  refine ⟨_, (pss_cons (ps_set (i := 4) nd rfl (.inl rfl) (pe_lst pa_nil))
      (pss_cons (ps_for PassesOwn.never rfl (pi_list (pv 3)) (pg_three K 5 6 7 rfl rfl nd rfl rfl rfl (.inl rfl) (.inl rfl) (.inl rfl) (.inr rfl) (.inr rfl) (.inr rfl)) (C8.pss_cut (ps_if (pt_cmp (pc_dnotin (hu_of hr) (pv 7) (pe_fld (pv 0) rfl))) (pss_cons (ps_dput (hu_of hr) (pe_fld (pv 0) rfl) (pv 7) (pe_callB call_len_seq (by rfl) T.b_len PySem.boot_len (pa_cons (pe_fld (pv 0) rfl) pa_nil)) rfl)
      (pss_cons (ps_expr (pe_bm PySem.F.plainAttrs_list PySem.F.slot_list_append PySem.F.type_list_append mt_append (pe_fld (pv 0) rfl) (pa_cons (pv 7) pa_nil)))
      (pss_one (ps_expr (pe_bm PySem.F.plainAttrs_list PySem.F.slot_list_append PySem.F.type_list_append mt_append (pe_fld (pv 0) rfl) (pa_cons (pe_tup (pa_cons (pv 1) (pa_cons (pv 2) (pa_cons (pv 5) pa_nil)))) pa_nil)))))) pss_nil)
      (pss_one (ps_expr (pe_bm PySem.F.plainAttrs_list PySem.F.slot_list_append PySem.F.type_list_append mt_append (pv 4) (pa_cons (pe_tup (pa_cons (pv 5) (pa_cons (pv 6) (pa_cons (pe_dget (hu_of hr) (pe_fld (pv 0) rfl) (pv 7) (fun _ _ => rfl)) pa_nil)))) pa_nil))))))
      (pss_cons (ps_expr (pe_bm PySem.F.plainAttrs_list PySem.F.slot_list_append PySem.F.type_list_append mt_append (pe_ix ix_list (pe_fld (pv 0) rfl) (pv 2) (fun _ _ => rfl)) (pa_cons (pe_ix ix_tup (pe_ix ix_list (pv 4) pe_int (fun _ _ => rfl)) pe_int (fun _ _ => rfl)) pa_nil)))
      (pss_cons (ps_expr (pe_bm PySem.F.plainAttrs_list PySem.F.slot_list_append PySem.F.type_list_append mt_append (pe_ix ix_list (pe_fld (pv 0) rfl) (pv 2) (fun _ _ => rfl)) (pa_cons (pe_ix ix_tup (pe_ix ix_list (pv 4) pe_int (fun _ _ => rfl)) pe_int (fun _ _ => rfl)) pa_nil)))
      (pss_one (ps_if (pt_cmpR op_gt (pe_callB call_len_seq (by rfl) T.b_len PySem.boot_len (pa_cons (pv 4) pa_nil)) pe_int (nomark _)) (pss_one (ps_dput (hu_of hr) (pe_fld (pv 0) rfl) (pe_tup (pa_cons (pv 1) (pa_cons (pv 2) pa_nil))) (pv 4) rfl)) pss_nil)))))), ?_⟩
  refine ⟨(by show 0 ≤ sizeLine; exact Nat.zero_le _), fun tl ntl => ?_⟩
  have s0 : Same H (upd H tl (.lst [])) := same_new ntl
  have ht0 : upd H tl (.lst []) tl = some (.lst []) := upd_same
  have rc0 := rc.same s0
  have ntO : ¬ R.Own tl := rc.none ntl
  have ntw : ws ≠ tl := ne_of_none hws ntl
  generalize upd H tl (.lst []) = H0 at s0 ht0 rc0 ⊢
  refine ⟨_, rfl, ws, rfl, ⟨_, .of (s0 _ _ hws)⟩, for_list (xs := ys) (fun i σ' H' => ∃ (x5 x6 x7 : Option V) (tys : List V), σ' = [some (.ref R.r), some (.int (pn : Nat)), some (.int (nn : Nat)), some (.ref ws), some (.ref tl), x5, x6, x7] ∧ (∀ b o, ¬ R.Own b → H b = some o → H' b = some o) ∧ H' ws = some (.lst ys) ∧ WysAt K H' ys W ∧ RchAt K H' R (metW l (W.take i)) B ∧ H' tl = some (.lst tys) ∧ tys.length = i ∧ ∀ y ∈ tys, ∃ t c x j, y = V.ref t ∧ SqT K H' t [.ref c, .int x, .int j]) ⟨none, none, none, [], rfl, fun b o _ e => s0 _ _ e, s0 _ _ hws, wys_same s0 wy, rc0, ht0, rfl, fun y h => nomatch h⟩ (fun i σ' H' _ ⟨_, _, _, _, _, _, h, _⟩ => .of h) ?_ ?_⟩
  · rintro i x σ' G hx ⟨x5, x6, x7, tys, rfl, kp, hws1, wy1, rc1, htl, lt, htd⟩
    obtain ⟨w1, ew, ta, c, sa, rfl, hta, hc, hsa⟩ := wys_at wy1 hx
    have hi : i < W.length := (List.getElem?_eq_some_iff.mp ew).1
    refine ⟨ta, _, rfl, hta, rfl, _, _, rfl, _, _, rfl, _, _, rfl, rfl, ?_⟩
    have em : metW l (W.take (i + 1)) = met (metW l (W.take i)) w1.2.2 := by rw [take_more ew, metW_snoc]
    have ll : (metW l (W.take i)).length ≤ l.length + i := by
      have : ∀ (us : List (List Int × Int × List Int)) (m : List (List Int)), (metW m us).length ≤ m.length + us.length := by
        intro us
        induction us with
        | nil => exact fun m => Nat.le_refl _
        | cons u us ih =>
          intro m
          have := ih (met m u.2.2)
          have e : (met m u.2.2).length ≤ m.length + 1 := by
            unfold met
            split
            · omega
            · rw [List.length_append]; exact Nat.le_refl _
          show (metW (met m u.2.2) us).length ≤ m.length + (us.length + 1)
          omega
      have h1 := this (W.take i) l
      rw [List.length_take] at h1
      omega
    refine ⟨fun σ' G' => σ' = [some (.ref R.r), some (.int (pn : Nat)), some (.int (nn : Nat)), some (.ref ws), some (.ref tl), some (.ref c), some (.int w1.2.1), some (.ref sa)] ∧ (∀ b o, ¬ R.Own b → G b = some o → G' b = some o) ∧ RchAt K G' R (metW l (W.take (i + 1))) B, ?_, ?_⟩
    · refine ⟨_, rfl, _, rfl, R.r, _, R.dx, _, _, rfl, rc1.ins, T.c_Reach, T.n_Reach_places, rcf_places R, R.pl, _, rfl, .t rc1.pl (k := hstK w1.2.2) (by rw [hstK_v]; exact hsa), ?_⟩
      by_cases ms : w1.2.2 ∈ metW l (W.take i)
      · obtain ⟨ii, _, ev⟩ := idxK_yes (n := 0) ms
        rw [ev]
        refine ⟨_, rfl, iteF ⟨rfl, fun _ _ _ e => e, ?_⟩⟩
        rw [em]
        unfold met
        rw [if_pos ms]
        exact rc1
      · rw [idxK_no ms]
        obtain ⟨bs, f1, f2⟩ := rc1.fo
        obtain ⟨os, o1, o2⟩ := rc1.og
        have lb := f2.len
        refine ⟨_, rfl, iteT ⟨_, rfl, R.r, _, R.dx, _, _, rfl, rc1.ins, T.c_Reach, T.n_Reach_found, rcf_found R, _, _, rfl, .inl (.of f1), _, rfl, R.r, _, R.dx, _, _, rfl, rc1.ins, T.c_Reach, T.n_Reach_places, rcf_places R, _, rfl, R.pl, _, rfl, .t rc1.pl (k := hstK w1.2.2) (by rw [hstK_v]; exact hsa) (by rw [idxK_len, sizeLine_eq]; omega), ?_⟩⟩
        rw [lb, idxK_met ms]
        have b1 : But R.pl G (upd G R.pl (.dT (idxK 0 (metW l (W.take i) ++ [w1.2.2])))) := But.upd
        have e1 : upd G R.pl (.dT (idxK 0 (metW l (W.take i) ++ [w1.2.2]))) R.pl = some (.dT (idxK 0 (metW l (W.take i) ++ [w1.2.2]))) := upd_same
        have np : ∀ a xs, G a = some (.lst xs) → a ≠ R.pl := fun a xs q z => by
          rw [z, rc1.pl] at q
          cases q
        have ins1 := b1 _ _ (fun q => by have := rc1.ins; rw [q, rc1.pl] at this; cases this) rc1.ins
        have f1' := b1 _ _ (np _ _ f1) f1
        have o1' := b1 _ _ (np _ _ o1) o1
        generalize upd G R.pl (.dT (idxK 0 (metW l (W.take i) ++ [w1.2.2]))) = G1 at b1 e1 ins1 f1' o1' ⊢
        refine ⟨_, rfl, R.r, _, R.dx, _, _, rfl, ins1, T.c_Reach, T.n_Reach_found, rcf_found R, .inl ⟨rfl, _, .of f1'⟩, _, rfl, R.fo, bs, _, rfl, rfl, f1', by rw [sizeLine_eq]; omega, ?_⟩
        have b2 : But R.fo G1 (upd G1 R.fo (.lst (bs ++ [.ref sa]))) := But.upd
        have e2 : upd G1 R.fo (.lst (bs ++ [.ref sa])) R.fo = some (.lst (bs ++ [.ref sa])) := upd_same
        have ins2 := b2 _ _ (fun q => by rw [q, f1'] at ins1; cases ins1) ins1
        have o2' := b2 _ _ (Ne.symm rc1.ne.1) o1'
        generalize upd G1 R.fo (.lst (bs ++ [.ref sa])) = G2 at b2 e2 ins2 o2' ⊢
        refine ⟨_, rfl, R.r, _, R.dx, _, _, rfl, ins2, T.c_Reach, T.n_Reach_origins, rcf_origins R, .inl ⟨rfl, _, .of o2'⟩, _, rfl, _, rfl, _, rfl, (by show 3 ≤ sizeLine; decide), fun u nu => ?_⟩
        have s3 := same_new (o := .tup [.int (pn : Nat), .int (nn : Nat), .ref c]) nu
        have o3 := s3 _ _ o2'
        generalize upd G2 u (.tup [.int (pn : Nat), .int (nn : Nat), .ref c]) = G3 at s3 o3 ⊢
        have b3 : But R.og G3 (upd G3 R.og (.lst (os ++ [.ref u]))) := But.upd
        refine ⟨R.og, os, _, rfl, rfl, o3, by rw [o2, sizeLine_eq]; omega, rfl, fun b o n e => b3 _ _ (fun z => n (.inr (.inr (.inl z)))) (s3 _ _ (b2 _ _ (fun z => n (.inl z)) (b1 _ _ (fun z => n (.inr (.inl z))) e))), ?_⟩
        rw [em]
        unfold met
        rw [if_neg ms]
        exact rc1.meet hsa ms b1 e1 b2 f1 e2 ⟨_, b3, s3⟩ o1 upd_same
    · rintro σ2 G2 ⟨rfl, k2, rc2⟩
      have hws2 := k2 _ _ nws hws1
      have wy2 := rc1.wys k2 wy1
      have htl2 := k2 _ _ ntO htl
      have ct : Ch G2 tl := .lst htl2
      have hsa2 := rc1.tup k2 hsa
      have mem : w1.2.2 ∈ metW l (W.take (i + 1)) := by
        rw [em]
        unfold met
        split
        · assumption
        · exact List.mem_append_right _ List.mem_cons_self
      obtain ⟨ii, _, ev⟩ := idxK_yes (n := 0) mem
      refine ⟨_, rfl, .inl ⟨rfl, _, .of htl2⟩, _, rfl, _, rfl, _, rfl, R.r, _, R.dx, _, _, rfl, rc2.ins, T.c_Reach, T.n_Reach_places, rcf_places R, _, rfl, R.pl, _, rfl, .inr ⟨_, hstK w1.2.2, sa, .inl rc2.pl, rfl, by rw [hstK_v]; exact hsa2, ev.symm⟩, (by show 3 ≤ sizeLine; decide), fun u nu => ?_⟩
      have s3 := same_new (o := .tup [.ref c, .int w1.2.1, .int ((0 + ii : Nat) : Int)]) nu
      have hu3 : upd G2 u (.tup [.ref c, .int w1.2.1, .int ((0 + ii : Nat) : Int)]) u = some (.tup [.ref c, .int w1.2.1, .int ((0 + ii : Nat) : Int)]) := upd_same
      have htl3 := s3 _ _ htl2
      generalize upd G2 u (.tup [.ref c, .int w1.2.1, .int ((0 + ii : Nat) : Int)]) = G3 at s3 hu3 htl3 ⊢
      have bb : But tl G3 (upd G3 tl (.lst (tys ++ [.ref u]))) := But.upd
      have c3 : Ch G3 tl := .lst htl3
      have nfo : ∀ a, R.Own a → a ≠ tl := fun a ha z => ntO (z ▸ ha)
      have rc4 : RchAt K (upd G3 tl (.lst (tys ++ [.ref u]))) R (metW l (W.take (i + 1))) B := by
        have q := rc2.same s3
        obtain ⟨bs, f1, f2⟩ := q.fo
        obtain ⟨os, o1, o2⟩ := q.og
        obtain ⟨kvs, s1, s2⟩ := q.sp
        exact ⟨bb _ _ (fun z => by have := q.ins; rw [z, htl3] at this; cases this) q.ins, ⟨bs, bb _ _ (nfo _ (.inl rfl)) f1, f2.imp fun _ _ e => bb _ _ (fun z => c3.1 _ (z ▸ e)) e⟩, bb _ _ (nfo _ (.inr (.inl rfl))) q.pl, ⟨os, bb _ _ (nfo _ (.inr (.inr (.inl rfl)))) o1, o2⟩, bb _ _ (fun z => by have := rc.ra; rw [z, ntl] at this; cases this) q.ra, bb _ _ (fun z => by have := rc.la; rw [z, ntl] at this; cases this) q.la, fun a ha => by
          obtain ⟨xs, e, e2⟩ := q.rs a ha
          exact ⟨xs, bb _ _ (nfo _ (.inr (.inr (.inr (.inr (.inl ha)))))) e, e2⟩, fun a ha => by
          obtain ⟨xs, e, e2⟩ := q.ls a ha
          exact ⟨xs, bb _ _ (nfo _ (.inr (.inr (.inr (.inr (.inr ha)))))) e, e2⟩, ⟨kvs, bb _ _ (nfo _ (.inr (.inr (.inr (.inl rfl))))) s1, s2⟩, q.ne, q.nr⟩
      refine ⟨tl, tys, _, rfl, rfl, htl3, by rw [sizeLine_eq]; omega, _, _, _, tys ++ [.ref u], rfl, fun b o n e => bb _ _ (ne_of_none e ntl) (s3 _ _ (k2 _ _ n (kp _ _ n e))), bb _ _ ntw (s3 _ _ hws2), wys_but c3 bb (wys_same s3 wy2), rc4, upd_same, by rw [List.length_append, lt]; rfl, fun y hy => ?_⟩
      rcases List.mem_append.mp hy with hy | hy
      · obtain ⟨t, c', x, j, e1, e2⟩ := htd y hy
        exact ⟨t, c', x, j, e1, sqT_but c3 bb (same_t s3 (rc1.sqT k2 e2))⟩
      · rw [List.mem_singleton.mp hy]
        exact ⟨u, c, _, _, rfl, sqT_but c3 bb (.of hu3)⟩
  rintro σ' G ⟨_, _, _, tys, rfl, kp, _, wy1, rc1, htl, lt, htd⟩
  rw [wys_len wy, List.take_length] at rc1
  rw [wys_len wy] at lt
  have lw : 0 < W.length := List.length_pos_iff.mpr W0
  obtain ⟨y0, tr, rfl⟩ : ∃ y tr, tys = y :: tr := by
    cases tys with
    | nil => simp at lt; omega
    | cons y tr => exact ⟨y, tr, rfl⟩
  obtain ⟨t0, c0, x0, j0, rfl, ht0'⟩ := htd y0 List.mem_cons_self
  obtain ⟨dr, edr⟩ : ∃ dr, R.rs[nn]? = some dr := ⟨_, List.getElem?_eq_getElem hn1⟩
  obtain ⟨dq, edq⟩ : ∃ dq, R.ls[nn]? = some dq := ⟨_, List.getElem?_eq_getElem hn2⟩
  have mr := List.mem_of_getElem? edr
  have mq := List.mem_of_getElem? edq
  have atr : atI (R.rs.map V.ref) ((nn : Nat) : Int) = some (.ref dr) := atI_nat (by rw [List.getElem?_map, edr]; rfl)
  have atq : atI (R.ls.map V.ref) ((nn : Nat) : Int) = some (.ref dq) := atI_nat (by rw [List.getElem?_map, edq]; rfl)
  obtain ⟨xr, hr1, lr1⟩ := rc1.rs dr mr
  have ndr : dr ≠ tl := fun z => ntO (z ▸ .inr (.inr (.inr (.inr (.inl mr)))))
  have ndq : dq ≠ tl := fun z => ntO (z ▸ .inr (.inr (.inr (.inr (.inr mq)))))
  refine ⟨_, rfl, R.r, _, R.dx, _, _, rfl, rc1.ins, T.c_Reach, T.n_Reach_replies, rcf_replies R, _, rfl, _, _, _, _, rfl, rfl, .of rc1.ra, atr, .inl ⟨rfl, _, .of hr1⟩, _, rfl, _, _, _, _, rfl, rfl, .of htl, at0, _, _, _, _, rfl, rfl, ht0', at1, dr, xr, _, rfl, rfl, hr1, by rw [sizeLine_eq]; omega, ?_⟩
  have rc2 := rc1.grow (v := .int x0) (.inl mr) hr1
  have b2 : But dr G (upd G dr (.lst (xr ++ [.int x0]))) := But.upd
  have c2 : Ch G dr := .lst hr1
  have htl2 := b2 _ _ (Ne.symm ndr) htl
  have ht2 := sqT_but c2 b2 ht0'
  generalize upd G dr (.lst (xr ++ [.int x0])) = G2 at rc2 b2 htl2 ht2 ⊢
  obtain ⟨xq, hq1, lq1⟩ := rc2.ls dq mq
  refine ⟨_, rfl, R.r, _, R.dx, _, _, rfl, rc2.ins, T.c_Reach, T.n_Reach_leads, rcf_leads R, _, rfl, _, _, _, _, rfl, rfl, .of rc2.la, atq, .inl ⟨rfl, _, .of hq1⟩, _, rfl, _, _, _, _, rfl, rfl, .of htl2, at0, _, _, _, _, rfl, rfl, ht2, at2, dq, xq, _, rfl, rfl, hq1, by rw [sizeLine_eq]; omega, ?_⟩
  have rc3 := rc2.grow (v := .int j0) (.inr mq) hq1
  have b3 : But dq G2 (upd G2 dq (.lst (xq ++ [.int j0]))) := But.upd
  have htl3 := b3 _ _ (Ne.symm ndq) htl2
  generalize upd G2 dq (.lst (xq ++ [.int j0])) = G3 at rc3 b3 htl3 ⊢
  have kp3 : R.Kp H G3 := fun b o n e => b3 _ _ (fun z => n (z ▸ .inr (.inr (.inr (.inr (.inr mq)))))) (b2 _ _ (fun z => n (z ▸ .inr (.inr (.inr (.inr (.inl mr)))))) (kp _ _ n e))
  refine ⟨_, rfl, _, _, rfl, .inl (.of htl3), _, _, rfl, rfl, _, rfl, ?_⟩
  by_cases c1 : (1 : Int) < (((V.ref t0 :: tr).length : Nat) : Int)
  · rw [decide_eq_true c1]
    refine iteT ⟨_, rfl, _, rfl, R.r, _, R.dx, _, _, rfl, rc3.ins, T.c_Reach, T.n_Reach_spread, rcf_spread R, _, rfl, _, rfl, (by show 2 ≤ sizeLine; decide), fun u nu => ?_⟩
    have s4 := same_new (o := .tup [.int (pn : Nat), .int (nn : Nat)]) nu
    have rc4 := rc3.same s4
    have hu4 : upd G3 u (.tup [.int (pn : Nat), .int (nn : Nat)]) u = some (.tup [.int (pn : Nat), .int (nn : Nat)]) := upd_same
    generalize upd G3 u (.tup [.int (pn : Nat), .int (nn : Nat)]) = G4 at s4 rc4 hu4 ⊢
    obtain ⟨kvs, s1, s2⟩ := rc4.sp
    refine ⟨R.sp, _, rfl, .t s1 (k := [.inl ((pn : Nat) : Int), .inl ((nn : Nat) : Int)]) hu4 (by rw [sizeLine_eq]; omega), ?_⟩
    have := length_putK kvs [.inl ((pn : Nat) : Int), .inl ((nn : Nat) : Int)] (V.ref tl)
    have b4 : But R.sp G4 (upd G4 R.sp (.dT (putK kvs [.inl ((pn : Nat) : Int), .inl ((nn : Nat) : Int)] (V.ref tl)))) := But.upd
    exact q _ ((kp3.trans (Same.kp s4)).trans (But.kp b4 (.inr (.inr (.inr (.inl rfl)))))) (rc4.spread (by omega))
  · rw [decide_eq_false c1]
    exact iteF (q _ kp3 (rc3.more (by omega)))
end

end M

set_option Elab.async false
set_option linter.all false
set_option maxRecDepth 100000
set_option maxHeartbeats 2000000
namespace M
open PySem PySem.Spec PyProof.Rows L2

section
variable {P : Program} {w : World} {K : PySem.W.Frag} {mg : Str → Option Value} {base : Heap}
def spMost : Sp := fun vs H Q _ => ∃ m : Int, vs = [.int m] ∧ 1 ≤ m ∧ m ≤ 100000 ∧ Q .non H
theorem ca_check_most (T : Txt w K mg) : Ca P w K mg base 3 "check_most" (spMost) := by
  refine ca_of (N := ["most"]) (ps := ["most"]) T.f_check_most T.g_check_most ⟨rfl, rfl, rfl, by decide +kernel, rfl, by decide +kernel, by decide +kernel⟩ (fun _ _ _ _ _ _ us hl => match us, hl with | [_], _ => rfl)
    (fun vs H Q E h => by obtain ⟨m, rfl, h1, h2, q⟩ := h; rfl) (fun cdv A outer s H vs Q E hr h => ?_)
  have nd : (["most"] : List Str).Nodup := by decide +kernel
  obtain ⟨m, rfl, h1, h2, q⟩ := h
  refine ⟨_, (pss_one (ps_if (pt_not (pt_val (pe_ca (ca_is_within T) hr (pa_cons (pv 0) (pa_cons pe_int (pa_cons (pe_gi T.i_GREATEST_MOST) pa_nil)))))) (pss_one ps_never) pss_nil)), ?_⟩
  refine ⟨_, rfl, m, 1, 100000, rfl, _, rfl, ?_⟩
  rw [decide_eq_true h1, decide_eq_true h2]
  exact iteF q
theorem hwy_ne {v : Vlt} (g : VGood v) {hs : List Int} (so : StateOk (v.cells.map (·.1)) hs) {c : Str × Int} (hc : c ∈ v.calls) : hwy v c hs ≠ [] := fun e => by
  obtain ⟨d, hd, ed, h0, h1⟩ := calls_mem hc
  obtain ⟨_, _, _, h16, _⟩ := (hable g hd ⟨h0, h1⟩ so).wys
  rw [← hwy_of g.nd hd ed.symm, e] at h16
  exact absurd h16 (by decide)
theorem start_noL (rs : List Row) (a : Int) : NoL (.tuple [codeD rs, .int a]) := .tup fun x hx => by
  rcases List.mem_cons.mp hx with rfl | hx
  · exact code_noL _
  · rw [List.mem_singleton.mp hx]
    exact .int _
theorem StartAt.kp {H H' : Hp} {R : RcA} {l : List (List Int)} {B : Nat} (rc : RchAt K H R l B) (k : R.Kp H H') {v : Vlt} {c : Str × Int} {y : V} (h : StartAt K H v c y) : StartAt K H' v c y := by
  obtain ⟨d, hd, e, h⟩ := h
  exact ⟨d, hd, e, rc.dp k h (start_noL _ _)⟩
theorem StartAt.sameH {H H' : Hp} (s : Same H H') {v : Vlt} {c : Str × Int} {y : V} (h : StartAt K H v c y) : StartAt K H' v c y := by
  obtain ⟨d, hd, e, h⟩ := h
  exact ⟨d, hd, e, dp_same s h⟩
def spReachOf (K : PySem.W.Frag) : Sp := fun vs H Q _ => ∃ (p : Addr) (v : Vlt) (N : Nat) (most : Int), vs = [.ref p, .int most] ∧ VaultAt K H p v ∧ VGood v ∧ (∀ n, (rch v n).length ≤ N) ∧ N ≤ 2000 ∧ N ≤ most ∧ most ≤ 100000 ∧
  ∀ (R : RcA) (B : Nat) (H' : Hp), Same H H' → (∀ a, R.Own a → H a = none) → RchAt K H' R (rch v N) B → Q (.ref R.r) H'
theorem ca_reach_of (T : Txt w K mg) : Ca P w K mg base 13 "reach_of" (spReachOf K) := by
  refine ca_of (N := ["vault", "most", "reach", "starts", "sizes", "place", "state", "number", "start"]) (ps := ["vault", "most"]) T.f_reach_of T.g_reach_of ⟨rfl, rfl, rfl, by decide +kernel, rfl, by decide +kernel, by decide +kernel⟩ (fun _ _ _ _ _ _ us hl => match us, hl with | [_, _], _ => rfl)
    (fun vs H Q E h => by obtain ⟨p, v, N, most, rfl, hv, gd, hN, hN2, hNm, hm, q⟩ := h; rfl) (fun cdv A outer s H vs Q E hr h => ?_)
  have nd : (["vault", "most", "reach", "starts", "sizes", "place", "state", "number", "start"] : List Str).Nodup := by decide +kernel
  obtain ⟨p, v, N, most, rfl, hv, gd, hN, hN2, hNm, hm, q⟩ := h
  refine ⟨_, (pss_cons (ps_expr (pe_ca (ca_check_most T) hr (pa_cons (pv 1) pa_nil)))
      (pss_cons (ps_set (i := 2) nd rfl (.inl rfl) (pe_ma (ma_Reach T) hr (pa_cons (pv 0) pa_nil)))
      (pss_cons (ps_set (i := 3) nd rfl (.inl rfl) (pe_me0 (me_Vault_starts T) hr (pv 0)))
      (pss_cons (ps_set (i := 4) nd rfl (.inl rfl) (pe_me0 (me_Vault_sizes T) hr (pv 0)))
      (pss_cons (ps_set (i := 5) nd rfl (.inl rfl) pe_int)
      (pss_cons (ps_while PassesOwn.never (pt_cmpR op_lt (pv 5) (pe_callB call_len_seq (by rfl) T.b_len PySem.boot_len (pa_cons (pe_fld (pv 2) rfl) pa_nil)) (nomark _)) (pss_cons (ps_set (i := 6) nd rfl (.inl rfl) (pe_ix ix_list (pe_fld (pv 2) rfl) (pv 5) (fun _ _ => rfl)))
      (pss_cons (ps_for PassesOwn.never rfl (pi_enum (by rfl) T.b_enumerate (pa_cons (pv 3) pa_nil)) (pg_two K 7 8 rfl rfl nd rfl rfl (.inl rfl) (.inl rfl) (.inr rfl) (.inr rfl)) (pss_cons (ps_expr (pe_ca (ca_put_ways T) hr (pa_cons (pv 2) (pa_cons (pv 5) (pa_cons (pv 7) (pa_cons (pe_ca (ca_ways_from T) hr (pa_cons (pv 8) (pa_cons (pv 4) (pa_cons (pv 6) pa_nil)))) pa_nil))))))
      (pss_one (ps_if (pt_cmpR op_gt (pe_callB call_len_seq (by rfl) T.b_len PySem.boot_len (pa_cons (pe_fld (pv 2) rfl) pa_nil)) (pv 1) (nomark _)) (pss_one ps_never) pss_nil))))
      (pss_one (ps_aug (i := 5) nd rfl (.inl rfl) pe_int ip_add)))))
      (pss_one (ps_ret (pv 2))))))))), ?_⟩
  have hN1 : 1 ≤ N := by have := hN 0; exact this
  refine ⟨_, rfl, most, rfl, by omega, by omega, ?_⟩
  refine ⟨_, rfl, fun r dx hr0 hdx0 ne => ?_⟩
  have s0 : Same H (upd (upd H dx (.own r)) r (.ins (He.ga K "Reach") dx [])) := (same_new hdx0).trans (same_new (by rw [upd_ne (Ne.symm ne)]; exact hr0))
  refine ⟨r, dx, p, v, rfl, upd_same, hv.same s0, gd, fun R H1 er lrs lls own nra nla b1 rc1 => ⟨rfl, ?_⟩⟩
  subst er
  have s1 : Same H H1 := fun b o e => b1 _ _ (ne_of_none e hr0) (s0 _ _ e)
  have ownH : ∀ a, R.Own a → H a = none := fun a ha => none_of s0 (own a ha)
  clear own b1 s0
  obtain ⟨dy, gs, e1, e2⟩ := (hv.same s1).me "starts"
  refine ⟨_, rfl, p, dy, gs, rfl, e1, e2, p, v, rfl, hv.same s1, gd.ok, fun sa sys H2 s2 nsa hsa lsy hst => ?_⟩
  have s12 := s1.trans s2
  have rc2 := rc1.same s2
  have nsaO : ¬ R.Own sa := rc1.none nsa
  obtain ⟨dy, gs, e1, e2⟩ := (hv.same s12).me "sizes"
  refine ⟨_, rfl, p, dy, gs, rfl, e1, e2, p, v, rfl, hv.same s12, gd.c1, fun za H3 s3 hza => ?_⟩
  have s13 := s12.trans s3
  have rc3 := rc2.same s3
  have hst3 : ∀ (i : Nat) (y : V), sys[i]? = some y → ∃ c, v.calls[i]? = some c ∧ StartAt K H3 v c y := fun i y e => by
    obtain ⟨c, h1, h2⟩ := hst i y e
    exact ⟨c, h1, h2.sameH s3⟩
  have l72 := calls_len gd.ok
  have toSame : ∀ {G G' : Hp}, Same H G → R.Kp G G' → Same H G' := fun {G G'} s k b o e => k _ _ (fun ow => by rw [ownH b ow] at e; cases e) (s _ _ e)
  refine ⟨fun m σ' H' => ∃ (k : Nat) (x6 x7 x8 : Option V), σ' = [some (.ref p), some (.int most), some (.ref R.r), some (.ref sa), some (.ref za), some (.int (k : Nat)), x6, x7, x8] ∧ Same H H' ∧ RchAt K H' R (rch v k) (1 + 216 * k) ∧ H' sa = some (.lst sys) ∧ (∀ (i : Nat) (y : V), sys[i]? = some y → ∃ c, v.calls[i]? = some c ∧ StartAt K H' v c y) ∧ H' za = some (.tup ((v.cells.map (·.1)).map .int)) ∧ k ≤ (rch v k).length ∧ m + k = N, ⟨N, 0, none, none, none, rfl, s13, rc3, s3 _ _ hsa, hst3, hza, Nat.zero_le _, by omega⟩, ?_⟩
  rintro m σ' G ⟨k, x6, x7, x8, rfl, sG, rcG, hsaG, hstG, hzaG, hk, hmk⟩
  obtain ⟨bs, f1, f2⟩ := rcG.fo
  have lb := f2.len
  have hlN := hN k
  refine ⟨_, rfl, _, rfl, R.r, _, R.dx, _, _, rfl, rcG.ins, T.c_Reach, T.n_Reach_found, rcf_found R, _, _, rfl, .inl (.of f1), _, _, rfl, rfl, _, rfl, ?_⟩
  by_cases ck : k < (rch v k).length
  case neg =>
    rw [decide_eq_false (show ¬ ((k : Nat) : Int) < ((bs.length : Nat) : Int) by omega)]
    refine iteF ⟨_, rfl, q R (1 + 216 * k) G sG ownH ?_⟩
    have e := rch_stop (v := v) (n := k) (by omega) (N - k)
    rw [show k + (N - k) = N from by omega] at e
    rw [e]
    exact rcG
  rw [decide_eq_true (show ((k : Nat) : Int) < ((bs.length : Nat) : Int) by omega)]
  obtain ⟨hs, ehs⟩ : ∃ hs, (rch v k)[k]? = some hs := ⟨_, List.getElem?_eq_getElem ck⟩
  have er := rch_some ehs
  have so := rch_so gd k hs (List.mem_of_getElem? ehs)
  obtain ⟨b, eb, hb⟩ := f2.at ehs
  have hat : atI bs ((k : Nat) : Int) = some (.ref b) := atI_nat eb
  refine iteT ⟨fun σ2 H2 => ∃ j, j < m ∧ ∃ (k : Nat) (x6 x7 x8 : Option V), σ2 = [some (.ref p), some (.int most), some (.ref R.r), some (.ref sa), some (.ref za), some (.int (k : Nat)), x6, x7, x8] ∧ Same H H2 ∧ RchAt K H2 R (rch v k) (1 + 216 * k) ∧ H2 sa = some (.lst sys) ∧ (∀ (i : Nat) (y : V), sys[i]? = some y → ∃ c, v.calls[i]? = some c ∧ StartAt K H2 v c y) ∧ H2 za = some (.tup ((v.cells.map (·.1)).map .int)) ∧ k ≤ (rch v k).length ∧ j + k = N, fun σ2 H2 ⟨j, hj, h2⟩ => ⟨j, hj, h2⟩, ?_⟩
  refine ⟨_, rfl, R.r, _, R.dx, _, _, rfl, rcG.ins, T.c_Reach, T.n_Reach_found, rcf_found R, _, rfl, _, _, _, _, rfl, rfl, .of f1, hat, ?_⟩
  refine ⟨_, rfl, sa, sys, rfl, .of hsaG, for_it (n := sys.length) walk_enum (fun j σ' H' => ∃ (x7 x8 : Option V), σ' = [some (.ref p), some (.int most), some (.ref R.r), some (.ref sa), some (.ref za), some (.int (k : Nat)), some (.ref b), x7, x8] ∧ Same H H' ∧ RchAt K H' R (visitC v hs (rch v k) (v.calls.take j)) (1 + 216 * k + 3 * j) ∧ H' sa = some (.lst sys) ∧ (∀ (i : Nat) (y : V), sys[i]? = some y → ∃ c, v.calls[i]? = some c ∧ StartAt K H' v c y) ∧ H' za = some (.tup ((v.cells.map (·.1)).map .int)) ∧ H' b = some (.tup (hs.map .int))) ⟨_, _, rfl, sG, rcG, hsaG, hstG, hzaG, hb⟩ (fun j σ' H' _ ⟨_, _, _, _, _, h, _⟩ => .of h) ?_ ?_⟩
  · rintro j x σ' G1 G2 hj ⟨_, _, rfl, sG1, rc, hsa1, hst1, hza1, hb1⟩ ⟨t, x1, x2, rfl, nt, rfl, e1, e2⟩
    cases (Option.some.inj e1)
    obtain ⟨c, hc, hsc⟩ := hst1 j x2 e2
    have hcm := List.mem_of_getElem? hc
    have hjl : j < v.calls.length := (List.getElem?_eq_some_iff.mp hc).1
    have st := same_new (o := .tup [.int (j : Nat), x2]) nt
    have ht : upd G1 t (.tup [.int (j : Nat), x2]) t = some (.tup [.int (j : Nat), x2]) := upd_same
    have rc1' := rc.same st
    have hsa2 := st _ _ hsa1
    have hza2 := st _ _ hza1
    have hb2 := st _ _ hb1
    have hsc2 := hsc.sameH st
    have hst2 : ∀ (i : Nat) (y : V), sys[i]? = some y → ∃ c, v.calls[i]? = some c ∧ StartAt K (upd G1 t (.tup [.int (j : Nat), x2])) v c y := fun i y e => by
      obtain ⟨c, h1, h2⟩ := hst1 i y e
      exact ⟨c, h1, h2.sameH st⟩
    have sG2 := sG1.trans st
    generalize upd G1 t (.tup [.int (j : Nat), x2]) = G2 at st ht rc1' hsa2 hza2 hb2 hsc2 hst2 sG2 ⊢
    refine ⟨t, _, rfl, .of ht, rfl, _, _, rfl, _, _, rfl, rfl, ?_⟩
    obtain ⟨d, hd, ed, hyd⟩ := hsc2
    obtain ⟨ya, yxs, rfl, hya, hyd2⟩ := dp_tup hyd
    obtain ⟨d2, hd2, e2', a0, a1⟩ := calls_mem hcm
    cases deed_eq gd.nd hd2 hd (e2'.symm.trans ed.symm)
    have ab := hable gd hd ⟨a0, a1⟩ so
    obtain ⟨n, hn, tr⟩ := ab.wysM
    refine ⟨_, rfl, _, rfl, _, rfl, _, rfl, _, rfl, _, rfl, ya, za, b, codeOf d.2.2, v.cells.map (·.1), hs, c.2, n, _, rfl, .tup hya hyd2, .of hza2, .of hb2, ab.mo, by omega, tr, fun z ys G3 s3 nz hz wy => ?_⟩
    rw [← hwy_of gd.nd hd ed] at wy
    have rc3 := rc1'.same s3
    have lB : (visitC v hs (rch v k) (v.calls.take j)).length ≤ N := by
      have q2 : visitC v hs (rch v k) (v.calls.take j) <+: rch v (k + 1) := by
        rw [er]
        conv => rhs; rw [← List.take_append_drop j v.calls]
        unfold visitC
        rw [List.foldl_append]
        exact visitC_pre _ _
      have := q2.length_le
      have := hN (k + 1)
      omega
    refine ⟨R, visitC v hs (rch v k) (v.calls.take j), 1 + 216 * k + 3 * j, k, j, z, ys, hwy v c hs, rfl, rc3, hz, rc1'.none nz, wy, hwy_ne gd so hcm, ways31 gd so hcm, by rw [lrs]; exact hjl, by rw [lls]; exact hjl, by omega, by omega, fun G4 k4 rc4 => ?_⟩
    rw [← visitC_snoc, ← take_more hc] at rc4
    obtain ⟨bs4, f14, f24⟩ := rc4.fo
    have lb4 := f24.len
    have lB4 : (visitC v hs (rch v k) (v.calls.take (j + 1))).length ≤ N := by
      have q2 : visitC v hs (rch v k) (v.calls.take (j + 1)) <+: rch v (k + 1) := by
        rw [er]
        conv => rhs; rw [← List.take_append_drop (j + 1) v.calls]
        unfold visitC
        rw [List.foldl_append]
        exact visitC_pre _ _
      have := q2.length_le
      have := hN (k + 1)
      omega
    refine ⟨_, rfl, R.r, _, R.dx, _, _, rfl, rc4.ins, T.c_Reach, T.n_Reach_found, rcf_found R, _, _, rfl, .inl (.of f14), _, rfl, _, _, rfl, rfl, _, rfl, ?_⟩
    rw [decide_eq_false (show ¬ most < ((bs4.length : Nat) : Int) by omega)]
    refine iteF ⟨_, _, rfl, toSame (sG2.trans s3) k4, rc4.more (by omega), k4 _ _ nsaO (s3 _ _ hsa2), fun i y e => ?_, rc3.tup k4 (s3 _ _ hza2), rc3.tup k4 (s3 _ _ hb2)⟩
    obtain ⟨c, h1, h2⟩ := hst2 i y e
    exact ⟨c, h1, (h2.sameH s3).kp rc3 k4⟩
  · rintro σ' G1 ⟨_, _, rfl, sG1, rc, hsa1, hst1, hza1, hb1⟩
    rw [lsy, List.take_length, ← er] at rc
    refine ⟨_, rfl, _, _, rfl, rfl, m - 1, by omega, k + 1, _, _, _, rfl, sG1, rc.more (by omega), hsa1, hst1, hza1, ?_, by omega⟩
    have := (rch_pre v k).length_le
    omega
end

end M

set_option Elab.async false
set_option linter.all false
set_option maxRecDepth 100000
set_option maxHeartbeats 2000000
namespace M
open PySem PySem.Spec PyProof.Rows L2

/-! ### defs with one keyword-only argument -/
structure CaK (P : Program) (w : World) (K : PySem.W.Frag) (mg : Str → Option Value) (base : Heap) (k : Nat) (x : Str) (ps : List Str) (n : Nat) (m : Str) (dv : Int) (sp : Sp) : Prop where
  ex : ∃ (f : Addr) (fd : FuncData), FnOk P w K mg base CX0 k f fd ps sp ∧ mg x = some (.ref f) ∧ PySem.W.keepIn K (.ref f) = true ∧ (∃ ds, Vals [V.int dv] ds ∧ Binds K fd ps ds) ∧ KBn K fd ps n [m] (fun us ws => us ++ ws) (fun vs zs => vs ++ zs)
section
variable {P : Program} {w : World} {K : PySem.W.Frag} {mg : Str → Option Value} {base : Heap} {x m : Str} {st : Stmt} {N ps : List Str} {k n : Nat} {dv : Int} {sp : Sp}
theorem ck_of (F : ∃ fd, FunD K x x (defArgs st) (defBody st) (defScope st) [] [(m, .int dv)] (He.fAd K (x, none)) fd) (g : mg x = some (.ref (He.ga K x))) (S : FnScope N ps (defScope st)) (l : n + 1 = ps.length)
    (hb : ∀ (D : Addr) (doc pm : Value) (an : Option Addr) (cdv ct : Value) (us ks : List Value), us.length = n → ks.length = 1 → KwChain D ([m].zip ks) (bindArgs (PySem.W.fnOf x x (defArgs st) (defBody st) (defScope st) .none (.ref D) doc pm an cdv ct) ⟨us, []⟩) (ps.zip (us ++ ks)))
    (hk : ∀ (D : Addr) (doc pm : Value) (an : Option Addr) (cdv ct : Value) (us ws : List Value), us.length = n → ws.length = 1 → bindArgs (PySem.W.fnOf x x (defArgs st) (defBody st) (defScope st) .none (.ref D) doc pm an cdv ct) ⟨us, [m].zip ws⟩ = pure (ps.zip (us ++ ws)))
    (len : ∀ vs H Q E, sp vs H Q E → vs.length = ps.length) (hbody : BodyH P w K mg base x st N k (He.fAd K (x, none)) sp) : CaK P w K mg base (k + 1) x ps n m dv sp := by
  obtain ⟨fd, F⟩ := F
  refine ⟨_, fd, F.ok S len (fun cdv A outer s H vs Q E hr h => ?_), g, F.kp, F.binds0 n (List.cons_ne_nil _ _) l hb, ?_⟩
  · obtain ⟨t, h1, h2⟩ := hbody cdv A outer s H vs Q E hr h
    exact ⟨t, h1.nox, h2⟩
  · obtain ⟨mv, h⟩ := F.kbinds0 n [m] [] (fun us _ ws => us ++ ws) (List.cons_ne_nil _ _) (fun q h => nomatch h) (fun r1 _ r3 => r1.append r3) (fun D doc pm an cdv ct us mv ws h1 _ h3 => hk D doc pm an cdv ct us ws h1 h3)
    exact h
end
section
variable {X : Cx} {x m : Str} {ps : List Str} {k n j : Nat} {dv : Int} {sp : Sp} {e : Expr} {es : List Expr} {kws : List Keyword} {t tk : TA} {p pos : Pos}
theorem pe_ck (c : CaK X.prog X.w X.K X.mg X.base k x ps n m dv sp) (hr : Room j X.A) (ha : PA X (e :: es) t) (hk : k ≤ j := by decide) (hg : Gl X x := by rfl)
    (hdb : (x == ("__debug__" : Str)) = false := by decide) (he : starEach (e :: es) X.env = (false, eval e X.env) :: starEach es X.env := by rfl) (hpl : (backTo pos (starEach es X.env)).any (·.1) = false := by rfl) :
    PE X (.Call (.Name x p) (e :: es) [] pos) (tCall sp [.int dv] E0 t) := by
  obtain ⟨f, fd, F, hm, kp, ⟨ds, hv, b⟩, _⟩ := c.ex
  exact pe_call F (hr.mono hk) hg hm kp b hv pass0 ha hdb he hpl
theorem pe_ckk (c : CaK X.prog X.w X.K X.mg X.base k x ps n m dv sp) (hr : Room j X.A) (ha : PA X (e :: es) t) (hkw : PK X kws tk) (hk : k ≤ j := by decide) (hg : Gl X x := by rfl) (hall : (backToKw pos (keywordEach kws X.env)).all (·.1.isSome) = true := by rfl) (hks : (backToKw pos (keywordEach kws X.env)).filterMap (·.1) = [m] := by rfl)
    (hdb : (x == ("__debug__" : Str)) = false := by decide) (he : starEach (e :: es) X.env = (false, eval e X.env) :: starEach es X.env := by rfl)
    (hpl : ((backTo pos (starEach (e :: es) X.env)).any (·.1) || (backToKw pos (keywordEach kws X.env)).any (·.1.isNone)) = false := by rfl) :
    PE X (.Call (.Name x p) (e :: es) kws pos) (tCallN n 1 sp (fun vs zs => vs ++ zs) E0 t tk) := by
  obtain ⟨f, fd, F, hm, kp, _, b⟩ := c.ex
  exact pe_callN F (hr.mono hk) hg hm kp b pass0 ha hkw hall hks hdb he hpl
end
section
variable {P : Program} {w : World} {K : PySem.W.Frag} {mg : Str → Option Value} {base : Heap}
def spStates (K : PySem.W.Frag) : Sp := fun vs H Q _ => ∃ (p : Addr) (v : Vlt) (N : Nat) (most : Int), vs = [.ref p, .int most] ∧ VaultAt K H p v ∧ VGood v ∧ (∀ n, (rch v n).length ≤ N) ∧ N ≤ 2000 ∧ N ≤ most ∧ most ≤ 100000 ∧
  ∀ (z : Addr) (ys : List V) (H' : Hp), Same H H' → H z = none → H' z = some (.lst ys) → StsAt H' ys (rch v N) → Q (.ref z) H'
theorem ck_states (T : Txt w K mg) : CaK P w K mg base 14 "states" ["vault", "most"] 1 "most" 2000 (spStates K) := by
  refine ck_of (st := s_states) (N := ["vault", "most"]) (ps := ["vault", "most"]) T.f_states T.g_states ⟨rfl, rfl, rfl, by decide +kernel, rfl, by decide +kernel, by decide +kernel⟩ rfl (fun _ _ _ _ _ _ us ks h1 h2 => match us, ks, h1, h2 with | [_], [_], _, _ => by refine ⟨_, _, _, _, _, _, rfl, rfl, ?_⟩; exact rfl) (fun _ _ _ _ _ _ us ks h1 h2 => match us, ks, h1, h2 with | [_], [_], _, _ => rfl)
    (fun vs H Q E h => by obtain ⟨p, v, N, most, rfl, hv, gd, hN, hN2, hNm, hm, q⟩ := h; rfl) (fun cdv A outer s H vs Q E hr h => ?_)
  have nd : (["vault", "most"] : List Str).Nodup := by decide +kernel
  obtain ⟨p, v, N, most, rfl, hv, gd, hN, hN2, hNm, hm, q⟩ := h
  refine ⟨_, (pss_one (ps_ret (pe_callTy call_list_of (by rfl) T.b_list boot_list (pa_cons (pe_fld (pe_ca (ca_reach_of T) hr (pa_cons (pv 0) (pa_cons (pv 1) pa_nil))) rfl) pa_nil)))), ?_⟩
  refine ⟨_, rfl, _, rfl, p, v, N, most, rfl, hv, gd, hN, hN2, hNm, hm, fun R B H1 s1 own rc => ?_⟩
  obtain ⟨bs, f1, f2⟩ := rc.fo
  refine ⟨R.r, _, R.dx, _, _, rfl, rc.ins, T.c_Reach, T.n_Reach_found, rcf_found R, R.fo, bs, rfl, .inl (.of f1), fun z nz => ?_⟩
  have s2 := same_new (o := .lst bs) nz
  exact q z bs _ (s1.trans s2) (none_of s1 nz) upd_same (f2.imp fun _ _ => s2 _ _)
end

end M

set_option Elab.async false
set_option linter.all false
set_option maxRecDepth 100000
set_option maxHeartbeats 2000000
namespace M
open PySem PySem.Spec PyProof.Rows L2

/-! ### the text of data -/
def rReprD (K : PySem.W.Frag) : List V → Hp → VK → Prop := fun xs H Q => ∃ (a : Addr) (d : PyData), xs = [.ref a] ∧ Dp K H (.ref a) d ∧ d.showable = true ∧ d.hasDict = false ∧ d.depth ≤ 8 ∧ d.shown.length ≤ sizeLine ∧ Q (.str d.shown) H
theorem call_reprD {X : Cx} (hg : X.A.guards = some []) (hu : X.A.units + 64 < cLine) : CallR X (.builtin "repr") (rReprD X.K) := by
  intro ps s σ H xs us Q I r h
  obtain ⟨a, d, rfl, hd, hs, hn, hdp, hz, q⟩ := h
  obtain ⟨u, rfl, ru⟩ := vals1 r
  cases ru
  obtain ⟨as, r1⟩ := Dp.reads I d _ _ hd rfl
  exact repr_of_reads' r1 hs (PyData.noDict_hsm hn) hg (by omega) (fun _ _ e => e) (fun h' u tk hk => ⟨.str _, H, I.kept hk, ⟨_, rfl⟩, q⟩) hz
/-! ### a def that asks for the text of data: it is called where no text is being made -/
structure FnG (P : Program) (w : World) (K : PySem.W.Frag) (mg : Str → Option Value) (base : Heap) (k : Nat) (f : Addr) (ps : List Str) (sp : Sp) : Prop where
  run : ∀ (A : Around) (outer : List Env) (z : Shared) (H : Hp) (g : Args) (us : List Value) (xs : List V) (fd : FuncData) (Q : VK) (E : XK), A.guards = some [] → Room k A → Env0 P w K mg base A outer z H → BindsTo z fd g (ps.zip us) → (∃ oc od osl, K.lookup f = some ⟨oc, od, .func fd, osl⟩) → Vals xs us → sp xs H Q E →
    codeAny (model P w) A (.call (.ref f) g) (CR CX0 outer P w H z Q E) z
abbrev BodyG (P : Program) (w : World) (K : PySem.W.Frag) (mg : Str → Option Value) (base : Heap) (q : Str) (st : Stmt) (N : List Str) (k : Nat) (f : Addr) (sp : Sp) : Prop := ∀ (cdv : Value) (A : Around) (outer : List Env) (z : Shared) (H : Hp) (xs : List V) (Q : VK) (E : XK), A.guards = some [] → Room k (A.deeper (envOfC q (defScope st) z.heap.objs.size f cdv)) → sp xs H Q E →
  ∃ t, PSs (cxOf CX0 P w K mg base N q (defScope st) f cdv A outer z H E).nox (defBody st) t ∧ t { nx := fun _ G => Q .non G, rt := Q } (start N xs) H
section
variable {P : Program} {w : World} {K : PySem.W.Frag} {mg : Str → Option Value} {base : Heap} {x q : Str} {st : Stmt} {N ps : List Str} {k : Nat} {sp : Sp} {f : Addr}
theorem fnG_d {fd0 : FuncData} (F : FunD K x q (defArgs st) (defBody st) (defScope st) [] [] f fd0) (S : FnScope N ps (defScope st)) (len : ∀ xs H Q E, sp xs H Q E → xs.length = ps.length) (body : BodyG P w K mg base q st N k f sp) : FnG P w K mg base (k + 1) f ps sp := by
  obtain ⟨oc, od, dV, kV, doc, pm, an, cdv, ct, osl, rfl, look, hcode, _, _⟩ := F.ex
  constructor
  intro A outer z H g us xs fd Q E gd room env bound ⟨oc1, od1, osl1, look1⟩ rel said
  cases (Option.some.inj (look.symm.trans look1))
  have nl := len _ _ _ _ said
  have kin : K.In z.heap := env.mod.kin.keeps fun a u j => (env.bs a u j).1
  have lim : z.heap.NoLimit := env.mod.nolimit.keeps fun a u j => (env.bs a u j).1
  refine codeAny_call_function room.depth (kin _ _ look) rfl S.co S.gen rfl (PySem.W.codeRec_of kin hcode) (bound _ _ _ _ ?_)
  refine wpAny_newFunctionEnv_cells S.kind ?_ fun env' eq z1 made => ?_
  · rintro ⟨n, y⟩ hy
    rcases S.par n (List.of_mem_zip hy).1 with j | j
    · left; exact j
    · right; exact ⟨j, PySem.W.cellsFrom_some _ _ _ (Or.inl j)⟩
  subst eq
  refine ⟨lim.keeps made.toInCall.keep, codeAny_func ?_⟩
  obtain ⟨t, p1, p2⟩ := body cdv A outer z H xs Q E gd (room.deeper _) said
  have I : Inv (cxOf CX0 P w K mg base N q (defScope st) f cdv A outer z H E) [] (start N xs) H z1 := inv_start S room.hd env nl rel made
  refine wpAny_mono (p1.nox.run [] z1 (start N xs) H _ I p2) ?_ (fun e z2 j => j)
  intro fl z2 j
  cases fl with
  | ret u =>
    obtain ⟨y, σ', G, J, ry, hq⟩ := j
    exact ⟨y, G, J.os, J.bare, J.base, J.hok, ry, hq⟩
  | next =>
    obtain ⟨σ', G, J, hq⟩ := j
    exact ⟨V.non, G, J.os, J.bare, J.base, J.hok, rfl, hq⟩
  | brk => obtain ⟨_, _, _, hq⟩ := j; exact hq.elim
  | cont => obtain ⟨_, _, _, hq⟩ := j; exact hq.elim
end

end M

set_option Elab.async false
set_option linter.all false
set_option maxRecDepth 100000
set_option maxHeartbeats 2000000
namespace M
open PySem PySem.Spec PyProof.Rows L2

/-! ### the law's call, no text being made -/
theorem FunD.looked {K : PySem.W.Frag} {x q : Str} {st : Stmt} {f : Addr} {fd : FuncData} (F : FunD K x q (defArgs st) (defBody st) (defScope st) [] [] f fd) : ∃ oc od osl, K.lookup f = some ⟨oc, od, .func fd, osl⟩ := by
  obtain ⟨oc, od, _, _, _, _, _, _, _, osl, rfl, lk, _⟩ := F.ex
  exact ⟨oc, od, osl, lk⟩
section
variable {P : Program} {w : World} {K : PySem.W.Frag} {mg mb : Str → Option Value} {k : Nat} {fa a : Addr} {fd : FuncData} {x : Str} {sp : Sp} {z : Shared} {vs : List Value} {ns : List Int}
/-- what is asked of the state behind -/
abbrev TopOk (z : Shared) (r : Result) (z' : Shared) : Prop := r = .ok (.ret (.bool true)) ∧ OldK z.heap z'.heap ∧ z'.os = z.os ∧ AllBare z'.gens
structure TopAt (K : PySem.W.Frag) (mg mb : Str → Option Value) (z : Shared) (a : Addr) (vs : List Value) (ns : List Int) : Prop where
  kin : K.In z.heap
  top : z.heap.Ns mainGlobals mg
  blt : z.heap.Ns builtinsNs mb
  boot : ∀ y : Str, y ≠ "__name__" → mb y = bootBuiltins y
  lim : z.heap.NoLimit
  gens : z.gens = #[]
  obj : z.heap.get? a = some { cls := .type "list", data := .seq vs.toArray }
  nums : IntsAre vs ns
  few : ns.length ≤ sizeLine
/-- from a heap in which the script alone may be tracked -/
theorem TopAt.core (t : TopAt K mg mb z a vs ns) (room : Room k callerA) (F : ∀ base : Heap, K.In base → base.Ns mainGlobals mg → FnG P w K mg base k fa [x] sp) (lk : ∃ oc od osl, K.lookup fa = some ⟨oc, od, .func fd, osl⟩) (bd : ∀ (s : Shared) (u : Value), BindsTo s fd ⟨[u], []⟩ [(x, u)])
    {H : Hp} (only : Only H) (said : sp [.ref a] H (fun v _ => v = .bl true) fun _ _ _ => False) (hok : HOk P w H z.heap) (at_a : ∀ b, H b ≠ none → b = a) (hid : H a ≠ none → K.lookup a = none) : codeAny (model P w) callerA (.call (.ref fa) ⟨[.ref a], []⟩) (TopOk z) z := by
  have other : ∀ {b : Addr}, (∃ u, H b = some u) → b = a := fun {b} ⟨u, q⟩ => at_a b (by rw [q]; exact fun c => nomatch c)
  have noD : ∀ {b : Addr} {o : Obj} {es : Array DictEntry} {n : Nat}, z.heap.get? b = some o → o.data = .dict es n → H b = none := by
    intro b o es n h1 h2
    rcases Option.eq_none_or_eq_some (H b) with q | ⟨u, q⟩
    · exact q
    · rw [other ⟨u, q⟩, t.obj] at h1
      rw [← Option.some.inj h1] at h2
      cases (show Data.seq vs.toArray _ = Data.dict es n from h2)
  have nsB : ∀ {b : Addr} {m : Str → Option Value}, z.heap.Ns b m → (hidT z.heap H).Ns b m := by
    rintro b m ⟨o, es, n, h1, h2, h3⟩
    exact ⟨o, es, n, hidT_get h1 (noD h1 h2), h2, h3⟩
  have kinB : K.In (hidT z.heap H) := by
    intro b o h1
    refine hidT_get (t.kin b o h1) ?_
    rcases Option.eq_none_or_eq_some (H b) with q | ⟨u, q⟩
    · exact q
    · have eb := other ⟨u, q⟩
      subst eb
      rw [hid (by rw [q]; exact fun c => nomatch c)] at h1
      cases h1
  obtain ⟨mc, l1, l2⟩ := t.lim
  have md : Mod K mg (hidT z.heap H) := ⟨kinB, nsB t.top, ⟨mb, nsB t.blt, t.boot⟩, ⟨mc, nsB l1, l2⟩⟩
  have env : Env0 P w K mg (hidT z.heap H) callerA [] z H := ⟨rfl, md, fun b o j => of_hidT j, Nat.le_of_eq (hidT_size _ _), trivial, (fun b hb => nomatch (show b ∈ ([] : List Addr) from hb)), hok, .of_eq t.gens⟩
  refine codeAny_mono ((F _ kinB (nsB t.top)).run callerA [] z H _ [.ref a] [.ref a] fd _ _ rfl room env (bd z (.ref a)) lk (.cons rfl .nil) said) ?_
  intro r z' h
  cases r with
  | error e => exact False.elim h
  | ok fl =>
    cases fl with
    | next => exact h.elim
    | brk => exact h.elim
    | cont => exact h.elim
    | ret u =>
      obtain ⟨y, H', sameOs, bare, un, hok', ry, q⟩ := h
      cases (show y = .bl true from q)
      cases (show u = Value.bool true from ry)
      refine ⟨rfl, OldK.of_keep ?_, sameOs, bare⟩
      intro b o h1
      rcases Option.eq_none_or_eq_some (H b) with q | ⟨u, q⟩
      · exact un.keep b o h1 q (fun c => nomatch (show b ∈ ([] : List Addr) from c)) (by simp)
      · rcases only b with j | ⟨ob, ys, j⟩
        · rw [q] at j
          cases j
        · have e1 := (hok b _ j).1
          have e2 := (hok' b _ (un.frzs b ob _ j)).1
          rw [h1] at e1
          rw [Option.some.inj e1]
          exact e2
theorem TopAt.call (t : TopAt K mg mb z a vs ns) (room : Room k callerA) (F : ∀ base : Heap, K.In base → base.Ns mainGlobals mg → FnG P w K mg base k fa [x] sp) (lk : ∃ oc od osl, K.lookup fa = some ⟨oc, od, .func fd, osl⟩) (bd : ∀ (s : Shared) (u : Value), BindsTo s fd ⟨[u], []⟩ [(x, u)])
    (said : ∀ H : Hp, Only H → SqL K H a (ns.map V.int) → sp [.ref a] H (fun v _ => v = .bl true) fun _ _ _ => False) : codeAny (model P w) callerA (.call (.ref fa) ⟨[.ref a], []⟩) (TopOk z) z := by
  have rel := vals_ints t.nums
  rcases Option.eq_none_or_eq_some (K.lookup a) with q | ⟨o, q⟩
  · have only : Only (upd (fun _ => none) a (.frz { cls := .type "list", data := .seq vs.toArray } (.lst (ns.map V.int)))) := fun b => by
      by_cases c : b = a
      · rw [c]
        exact .inr ⟨_, _, upd_same⟩
      · left
        exact upd_ne c
    refine t.core room F lk bd only (said _ only (.inl (.inr ⟨_, upd_same⟩))) ?_ ?_ (fun _ => q)
    · intro b u j
      by_cases c : b = a
      · subst c
        rw [upd_same] at j
        cases (Option.some.inj j)
        exact ⟨t.obj, by rw [List.length_map]; exact t.few, vs, _, rel, t.obj⟩
      · rw [upd_ne c] at j
        cases j
    · intro b j
      by_cases c : b = a
      · exact c
      · exact absurd (upd_ne c) j
  · have e := t.kin a o q
    rw [t.obj] at e
    cases e
    have only : Only fun _ => none := fun _ => .inl rfl
    exact t.core room F lk bd only (said _ only (.inr ⟨_, vs.toArray, _, q, rfl, rfl, rfl, by rw [List.size_toArray, t.nums.length]; exact t.few, by simpa using rel⟩)) (fun b u j => nomatch (show (none : Option HO) = some u from j)) (fun b j => absurd rfl j) (fun j => absurd rfl j)
end
theorem walk_G {l : PySem.W.OpenLaw} {n k : Nat} {q : Program} {loose : List Str} {XP : (Str → Option Value) → Heap → Prop} {YP : World → Heap → Prop} {d : DefRec} {x : Str} (most : l.most = some n) (few : n ≤ sizeLine) (plain : d.params.defaults = []) (room : Room k callerA)
    (F : ∀ (w : World) (mg : Str → Option Value) (fa : Addr) (h : Heap), YP w h → h.Ns mainGlobals mg → mg d.name = some (.ref fa) →
      ∃ (K : PySem.W.Frag) (fd : FuncData) (sp : Sp), K.In h ∧ (∀ (s : Shared) (u : Value), BindsTo s fd ⟨[u], []⟩ [(x, u)]) ∧ (∃ oc od osl, K.lookup fa = some ⟨oc, od, .func fd, osl⟩) ∧
        (∀ (H : Hp) (a : Addr) (ns : List Int), ns.length ≤ n → Only H → SqL K H a (ns.map V.int) → sp [.ref a] H (fun v _ => v = .bl true) fun _ _ _ => False) ∧ ∀ base : Heap, K.In base → base.Ns mainGlobals mg → FnG l.prog w K mg base k fa [x] sp) :
    PySem.W.WalkO q loose XP YP l.row.toRowW d [] (fun f vs => PySem.call f vs) := by
  refine Att.attach_call most plain ?_
  intro w s₀ z mg mb fa o pm cd doc a vs ns G Y _ _ _ named obj nms len gens
  obtain ⟨K, fd, sp, kin, bd, lk, said, fn⟩ := F w mg fa _ Y G.T.g named
  exact TopAt.call ⟨kin, G.T.g, G.T.b, G.T.builtins, G.T.nolimit, gens, obj, nms, Nat.le_trans len few⟩ room fn lk bd fun H o1 o2 => said H a ns len o1 o2

end M

set_option Elab.async false
set_option linter.all false
set_option maxRecDepth 100000
set_option maxHeartbeats 2000000
namespace M
open PySem PySem.Spec PyProof.Rows L2

/-! ### the text of a list of states -/
theorem ints_shown : ∀ s : List Int, (∀ i ∈ s, 0 ≤ i ∧ i ≤ 9) → ((PyData.shownAll (s.map .int)).map (·.length)).sum ≤ 13 * s.length ∧ (PyData.shownAll (s.map .int)).length = s.length ∧ PyData.showableAll (s.map .int) = true ∧ PyData.hasDictAll (s.map .int) = false ∧ PyData.depthAll (s.map .int) = 0
  | [], _ => ⟨Nat.le_refl 0, rfl, rfl, rfl, rfl⟩
  | i :: r, h => by
    obtain ⟨a, b, c, d, e⟩ := ints_shown r fun j hj => h j (List.mem_cons_of_mem _ hj)
    have hi := h i List.mem_cons_self
    have l13 := PyData.shown_int_le (i := i) (by omega)
    rw [List.map_cons, PyData.shownAll, PyData.showableAll, PyData.hasDictAll, PyData.depthAll, List.map_cons, List.sum_cons, List.length_cons, List.length_cons, b, c, d, e]
    refine ⟨by omega, rfl, ?_, ?_, ?_⟩
    · rw [Bool.and_true, PyData.showable]
      refine decide_eq_true ?_
      have : i = 0 ∨ i = 1 ∨ i = 2 ∨ i = 3 ∨ i = 4 ∨ i = 5 ∨ i = 6 ∨ i = 7 ∨ i = 8 ∨ i = 9 := by omega
      rcases this with rfl | rfl | rfl | rfl | rfl | rfl | rfl | rfl | rfl | rfl <;> decide
    · rfl
    · rfl
theorem sts_shown : ∀ l : List (List Int), (∀ s ∈ l, s.length ≤ 6 ∧ ∀ i ∈ s, 0 ≤ i ∧ i ≤ 9) → ((PyData.shownAll (l.map tupI)).map (·.length)).sum ≤ 100 * l.length ∧ (PyData.shownAll (l.map tupI)).length = l.length ∧ PyData.showableAll (l.map tupI) = true ∧ PyData.hasDictAll (l.map tupI) = false ∧ PyData.depthAll (l.map tupI) ≤ 1
  | [], _ => ⟨Nat.le_refl 0, rfl, rfl, rfl, Nat.zero_le _⟩
  | s :: r, h => by
    obtain ⟨a, b, c, d, e⟩ := sts_shown r fun j hj => h j (List.mem_cons_of_mem _ hj)
    obtain ⟨l6, hs⟩ := h s List.mem_cons_self
    obtain ⟨a1, b1, c1, d1, e1⟩ := ints_shown s hs
    have t1 : (tupI s).shown.length ≤ 100 := by
      unfold tupI
      rw [PyData.shown]
      have := tupleText_len_le (PyData.shownAll (s.map .int))
      omega
    have t2 : (tupI s).showable = true := by
      unfold tupI
      rw [PyData.showable]
      exact c1
    have t3 : (tupI s).hasDict = false := by
      unfold tupI
      rw [PyData.hasDict]
      exact d1
    have t4 : (tupI s).depth ≤ 1 := by
      unfold tupI
      rw [PyData.depth, e1]
      exact Nat.le_refl 1
    rw [List.map_cons, PyData.shownAll, PyData.showableAll, PyData.hasDictAll, PyData.depthAll, List.map_cons, List.sum_cons, List.length_cons, List.length_cons, b, c, d, t2, t3]
    exact ⟨by omega, rfl, rfl, rfl, Nat.max_le.mpr ⟨t4, e⟩⟩
theorem list_shown {l : List (List Int)} (h : ∀ s ∈ l, s.length ≤ 6 ∧ ∀ i ∈ s, 0 ≤ i ∧ i ≤ 9) (n : l.length ≤ 1000) : (PyData.list (l.map tupI)).showable = true ∧ (PyData.list (l.map tupI)).hasDict = false ∧ (PyData.list (l.map tupI)).depth ≤ 8 ∧ (PyData.list (l.map tupI)).shown.length ≤ sizeLine := by
  obtain ⟨a, b, c, d, e⟩ := sts_shown l h
  refine ⟨by rw [PyData.showable]; exact c, by rw [PyData.hasDict]; exact d, by rw [PyData.depth]; omega, ?_⟩
  rw [PyData.shown, sizeLine_eq]
  have := listText_len_le (PyData.shownAll (l.map tupI))
  omega
theorem so_bits {cs : List (Int × Int)} (ok : ∀ c ∈ cs, CellOk c) {s : List Int} (so : StateOk (cs.map (·.1)) s) (l6 : cs.length ≤ 6) : s.length ≤ 6 ∧ ∀ i ∈ s, 0 ≤ i ∧ i ≤ 9 := by
  have l := so.1
  rw [List.length_map] at l
  refine ⟨by omega, fun i hi => ?_⟩
  obtain ⟨j, hj, rfl⟩ := List.mem_iff_getElem.mp hi
  have hj2 : j < cs.length := by omega
  have z := so.2 j (cs[j]).1 s[j] (by rw [List.getElem?_map, List.getElem?_eq_getElem hj2]; rfl) (List.getElem?_eq_getElem hj)
  have k := ok _ (List.getElem_mem hj2)
  have := k.2.1
  omega
/-! ### a drawn vault, with further cells -/
theorem VB.more {v : Vlt} (b : VB v) {cs : List (Int × Int)} (l3 : cs.length ≤ 3) (ok : ∀ c ∈ cs, CellOk c) : VGood ⟨v.cells ++ cs, v.deeds⟩ := by
  have h1 := b.c1
  have h3 := b.c3
  have h4 := b.d4
  refine ⟨by show 1 ≤ (v.cells ++ cs).length; rw [List.length_append]; omega, by show (v.cells ++ cs).length ≤ 6; rw [List.length_append]; omega, fun c hc => ?_, b.d0, by show v.deeds.length ≤ 8; omega, fun d hd => ?_, b.nd⟩
  · rcases List.mem_append.mp hc with h | h
    · exact b.cs c h
    · exact ok c h
  · obtain ⟨k1, k2, k3, k4, k5⟩ := b.ds d hd
    exact ⟨k1, k2, oks_mono (by show (v.cells.length : Int) ≤ ((v.cells ++ cs).length : Nat); rw [List.length_append]; omega) k3, k4, k5⟩
theorem fit_rch {v u : Vlt} (b : VB v) (g : VGood u) (ed : u.deeds = v.deeds) (pre : v.cells.map (·.1) <+: u.cells.map (·.1)) (n : Nat) : (rch u n).length ≤ 60 := by
  have z := fit_len (cs0 := v.cells) (ss := u.cells.map (·.1)) (rest := (u.cells.map (·.2)).drop v.cells.length) b.cs pre (rch_nd u n) (rch_all (P := HFit v.cells (u.cells.map (·.1)) ((u.cells.map (·.2)).drop v.cells.length)) ⟨hfirst_so g, rfl⟩ (fun hs ⟨so, hd⟩ c hc w hw => ⟨hwy_so g so hc hw, ?_⟩) n)
  · have := b.sz
    omega
  · obtain ⟨d, hdd, e, h0, h1⟩ := calls_mem hc
    rw [hwy_of g.nd hdd e.symm] at hw
    obtain ⟨_, _, _, _, h⟩ := (hable g hdd ⟨h0, h1⟩ so).wys
    obtain ⟨_, s, o, t, rs, _, ec⟩ := h w hw
    rw [ed] at hdd
    have k := keep_rows (c := (v.cells.length : Nat)) rs (b.ds d hdd).2.2.1
    rw [Int.toNat_natCast] at k
    rw [← ec, k]
    exact hd

end M

set_option Elab.async false
set_option linter.all false
set_option maxRecDepth 100000
set_option maxHeartbeats 2000000
namespace M
open PySem PySem.Spec PyProof.Rows L2

theorem rch_full {u : Vlt} (h : ∀ n, (rch u n).length ≤ 60) : (∀ n, (rch u n).length ≤ (rch u 100).length) ∧ rch u (rch u 100).length = rch u 100 := by
  have a : ∀ n, (rch u n).length ≤ (rch u 100).length := fun n => by
    by_cases c : n ≤ 100
    · have := (rch_mono u (n := n) (100 - n)).length_le
      rw [show n + (100 - n) = 100 from by omega] at this
      exact this
    · have := rch_stop (v := u) (n := 100) (by have := h 100; omega) (n - 100)
      rw [show 100 + (n - 100) = n from by omega] at this
      rw [this]
      exact Nat.le_refl _
  refine ⟨a, ?_⟩
  have h1 := h 100
  have := rch_stop (v := u) (n := (rch u 100).length) (a _) (100 - (rch u 100).length)
  rw [show (rch u 100).length + (100 - (rch u 100).length) = 100 from by omega] at this
  exact this.symm
theorem metW_mem : ∀ (ws : List (List Int × Int × List Int)) {l : List (List Int)} {w : List Int × Int × List Int}, w ∈ ws → w.2.2 ∈ metW l ws
  | [], _, _, h => nomatch h
  | u :: ws, l, w, h => by
    rcases List.mem_cons.mp h with rfl | h
    · refine (metW_pre ws (met l w.2.2)).mem ?_
      unfold met
      split
      · assumption
      · exact List.mem_append_right _ List.mem_cons_self
    · exact metW_mem ws h
theorem visitC_mem {v : Vlt} {hs : List Int} : ∀ (cs : List (Str × Int)) {l : List (List Int)} {c : Str × Int} {w : List Int × Int × List Int}, c ∈ cs → w ∈ hwy v c hs → w.2.2 ∈ visitC v hs l cs
  | [], _, _, _, h, _ => nomatch h
  | e :: cs, l, c, w, h, k => by
    rcases List.mem_cons.mp h with rfl | h
    · exact (visitC_pre cs _).mem (metW_mem _ k)
    · exact visitC_mem cs h k
/-- what can come of a state that can come, can come -/
theorem rch_closed {v : Vlt} {N : Nat} (h : (rch v N).length ≤ N) {hs : List Int} (hm : hs ∈ rch v N) {c : Str × Int} (hc : c ∈ v.calls) {w : List Int × Int × List Int} (hw : w ∈ hwy v c hs) : w.2.2 ∈ rch v N := by
  obtain ⟨i, hi, e⟩ := List.mem_iff_getElem.mp hm
  have ei : (rch v N)[i]? = some hs := by rw [List.getElem?_eq_getElem hi, e]
  have k1 := rch_mono v (n := i) (N - i)
  rw [show i + (N - i) = N from by omega] at k1
  have k2 := rch_mono v (n := i + 1) (N - (i + 1))
  rw [show i + 1 + (N - (i + 1)) = N from by omega] at k2
  by_cases c1 : i < (rch v i).length
  · have e2 : (rch v i)[i]? = some hs := by
      obtain ⟨t, et⟩ := k1
      rw [← et, List.getElem?_append_left c1] at ei
      exact ei
    refine k2.mem ?_
    rw [rch_some e2]
    exact visitC_mem _ hc hw
  · have st := rch_stop (v := v) (n := i) (by omega) (N - i)
    rw [show i + (N - i) = N from by omega] at st
    rw [st] at hi
    exact absurd hi c1
theorem hwy_begun {u : Vlt} {st : List Int} (so : StateOk (u.cells.map (·.1)) st) (c : Str × Int) (hs : List Int) : hwy ⟨begunC u st, u.deeds⟩ c hs = hwy u c hs := by
  unfold hwy
  rw [show (begunC u st).map (·.1) = u.cells.map (·.1) from begunC_fst so]
theorem rch_begun {u : Vlt} {N : Nat} (h : (rch u N).length ≤ N) {st : List Int} (so : StateOk (u.cells.map (·.1)) st) (hm : st ∈ rch u N) (n : Nat) : (rch ⟨begunC u st, u.deeds⟩ n).length ≤ (rch u N).length := by
  refine hNodup_len (rch_nd _ n) (rch_all (P := fun x => x ∈ rch u N) ?_ (fun hs hh c hc w hw => ?_) n)
  · show (begunC u st).map (·.2) ∈ rch u N
    rw [begunC_snd so]
    exact hm
  · rw [hwy_begun so] at hw
    exact rch_closed h hh hc hw
section
variable {P : Program} {w : World} {K : PySem.W.Frag} {mg : Str → Option Value} {base : Heap}
def spLaw (K : PySem.W.Frag) : Sp := fun vs H Q _ => ∃ (t : Addr) (ns : List Int), vs = [.ref t] ∧ SqL K H t (ns.map .int) ∧ ns.length ≤ 63 ∧ ∀ H', Q (.bl true) H'
theorem ok_law {fd : FuncData} (T : Txt w K mg) (F : FunD K "law" "law" (defArgs s_law) (defBody s_law) (defScope s_law) [] [] (He.fAd K ("law", none)) fd) : FnG P w K mg base 57 (He.fAd K ("law", none)) ["_law_script"] (spLaw K) := by
  refine fnG_d (N := ["_law_script", "_law_box_here", "_law_place", "_law_shape", "_law_vault_here", "_law_due", "_law_start", "_law_later", "_law_due_later", "_law_told"]) (ps := ["_law_script"]) F ⟨rfl, rfl, rfl, by decide +kernel, rfl, by decide +kernel, by decide +kernel⟩
    (fun vs H Q E h => by obtain ⟨t, ns, rfl, ht, hl, q⟩ := h; rfl) (fun cdv A outer s H vs Q E gd hr h => ?_)
  have nd : (["_law_script", "_law_box_here", "_law_place", "_law_shape", "_law_vault_here", "_law_due", "_law_start", "_law_later", "_law_due_later", "_law_told"] : List Str).Nodup := by decide +kernel
  obtain ⟨t, ns, rfl, ht, hl, q⟩ := h
  refine ⟨_, (pss_cons (ps_set (i := 1) nd rfl (.inl rfl) (pe_ca (ca_l_box T) hr (pa_cons (pv 0) pa_nil)))
      (pss_cons (ps_set (i := 2) nd rfl (.inl rfl) (pe_ca (ca_l_draw T) hr (pa_cons (pv 1) (pa_cons pe_int pa_nil))))
      (pss_cons (ps_set (i := 3) nd rfl (.inl rfl) (pe_ca (ca_l_more T) hr (pa_cons (pv 1) (pa_cons (pe_ca (ca_l_vault T) hr (pa_cons (pv 1) (pa_cons (pe_ca (ca_l_draw T) hr (pa_cons (pv 1) (pa_cons pe_int pa_nil))) pa_nil))) pa_nil))))
      (pss_cons (ps_set (i := 4) nd rfl (.inl rfl) (pe_ma (ma_Vault T) hr (pa_cons (pe_callTy call_list_of (by rfl) T.b_list boot_list (pa_cons (pe_ix ix_tup (pv 3) pe_int (fun _ _ => rfl)) pa_nil)) (pa_cons (pe_callTy call_list_of (by rfl) T.b_list boot_list (pa_cons (pe_ix ix_tup (pv 3) pe_int (fun _ _ => rfl)) pa_nil)) pa_nil))))
      (pss_cons (ps_set (i := 5) nd rfl (.inl rfl) (pe_ix ix_tup (pe_ca (ca_l_found T) hr (pa_cons (pv 3) pa_nil)) pe_int (fun _ _ => rfl)))
      (pss_cons (ps_set (i := 6) nd rfl (.inl rfl) (pe_ix ix_list (pv 5) (pe_op op_mod (pe_callTy call_int1 (by rfl) T.b_int boot_int (pa_cons (pv 2) pa_nil)) (pe_callB call_len_seq (by rfl) T.b_len PySem.boot_len (pa_cons (pv 5) pa_nil))) (fun _ _ => rfl)))
      (pss_cons (ps_set (i := 7) nd rfl (.inl rfl) (pe_ca (ca_begun T) hr (pa_cons (pv 4) (pa_cons (pv 6) pa_nil))))
      (C8.pss_cut (ps_set (i := 8) nd rfl (.inl rfl) (pe_ix ix_tup (pe_ca (ca_l_found T) hr (pa_cons (pe_ca (ca_l_begun T) hr (pa_cons (pv 3) (pa_cons (pv 6) pa_nil))) pa_nil)) pe_int (fun _ _ => rfl)))
      (pss_cons (ps_set (i := 9) nd rfl (.inl rfl) (pe_ck (ck_states T) hr (pa_cons (pv 4) pa_nil)))
      (pss_cons (ps_if (pt_cmpR op_ne (pe_callB (call_reprD gd hr.units) (by rfl) T.b_repr PyProof.Rows.boot_repr (pa_cons (pv 9) pa_nil)) (pe_callB (call_reprD gd hr.units) (by rfl) T.b_repr PyProof.Rows.boot_repr (pa_cons (pv 5) pa_nil)) (nomark _)) (pss_one (ps_ret pe_bl)) pss_nil)
      (pss_cons (ps_expr (pe_bm PySem.F.plainAttrs_list PySem.F.slot_list_append PySem.F.type_list_append mt_append (pv 9) (pa_cons (pv 6) pa_nil)))
      (pss_cons (ps_asg pe_non (pg_sub (pv 9) pe_int set_list))
      (pss_cons (ps_set (i := 9) nd rfl (.inl rfl) (pe_ck (ck_states T) hr (pa_cons (pv 7) pa_nil)))
      (pss_cons (ps_if (pt_cmpR op_ne (pe_callB (call_reprD gd hr.units) (by rfl) T.b_repr PyProof.Rows.boot_repr (pa_cons (pv 9) pa_nil)) (pe_callB (call_reprD gd hr.units) (by rfl) T.b_repr PyProof.Rows.boot_repr (pa_cons (pv 8) pa_nil)) (nomark _)) (pss_one (ps_ret pe_bl)) pss_nil)
      (pss_cons (ps_expr (pe_bm0 PySem.F.plainAttrs_list PySem.F.slot_list_clear PySem.F.type_list_clear mt_clear (pv 9)))
      (pss_cons (ps_if (pt_cmpR op_ne (pe_callB (call_reprD gd hr.units) (by rfl) T.b_repr PyProof.Rows.boot_repr (pa_cons (pe_ckk (ck_states T) hr (pa_cons (pv 4) pa_nil) (pk_cons (pe_callB call_len_seq (by rfl) T.b_len PySem.boot_len (pa_cons (pv 5) pa_nil)) pk_nil)) pa_nil)) (pe_callB (call_reprD gd hr.units) (by rfl) T.b_repr PyProof.Rows.boot_repr (pa_cons (pv 5) pa_nil)) (nomark _)) (pss_one (ps_ret pe_bl)) pss_nil)
      (pss_one (ps_ret (pe_cmpR op_eq (pe_callB (call_reprD gd hr.units) (by rfl) T.b_repr PyProof.Rows.boot_repr (pa_cons (pe_ckk (ck_states T) hr (pa_cons (pv 7) pa_nil) (pk_cons (pe_callB call_len_seq (by rfl) T.b_len PySem.boot_len (pa_cons (pv 5) pa_nil)) pk_nil)) pa_nil)) (pe_callB (call_reprD gd hr.units) (by rfl) T.b_repr PyProof.Rows.boot_repr (pa_cons (pv 8) pa_nil)) (nomark _)))))))))))))))))))), ?_⟩
  refine ⟨_, rfl, t, ns, rfl, ht, hl, fun a l H1 s1 na nl hb => ?_⟩
  refine ⟨_, rfl, a, l, 97, rfl, hb, by omega, fun place H2 b2 p2 hpl => ?_⟩
  refine ⟨_, rfl, _, rfl, _, rfl, a, l, 3, rfl, p2, by omega, fun co H3 b3 p3 hco => ?_⟩
  refine ⟨a, l, co, rfl, p3, by omega, fun z0 v H4 b4 p4 sh4 vb => ?_⟩
  refine ⟨a, l, z0, v, rfl, p4, sh4, vb.c3, fun z cs H5 b5 p5 sh5 lcs okc => ?_⟩
  have gu := vb.more lcs okc
  have hN := fit_rch vb gu rfl (by show v.cells.map (·.1) <+: (v.cells ++ cs).map (·.1); rw [List.map_append]; exact List.prefix_append _ _)
  obtain ⟨u, eu⟩ : ∃ u : Vlt, u = ⟨v.cells ++ cs, v.deeds⟩ := ⟨_, rfl⟩
  have eud : u.deeds = v.deeds := by rw [eu]
  have pre : v.cells.map (·.1) <+: u.cells.map (·.1) := by
    rw [eu]
    show v.cells.map (·.1) <+: (v.cells ++ cs).map (·.1)
    rw [List.map_append]
    exact List.prefix_append _ _
  rw [← eu] at gu hN sh5
  clear eu lcs okc
  obtain ⟨ca, da, cxs, dxs, hsq, hca, hcx, hda, hdx⟩ := sh5.at'
  -- the vault
  refine ⟨_, rfl, _, _, _, _, rfl, rfl, hsq, at0, ca, cxs, rfl, .inr hca, fun l1 nl1 => ?_⟩
  have w1 : Same H5 (upd H5 l1 (.lst cxs)) := same_new nl1
  have x1 : upd H5 l1 (.lst cxs) l1 = some (.lst cxs) := upd_same
  generalize upd H5 l1 (.lst cxs) = G1 at w1 x1 ⊢
  refine ⟨_, rfl, _, _, _, _, rfl, rfl, same_t w1 hsq, at1, da, dxs, rfl, .inr (same_t w1 hda), fun l2 nl2 => ?_⟩
  have w2 : Same G1 (upd G1 l2 (.lst dxs)) := same_new nl2
  have x2 : upd G1 l2 (.lst dxs) l2 = some (.lst dxs) := upd_same
  generalize upd G1 l2 (.lst dxs) = G2 at w2 x2 ⊢
  intro x dx hx hdx' ne
  have w3 : Same G2 (upd (upd G2 dx (.own x)) x (.ins (He.ga K "Vault") dx [])) := (same_new hdx').trans (same_new (by rw [upd_ne (Ne.symm ne)]; exact hx))
  have w12 := w1.trans w2
  have w13 := w12.trans w3
  refine ⟨x, dx, l1, l2, cxs, dxs, u, rfl, upd_same, .of ((w2.trans w3) _ _ x1), dps_same w13 hcx, .of (w3 _ _ x2), dps_same w13 hdx, gu, fun H6 b6 vt => ⟨rfl, ?_⟩⟩
  have s56 : Same H5 H6 := fun b o e => b6 _ _ (ne_of_none (w12 _ _ e) hx) (w13 _ _ e)
  have sh6 := sh5.same s56
  clear w1 x1 w2 x2 w3 w12 w13 b6 hsq hca hcx hda hdx
  have h100 : (rch u 100).length ≤ 100 := by have := hN 100; omega
  obtain ⟨hM, eM⟩ := rch_full hN
  -- what is due
  refine ⟨_, rfl, z, u, rfl, sh6, gu, h100, fun zf fl st sn bs kvs H7 fn nzf hzf => ⟨_, _, _, _, rfl, rfl, .of hzf, at0, ?_⟩⟩
  have hfl := fn.hf
  have hfx := fn.fx
  have s67 := fn.sm
  have vt7 := vt.same s67
  have sh7 := sh6.same s67
  have lb := hfx.len
  have pos := rch_pos u 100
  clear fn hzf
  have idx0 := Int.emod_nonneg place (show (((bs.length : Nat) : Int)) ≠ 0 by omega)
  have idx1 := Int.emod_lt_of_pos place (show (0 : Int) < ((bs.length : Nat) : Int) by omega)
  obtain ⟨s0, es0⟩ : ∃ s0, (rch u 100)[(place % ((bs.length : Nat) : Int)).toNat]? = some s0 := ⟨_, List.getElem?_eq_getElem (by omega)⟩
  obtain ⟨b, eb, hbb⟩ := hfx.at es0
  have hat := atI_nat eb
  rw [Int.toNat_of_nonneg idx0] at hat
  have so := rch_so gu 100 s0 (List.mem_of_getElem? es0)
  obtain ⟨l6, _⟩ := so_bits gu.cs so gu.c1
  refine ⟨_, rfl, _, rfl, .inl ⟨_, rfl, _, rfl, fl, _, rfl, .inl (.of hfl), _, _, rfl, rfl, (by show (0 : Int) < ((bs.length : Nat) : Int); omega), _, _, _, _, rfl, rfl, .of hfl, hat, ?_⟩⟩
  -- the vault begun there
  refine ⟨_, rfl, _, rfl, x, b, u, s0, rfl, vt7, gu, .of hbb, so, fun y H8 s78 ny vty => ?_⟩
  have g2 := begun_good gu so
  have hN2 := fit_rch vb g2 eud (by show v.cells.map (·.1) <+: (begunC u s0).map (·.1); rw [begunC_fst so]; exact pre)
  have h200 : (rch ⟨begunC u s0, u.deeds⟩ 100).length ≤ 100 := by have := hN2 100; omega
  obtain ⟨hM2, eM2⟩ := rch_full hN2
  refine ⟨fun σ' G => ∃ (fl2 : Addr) (bs2 : List V), σ' = [some (.ref t), some (.ref a), some (.int place), some (.ref z), some (.ref x), some (.ref fl), some (.ref b), some (.ref y), some (.ref fl2), none] ∧ Same H8 G ∧ G fl2 = some (.lst bs2) ∧ StsAt G bs2 (rch ⟨begunC u s0, u.deeds⟩ 100), ?_, ?_⟩
  · refine ⟨_, rfl, _, rfl, z, b, u, s0, rfl, sh7.same s78, .of (s78 _ _ hbb), so, l6, fun z2 H9 s89 sh9 => ⟨z2, ⟨begunC u s0, u.deeds⟩, rfl, sh9, g2, h200, fun zf fl2 st2 sn2 bs2 kvs2 H10 fn2 nzf hzf2 => ⟨_, _, _, _, rfl, rfl, .of hzf2, at0, fl2, bs2, rfl, s89.trans fn2.sm, fn2.hf, fn2.fx⟩⟩⟩
  rintro σ' G ⟨fl2, bs2, rfl, s8G, hfl2, hfx2⟩
  have s7G := s78.trans s8G
  have vtG := vt7.same s7G
  have vtyG := vty.same s8G
  have hflG := s7G _ _ hfl
  have hfxG : StsAt G bs (rch u 100) := hfx.imp fun _ _ => s7G _ _
  have hbG := s7G _ _ hbb
  have sw1 := list_shown (l := rch u 100) (fun s hs => so_bits gu.cs (rch_so gu 100 s hs) gu.c1) (by omega)
  have sw2 := list_shown (l := rch ⟨begunC u s0, u.deeds⟩ 100) (fun s hs => so_bits g2.cs (rch_so g2 100 s hs) g2.c1) (by omega)
  have hc60 := hN 100
  have hc60' := hN2 100
  have pos2 := rch_pos ⟨begunC u s0, u.deeds⟩ 100
  -- the first time
  refine ⟨_, rfl, x, u, _, 2000, rfl, vtG, gu, hM, by omega, by omega, by omega, fun z1 ys1 J1 t1 nz1 hz1 sts1 => ?_⟩
  rw [eM] at sts1
  refine ⟨_, rfl, z1, .list ((rch u 100).map tupI), rfl, .lst (.of hz1) sts1.dp, sw1.1, sw1.2.1, sw1.2.2.1, sw1.2.2.2, _, rfl, fl, .list ((rch u 100).map tupI), rfl, .lst (.of (t1 _ _ hflG)) (StsAt.dp (hfxG.imp fun _ _ => t1 _ _)), sw1.1, sw1.2.1, sw1.2.2.1, sw1.2.2.2, rfl, _, rfl, ?_⟩
  rw [decide_eq_true (rfl : V.str (PyData.list ((rch u 100).map tupI)).shown = V.str (PyData.list ((rch u 100).map tupI)).shown)]
  refine iteF ?_
  have l1 := sts1.len
  refine ⟨_, rfl, .inl ⟨rfl, _, .of hz1⟩, _, rfl, z1, ys1, _, rfl, rfl, hz1, by rw [sizeLine_eq]; omega, ?_⟩
  have c1 : But z1 J1 (upd J1 z1 (.lst (ys1 ++ [.ref b]))) := But.upd
  have hz2 : upd J1 z1 (.lst (ys1 ++ [.ref b])) z1 = some (.lst (ys1 ++ [.ref b])) := upd_same
  generalize upd J1 z1 (.lst (ys1 ++ [.ref b])) = J2 at c1 hz2 ⊢
  refine ⟨_, rfl, z1, _, _, 0, rfl, rfl, hz2, ixK (k := 0) (by decide) (by rw [List.length_append]; simp), ?_⟩
  have c2 : But z1 J2 (upd J2 z1 (.lst ((ys1 ++ [V.ref b]).set 0 V.non))) := But.upd
  have sJ3 : Same G (upd J2 z1 (.lst ((ys1 ++ [V.ref b]).set 0 V.non))) := fun b o e => c2 _ _ (ne_of_none e nz1) (c1 _ _ (ne_of_none e nz1) (t1 _ _ e))
  generalize upd J2 z1 (.lst ((ys1 ++ [V.ref b]).set 0 V.non)) = J3 at sJ3 ⊢
  clear c1 c2 hz2 t1 nz1 hz1 sts1 l1
  -- the vault that begins later
  refine ⟨_, rfl, y, ⟨begunC u s0, u.deeds⟩, _, 2000, rfl, vtyG.same sJ3, g2, hM2, by omega, by omega, by omega, fun z3 ys3 J4 t4 nz3 hz3 sts3 => ?_⟩
  rw [eM2] at sts3
  have sG4 := sJ3.trans t4
  refine ⟨_, rfl, z3, .list ((rch ⟨begunC u s0, u.deeds⟩ 100).map tupI), rfl, .lst (.of hz3) sts3.dp, sw2.1, sw2.2.1, sw2.2.2.1, sw2.2.2.2, _, rfl, fl2, .list ((rch ⟨begunC u s0, u.deeds⟩ 100).map tupI), rfl, .lst (.of (sG4 _ _ hfl2)) (StsAt.dp (hfx2.imp fun _ _ => sG4 _ _)), sw2.1, sw2.2.1, sw2.2.2.1, sw2.2.2.2, rfl, _, rfl, ?_⟩
  rw [decide_eq_true (rfl : V.str (PyData.list ((rch ⟨begunC u s0, u.deeds⟩ 100).map tupI)).shown = V.str (PyData.list ((rch ⟨begunC u s0, u.deeds⟩ 100).map tupI)).shown)]
  refine iteF ?_
  refine ⟨_, rfl, .inl ⟨rfl, _, .of hz3⟩, z3, ys3, rfl, rfl, hz3, ?_⟩
  have c4 : But z3 J4 (upd J4 z3 (.lst [])) := But.upd
  have nzG : G z3 = none := none_of sJ3 nz3
  have sG5 : Same G (upd J4 z3 (.lst [])) := fun b o e => c4 _ _ (ne_of_none e nzG) (sG4 _ _ e)
  generalize upd J4 z3 (.lst []) = J5 at sG5 ⊢
  -- the greatest number just enough
  refine ⟨_, rfl, _, rfl, fl, _, rfl, .inl (.of (sG5 _ _ hflG)), rfl, rfl, x, u, _, ((bs.length : Nat) : Int), rfl, vtG.same sG5, gu, hM, by omega, by omega, by omega, fun z6 ys6 J6 t6 nz6 hz6 sts6 => ?_⟩
  rw [eM] at sts6
  have sG6 := sG5.trans t6
  refine ⟨z6, .list ((rch u 100).map tupI), rfl, .lst (.of hz6) sts6.dp, sw1.1, sw1.2.1, sw1.2.2.1, sw1.2.2.2, _, rfl, fl, .list ((rch u 100).map tupI), rfl, .lst (.of (sG6 _ _ hflG)) (StsAt.dp (hfxG.imp fun _ _ => sG6 _ _)), sw1.1, sw1.2.1, sw1.2.2.1, sw1.2.2.2, rfl, _, rfl, ?_⟩
  rw [decide_eq_true (rfl : V.str (PyData.list ((rch u 100).map tupI)).shown = V.str (PyData.list ((rch u 100).map tupI)).shown)]
  refine iteF ?_
  have le2 : (rch ⟨begunC u s0, u.deeds⟩ 100).length ≤ (rch u 100).length := rch_begun h100 so (List.mem_of_getElem? es0) 100
  refine ⟨_, rfl, _, rfl, fl, _, rfl, .inl (.of (sG6 _ _ hflG)), rfl, rfl, y, ⟨begunC u s0, u.deeds⟩, _, ((bs.length : Nat) : Int), rfl, vtyG.same sG6, g2, hM2, by omega, by omega, by omega, fun z7 ys7 J7 t7 nz7 hz7 sts7 => ?_⟩
  rw [eM2] at sts7
  have sG7 := sG6.trans t7
  refine ⟨z7, .list ((rch ⟨begunC u s0, u.deeds⟩ 100).map tupI), rfl, .lst (.of hz7) sts7.dp, sw2.1, sw2.2.1, sw2.2.2.1, sw2.2.2.2, _, rfl, fl2, .list ((rch ⟨begunC u s0, u.deeds⟩ 100).map tupI), rfl, .lst (.of (sG7 _ _ hfl2)) (StsAt.dp (hfx2.imp fun _ _ => sG7 _ _)), sw2.1, sw2.2.1, sw2.2.2.1, sw2.2.2.2, rfl, ?_⟩
  rw [decide_eq_true (rfl : V.str (PyData.list ((rch ⟨begunC u s0, u.deeds⟩ 100).map tupI)).shown = V.str (PyData.list ((rch ⟨begunC u s0, u.deeds⟩ 100).map tupI)).shown)]
  exact q _
end

end M

open PySem PySem.W PySem.Calls PyProof.Rows
set_option maxRecDepth 100000 in
set_option maxHeartbeats 0 in
theorem PySem.Challenge.cw_pastless_k20_states_in_order_holds : PySem.Challenge.rw_pastless_k20_states_in_order.Holds := by
  w_on; o_law
  refine HandSHeadRun.head_any (r := OpenLaw.row PySem.Challenge.rw_pastless_k20_states_in_order) (q := view (OpenLaw.row PySem.Challenge.rw_pastless_k20_states_in_order).prog [91]) (H := M.hk) (ob := M.ob) (M := 8000) (loose := M.names) (d := HandSHeadRun.topDef (OpenLaw.row PySem.Challenge.rw_pastless_k20_states_in_order).prog 91) (kwd := []) M.ob_eq
    (by kernel_rfl) (fun s => by kernel_rfl) M.run (by kernel_rfl) (by kernel_rfl) (by kernel_rfl) (by rfl) (by first | assumption | decide +kernel) (by decide +kernel) ⟨rfl, rfl, rfl, rfl, rfl, by decide +kernel⟩ ?hw ?hc
  case hw => w_witness2
  case hc =>
    refine M.walk_G (l := PySem.Challenge.rw_pastless_k20_states_in_order) (n := 63) (k := 57) (x := "_law_script") rfl (by decide) (by kernel_rfl) ⟨rfl, by decide, by decide⟩ ?F
    intro w mg fa h Y G hmg0
    obtain ⟨K, KX, c⟩ := Y
    have hmg : mg ("law" : PySem.Str) = some (.ref fa) := by
      have e : (HandSHeadRun.topDef (OpenLaw.row PySem.Challenge.rw_pastless_k20_states_in_order).prog 91).name = ("law" : PySem.Str) := by kernel_rfl
      rw [← e]
      exact hmg0
    have T : M.Txt w K mg := ⟨⟨h, c⟩, ⟨h, KX, G⟩⟩
    have e := hmg.symm.trans T.g_law
    cases e
    obtain ⟨fd, hF⟩ := T.f_law
    have b := fun s => L2.FunD.bindsA (ps := ["_law_script"]) hF (fun _ _ _ _ _ _ us hl => match us, hl with | [_], _ => rfl) s
    exact ⟨K, fd, M.spLaw K, KX, fun s v => b s [v] rfl, M.FunD.looked hF, fun H a ns hl hO hS => ⟨a, ns, rfl, hS, hl, fun _ => rfl⟩, fun base _ _ => M.ok_law T hF⟩
