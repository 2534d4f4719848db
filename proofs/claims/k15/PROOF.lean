import PyProof.Rows.All
import Wide.All
import OpenK.AllK
import Wide.FinOn
import KE.KStateDown
import HandS.ForMost
import HandS.ForExc
import HandS.More
import HandS.Conv
import HandS.IsInst
import HandS.DictComp
import HandS.Zip
import HandS.Walk
import HandS.SetKeys
import HandS.Codes
import HandS.CallLocal
import HandS.WrittenGet
import HandS.TryMany
import HandS.ExcField
import HandS.Flow
import HandS.Style
import HandS.Evl
import HandS.Wide
import HandS.WideBits
import HandS.Defaults
import HandS.Head0
import HandS.Head1
import HandS.Head2
import HandS.Head3
import HandS.HeadEnd
import HandS.HeadHook1
import HandS.HeadHook2
import HandS.HeadHook3
import HandS.HeadHook4
import HandS.ExcInit
import HandS.FStr
import HandS.FltList
import HandS.TupAny
import PySem.Challenge.RW_pastless_k15_whole_vault_texts
set_option Elab.async false
set_option linter.all false
set_option maxRecDepth 100000
set_option maxHeartbeats 2000000
namespace M
open PySem PySem.Spec PyProof.Rows L2
def top (i : Nat) : Stmt := PySem.Challenge.pw_pastless_k15_whole_vault_texts.main.body.getD i (.Pass ⟨0, 0, 0, 0⟩)
abbrev s__wall : Stmt := top 0
abbrev s_NoVault_init : Stmt := inClass (top 4) 0
abbrev s_NoText_init : Stmt := inClass (top 5) 0
abbrev s_is_integer : Stmt := top 9
abbrev s_is_within : Stmt := top 10
abbrev s_is_tuple : Stmt := top 11
abbrev s_Tally_init : Stmt := inClass (top 22) 0
abbrev s_is_expression : Stmt := top 23
abbrev s_is_part : Stmt := top 24
abbrev s_is_body_row : Stmt := top 25
abbrev s_are_body_rows : Stmt := top 26
abbrev s_is_body : Stmt := top 27
abbrev s_code_of : Stmt := top 29
abbrev s_put_rows : Stmt := top 30
abbrev s_put_if : Stmt := top 31
abbrev s_put_times : Stmt := top 32
abbrev s_Vault_init : Stmt := inClass (top 37) 0
abbrev s_Vault_sizes : Stmt := inClass (top 37) 1
abbrev s_Vault_first : Stmt := inClass (top 37) 2
abbrev s_Vault_names : Stmt := inClass (top 37) 3
abbrev s_Vault_choices : Stmt := inClass (top 37) 4
abbrev s_Vault_rows : Stmt := inClass (top 37) 5
abbrev s_Vault_calls : Stmt := inClass (top 37) 6
abbrev s_Vault_has_coins : Stmt := inClass (top 37) 7
abbrev s_Vault_shape : Stmt := inClass (top 37) 8
abbrev s_Vault_starts : Stmt := inClass (top 37) 9
abbrev s_Vault_deed : Stmt := inClass (top 37) 10
abbrev s_Vault_eq : Stmt := inClass (top 37) 11
abbrev s_has_row : Stmt := top 38
abbrev s_is_cell : Stmt := top 39
abbrev s_are_cells : Stmt := top 40
abbrev s_is_name : Stmt := top 41
abbrev s_is_deed_head : Stmt := top 42
abbrev s_is_deed : Stmt := top 43
abbrev s_are_deeds : Stmt := top 44
abbrev s_number_in : Stmt := top 47
abbrev s_text_of : Stmt := top 49
abbrev s_expression_in : Stmt := top 50
abbrev s_expression_at : Stmt := top 51
abbrev s_vault_text : Stmt := top 52
abbrev s_put_lines : Stmt := top 53
abbrev s_value_in : Stmt := top 54
abbrev s_Block_init : Stmt := inClass (top 55) 0
abbrev s_Block_left : Stmt := inClass (top 55) 1
abbrev s_Block_turn : Stmt := inClass (top 55) 2
abbrev s_Block_whole : Stmt := inClass (top 55) 3
abbrev s_Draft_init : Stmt := inClass (top 56) 0
abbrev s_Draft_take : Stmt := inClass (top 56) 1
abbrev s_Draft_deeds : Stmt := inClass (top 56) 2
abbrev s_Draft_take_cell : Stmt := inClass (top 56) 3
abbrev s_Draft_take_deed : Stmt := inClass (top 56) 4
abbrev s_Draft_take_else : Stmt := inClass (top 56) 5
abbrev s_Draft_take_end : Stmt := inClass (top 56) 6
abbrev s_Draft_take_row : Stmt := inClass (top 56) 7
abbrev s_read_vault : Stmt := top 57
abbrev s_l_pool : Stmt := top 59
abbrev s_l_draw : Stmt := top 60
abbrev s_l_e : Stmt := top 61
abbrev s_l_deep : Stmt := top 62
abbrev s_l_rows : Stmt := top 63
abbrev s_l_one : Stmt := top 64
abbrev s_l_name : Stmt := top 65
abbrev s_l_vault : Stmt := top 66
abbrev s_l_long : Stmt := top 67
abbrev s_l_changed : Stmt := top 68
abbrev s_l_word : Stmt := top 69
abbrev s_l_lines : Stmt := top 70
abbrev s_l_text : Stmt := top 71
abbrev s_l_plain : Stmt := top 72
abbrev s_l_coins : Stmt := top 73
abbrev s_l_holds : Stmt := top 74
abbrev s_law : Stmt := top 75
abbrev dd (x : Str) (st : Stmt) : He.DefD := ⟨(x, none), x, x, defArgs st, defBody st, defScope st, [], []⟩
abbrev dm (C m q : Str) (st : Stmt) : He.DefD := ⟨(C, some m), m, q, defArgs st, defBody st, defScope st, [], []⟩
def fn : List He.DefD := [dd "_wall" s__wall, dm "NoVault" "__init__" "NoVault.__init__" s_NoVault_init, dm "NoText" "__init__" "NoText.__init__" s_NoText_init, dd "is_integer" s_is_integer, dd "is_within" s_is_within, dd "is_tuple" s_is_tuple, dm "Tally" "__init__" "Tally.__init__" s_Tally_init, dd "is_expression" s_is_expression, dd "is_part" s_is_part, dd "is_body_row" s_is_body_row, dd "are_body_rows" s_are_body_rows, dd "is_body" s_is_body, dd "code_of" s_code_of, dd "put_rows" s_put_rows, dd "put_if" s_put_if, dd "put_times" s_put_times, dm "Vault" "__init__" "Vault.__init__" s_Vault_init, dm "Vault" "sizes" "Vault.sizes" s_Vault_sizes, dm "Vault" "first" "Vault.first" s_Vault_first, dm "Vault" "names" "Vault.names" s_Vault_names, dm "Vault" "choices" "Vault.choices" s_Vault_choices, dm "Vault" "rows" "Vault.rows" s_Vault_rows, dm "Vault" "calls" "Vault.calls" s_Vault_calls, dm "Vault" "has_coins" "Vault.has_coins" s_Vault_has_coins, dm "Vault" "shape" "Vault.shape" s_Vault_shape, dm "Vault" "starts" "Vault.starts" s_Vault_starts, dm "Vault" "_deed" "Vault._deed" s_Vault_deed, dm "Vault" "__eq__" "Vault.__eq__" s_Vault_eq, dd "has_row" s_has_row, dd "is_cell" s_is_cell, dd "are_cells" s_are_cells, dd "is_name" s_is_name, dd "is_deed_head" s_is_deed_head, dd "is_deed" s_is_deed, dd "are_deeds" s_are_deeds, dd "number_in" s_number_in, dd "text_of" s_text_of, dd "expression_in" s_expression_in, dd "expression_at" s_expression_at, dd "vault_text" s_vault_text, dd "put_lines" s_put_lines, dd "value_in" s_value_in, dm "Block" "__init__" "Block.__init__" s_Block_init, dm "Block" "left" "Block.left" s_Block_left, dm "Block" "turn" "Block.turn" s_Block_turn, dm "Block" "whole" "Block.whole" s_Block_whole, dm "Draft" "__init__" "Draft.__init__" s_Draft_init, dm "Draft" "take" "Draft.take" s_Draft_take, dm "Draft" "deeds" "Draft.deeds" s_Draft_deeds, dm "Draft" "_take_cell" "Draft._take_cell" s_Draft_take_cell, dm "Draft" "_take_deed" "Draft._take_deed" s_Draft_take_deed, dm "Draft" "_take_else" "Draft._take_else" s_Draft_take_else, dm "Draft" "_take_end" "Draft._take_end" s_Draft_take_end, dm "Draft" "_take_row" "Draft._take_row" s_Draft_take_row, dd "read_vault" s_read_vault, dd "_law_pool" s_l_pool, dd "_law_draw" s_l_draw, dd "_law_e" s_l_e, dd "_law_deep" s_l_deep, dd "_law_rows" s_l_rows, dd "_law_one" s_l_one, dd "_law_name" s_l_name, dd "_law_vault" s_l_vault, dd "_law_long" s_l_long, dd "_law_changed" s_l_changed, dd "_law_word" s_l_word, dd "_law_lines" s_l_lines, dd "_law_text" s_l_text, dd "_law_plain" s_l_plain, dd "_law_coins" s_l_coins, dd "_law_holds" s_l_holds, dd "law" s_law]
def fa0 : List He.Fa := [.glo "_wall", .glo "is_integer", .glo "is_within", .glo "is_tuple", .glo "is_expression", .glo "is_part", .glo "is_body_row", .glo "are_body_rows", .glo "is_body", .glo "code_of", .glo "put_rows", .glo "put_if", .glo "put_times", .glo "has_row", .glo "is_cell", .glo "are_cells", .glo "is_name", .glo "is_deed_head", .glo "is_deed", .glo "are_deeds", .glo "number_in", .glo "text_of", .glo "expression_in", .glo "expression_at", .glo "vault_text", .glo "put_lines", .glo "value_in", .glo "read_vault", .glo "_law_pool", .glo "_law_draw"]
def fa1 : List He.Fa := [.glo "_law_e", .glo "_law_deep", .glo "_law_rows", .glo "_law_one", .glo "_law_name", .glo "_law_vault", .glo "_law_long", .glo "_law_changed", .glo "_law_word", .glo "_law_lines", .glo "_law_text", .glo "_law_plain", .glo "_law_coins", .glo "_law_holds", .glo "law", .glo "PastError", .glo "NoName", .glo "NoVault", .glo "NoText", .glo "Tally", .cls "Tally", .mkr "Tally", .noat "Tally" "cells", .noat "Tally" "coins", .noat "Tally" "lines", .glo "Vault", .cls "Vault", .mkr "Vault", .meth "Vault" "sizes", .meth "Vault" "first"]
def fa2 : List He.Fa := [.meth "Vault" "names", .meth "Vault" "choices", .meth "Vault" "rows", .meth "Vault" "calls", .meth "Vault" "has_coins", .meth "Vault" "shape", .meth "Vault" "starts", .meth "Vault" "_deed", .noat "Vault" "_cells", .noat "Vault" "_deeds", .noat "Vault" "_codes", .noat "Vault" "_coins", .glo "Block", .cls "Block", .mkr "Block", .meth "Block" "left", .meth "Block" "turn", .meth "Block" "whole", .noat "Block" "head", .noat "Block" "parts", .noat "Block" "over", .noat "Block" "listed", .glo "Draft", .cls "Draft", .mkr "Draft", .meth "Draft" "take", .meth "Draft" "deeds", .meth "Draft" "_take_cell", .meth "Draft" "_take_deed", .meth "Draft" "_take_else"]
def fa3 : List He.Fa := [.meth "Draft" "_take_end", .meth "Draft" "_take_row", .noat "Draft" "cells", .noat "Draft" "around", .noat "Draft" "_past", .exc "NoName", .free "len", .free "isinstance", .free "int", .free "abs", .free "tuple", .free "list", .free "str", .free "bool", .free "range", .free "zip", .free "enumerate", .free "set", .free "min", .free "max", .free "reversed", .free "sorted", .free "sum", .free "dict", .free "all", .free "any", .int "MOST_CELLS" (6), .int "GREATEST_SIZE" (9), .glo "CHANGED", .glo "HELD"]
def fa4 : List He.Fa := [.glo "SIGNS", .glo "FORMS", .int "DEEPEST_EXPRESSION" (6), .int "DEEPEST_ROW" (12), .int "DEEPEST_TIMES" (2), .int "MOST_COINS" (4), .int "MOST_ROWS" (2000), .int "MOST_DEEDS" (8), .int "LONGEST_NAME" (8), .int "MOST_CHOICES" (9), .int "MOST_DIGITS" (3)]
def fa : List He.Fa := fa0 ++ fa1 ++ fa2 ++ fa3 ++ fa4
/-- the values of a written dict are tuples of texts -/
def formsB (K : PySem.W.Frag) (a : Addr) (kvs : List (Str × List Str)) : Bool := kvs.all fun q => match PySem.W.nsIn K a q.1 with
  | some (some (.ref t)) => (match K.lookup t with
    | some ⟨.type c, none, .seq its _, _⟩ => decide (c = "tuple") && (decide (its.size ≤ sizeLine) && He.relAll (q.2.map V.str) its.toList)
    | _ => false)
  | _ => false
/-- the class x is an error with its own __init__, which keeps the field f -/
def oexS (K : PySem.W.Frag) (C : Addr) : Bool := match K.lookup C with
  | some ⟨.type t, _, .cls cd, sl⟩ => (match cd.mro, sl.toList with
    | .ref D :: bm, [_, _, _, _, some (.builtin n), _] => decide (t = "type") && (decide (D = C) && (decide (n = "ValueError.__new__") && (cd.hasDict && (!cd.hasDel && PySem.HandSPX.refsVE bm))))
    | _, _ => false)
  | _ => false
def oexB (K : PySem.W.Frag) (x f : Str) : Bool := oexS K (He.ga K x) && (He.eqO (PySem.W.findIn K (.ref (He.ga K x)) "__setattr__") (some (some (.builtin "object.__setattr__"))) && (decide (PySem.W.subIn K (.ref (He.ga K x)) (.type "BaseException") = some true) &&
  (decide (PySem.W.typeIn K (.ref (He.ga K x)) = some (.type "type")) && (PySem.W.keepIn K (.ref (He.ga K x)) && (xfB K (He.ga K x) && (He.eqO (PySem.W.findIn K (.ref (He.ga K x)) f) (some none) &&
  (He.eqO (PySem.W.findIn K (.ref (He.ga K x)) "__init__") (some (some (.ref (He.ma K (He.ga K x) "__init__")))) && decide (PySem.W.typeIn K (.ref (He.ma K (He.ga K x) "__init__")) = some (.type "function")))))))))
/-- the class x reads its __init__ off ValueError -/
def pinB (K : PySem.W.Frag) (x : Str) : Bool := PySem.W.readsIn K (He.ga K x) (.type "type") && (decide (PySem.W.specialIn K (.ref (He.ga K x)) "__getattribute__" = some (some (.builtin "type.__getattribute__"))) &&
  (match PySem.W.findCls K (.ref (He.ga K x)) (.type "type") "__init__" with
    | some (.val (.builtin i)) => decide (i = "ValueError.__init__")
    | _ => false))
def as0 : List Addr := [3, 6, 4, 21, 31, 44, 63, 82, 91, 98, 105, 106, 107, 108, 109, 134, 145, 152, 159, 166, 173, 180, 187, 194, 201, 287, 298, 305, 312, 319]
def as1 : List Addr := [326, 333, 340, 347, 354, 361, 368, 373, 378, 385, 423, 489, 500, 507, 514, 521, 528, 535, 542, 547, 554, 559, 564, 571, 576, 583, 588, 595, 600, 607]
def as2 : List Addr := [0, 20, 30, 43, 62, 81, 90, 97, 104, 110, 111, 112, 113, 114, 115, 116, 117, 133, 144, 151, 158, 165, 172, 179, 186, 193, 200, 286, 297, 304]
def as3 : List Addr := [311, 318, 325, 332, 339, 346, 353, 360, 367, 372, 377, 384, 422, 488, 499, 506, 513, 520, 527, 534, 541, 546, 553, 558, 563, 570, 575, 582, 587, 594]
def as4 : List Addr := [599, 606, 15, 16, 17, 18, 19, 29, 32, 42, 60, 61, 79, 80, 85, 86, 87, 88, 89, 92, 93, 94, 95, 96, 99, 100, 101, 102, 103, 131]
def as5 : List Addr := [132, 135, 136, 139, 140, 141, 142, 143, 146, 147, 148, 149, 150, 153, 154, 155, 156, 157, 160, 161, 162, 163, 164, 167, 168, 169, 170, 171, 174, 175]
def as6 : List Addr := [176, 177, 178, 181, 182, 183, 184, 185, 188, 189, 190, 191, 192, 195, 196, 197, 198, 199, 213, 220, 225, 230, 237, 244, 249, 256, 263, 270, 277, 284]
def as7 : List Addr := [285, 288, 289, 292, 293, 294, 295, 296, 299, 300, 301, 302, 303, 306, 307, 308, 309, 310, 313, 314, 315, 316, 317, 320, 321, 322, 323, 324, 327, 328]
def as8 : List Addr := [329, 330, 331, 334, 335, 336, 337, 338, 341, 342, 343, 344, 345, 348, 349, 350, 351, 352, 355, 356, 357, 358, 359, 362, 363, 364, 365, 366, 369, 370]
def as9 : List Addr := [371, 374, 375, 376, 379, 380, 381, 382, 383, 399, 406, 413, 420, 421, 424, 425, 441, 448, 455, 460, 467, 474, 481, 486, 487, 490, 491, 494, 495, 496]
def as10 : List Addr := [497, 498, 501, 502, 503, 504, 505, 508, 509, 510, 511, 512, 515, 516, 517, 518, 519, 522, 523, 524, 525, 526, 529, 530, 531, 532, 533, 536, 537, 538]
def as11 : List Addr := [539, 540, 543, 544, 545, 548, 549, 550, 551, 552, 555, 556, 557, 560, 561, 562, 565, 566, 567, 568, 569, 572, 573, 574, 577, 578, 579, 580, 581, 584]
def as12 : List Addr := [585, 586, 589, 590, 591, 592, 593, 596, 597, 598, 601, 602, 603, 604, 605, 59, 78, 130, 212, 219, 224, 229, 236, 243, 248, 255, 262, 269, 276, 283]
def as13 : List Addr := [398, 405, 412, 419, 440, 447, 454, 459, 466, 473, 480, 485, 2]
def asL : List Addr := as0 ++ (as1 ++ (as2 ++ (as3 ++ (as4 ++ (as5 ++ (as6 ++ (as7 ++ (as8 ++ (as9 ++ (as10 ++ (as11 ++ (as12 ++ (as13)))))))))))))
/-- the places that the names reach, and that of the interpreter's own marks -/
def aS (_ : Addr → Option Obj) (_ : Nat) : List Addr := asL
def obS (n : Nat) (fa : List He.Fa) (fn : List He.DefD) (ts : List He.Tab) (ex : PySem.W.Frag → Bool) (g : Addr → Option Obj) : He.AlX := (He.obsT fa fn ts (He.frT g (aS g n)), ex (He.frT g (aS g n)))
theorem obS_says {n : Nat} {fa : List He.Fa} {fn : List He.DefD} {ts : List He.Tab} {ex : PySem.W.Frag → Bool} {w : World} {h : Heap} (e : obS n fa fn ts ex h.get? = He.valX fn ts w) : He.SaysX fa fn ts [] ex w h (He.frT h.get? (aS h.get? n)) := by
  have e1 := congrArg Prod.fst e
  have e2 := congrArg Prod.snd e
  constructor
  · exact e1
  · exact e2
  all_goals
    intro p hp
    cases hp
def hookS (n : Nat) (fa : List He.Fa) (fn : List He.DefD) (ts : List He.Tab) (ex : PySem.W.Frag → Bool) : PySem.W.Hook :=
  { α := He.AlX, obs := fun s => obS n fa fn ts ex s.heap.get?, val := fun w => He.valX fn ts w, says := fun w h => ∃ K : PySem.W.Frag, K.In h ∧ He.SaysX fa fn ts [] ex w h K, of := fun _ _ e => ⟨_, He.frT_in, obS_says e⟩,
    keeps := by
      intro w h h2 z k
      obtain ⟨K, z1, z2⟩ := z
      exact ⟨K, PySem.W.Frag.In.keeps z1 k, ⟨z2.t, z2.more, z2.hd, z2.out, fun p hp => by cases hp⟩⟩ }
theorem obS_eq {n : Nat} {fa : List He.Fa} {fn : List He.DefD} {ts : List He.Tab} {ex : PySem.W.Frag → Bool} {g : Addr → Option Obj} {s : Shared} (h : ∀ a, g a = s.heap.get? a) : obS n fa fn ts ex g = (hookS n fa fn ts ex).obs s := by
  cases (funext h : g = s.heap.get?)
  rfl
/-- what == and isinstance ask of the class x, which has its own == -/
def ownB (K : PySem.W.Frag) (x : Str) : Bool := He.eqO (PySem.W.findIn K (.ref (He.ga K x)) "__class__") (some (some (.builtin "object.__class__"))) && (He.eqO (PySem.W.specialIn K (.builtin "object.__class__") "__get__") (some (some (.builtin "getset_descriptor.__get__"))) && (decide (PySem.W.takesIn K (.builtin "object.__class__") = some true) &&
  (decide (PySem.W.mroIn K (He.ga K x) (.type "object") = some true) && (decide (PySem.W.kitOne K (.ref (He.ga K x)) (.ref (He.ga K x)) = some true) &&
  ((["NoneType", "bool", "int", "str", "list", "tuple", "dict"] : List String).all (fun t => decide (PySem.W.kitOne K (.type t) (.ref (He.ga K x)) = some false) && decide (PySem.W.kitOne K (.ref (He.ga K x)) (.type t) = some false)) &&
  (decide (PySem.W.subIn K (.ref (He.ga K x)) (.type "str") = some false) && ((He.eqO (PySem.W.findIn K (.ref (He.ga K x)) "__eq__") (some (some (.ref (He.ma K (He.ga K x) "__eq__")))) && PySem.W.isFn K (.ref (He.ma K (He.ga K x) "__eq__"))) &&
  PySem.W.notFirst K (He.ga K x) (.ref (He.ga K x)))))))))
def ts : List He.Tab := [((fun K => He.ga K "FORMS"), ["read", "set", "swap", "keep", "coin", "if", "times", "answer"])]
def ex (K : PySem.W.Frag) : Bool := He.tupB K "CHANGED" [.str "a", .str "b", .str "c", .str "d"] && (He.tupB K "HELD" [.str "a", .str "b", .str "c", .str "d", .str "x"] && (He.tupB K "SIGNS" [.str "+", .str "-", .str "*", .str "=", .str "<"] && (formsB K (He.ga K "FORMS") [("read", ["REG", "CELL"]), ("set", ["CELL", "E"]), ("swap", ["REG", "CELL", "E", "E"]), ("keep", ["REG", "E"]), ("coin", ["REG"]), ("if", ["E", "ROWS", "ROWS"]), ("times", ["E", "ROWS"]), ("answer", ["E"])] && (oexB K "NoVault" "part" && (oexB K "NoText" "line" && (pinB K "PastError" && (ownB K "Vault")))))))
end M

section
set_option maxRecDepth 100000
namespace M
open PySem PySem.Spec PyProof.Rows L2
set_option maxHeartbeats 0
def nm0 : List PySem.Str := ["_wall", "PastError", "NoName", "NoVault", "NoText", "MOST_CELLS", "GREATEST_SIZE", "is_integer", "is_within", "is_tuple", "CHANGED", "HELD", "SIGNS", "FORMS", "DEEPEST_EXPRESSION", "DEEPEST_ROW", "DEEPEST_TIMES", "MOST_COINS", "MOST_ROWS", "Tally", "is_expression", "is_part", "is_body_row", "are_body_rows", "is_body", "code_of", "put_rows", "put_if", "put_times", "MOST_DEEDS"]
def nm1 : List PySem.Str := ["LONGEST_NAME", "MOST_CHOICES", "Vault", "has_row", "is_cell", "are_cells", "is_name", "is_deed_head", "is_deed", "are_deeds", "MOST_DIGITS", "number_in", "text_of", "expression_in", "expression_at", "vault_text", "put_lines", "value_in", "Block", "Draft", "read_vault", "_law_pool", "_law_draw", "_law_e", "_law_deep", "_law_rows", "_law_one", "_law_name", "_law_vault", "_law_long"]
def nm2 : List PySem.Str := ["_law_changed", "_law_word", "_law_lines", "_law_text", "_law_plain", "_law_coins", "_law_holds"]
def names : List PySem.Str := nm0 ++ nm1 ++ nm2
abbrev R : PySem.W.OpenRow := PySem.W.OpenLaw.row PySem.Challenge.rw_pastless_k15_whole_vault_texts
abbrev hk : PySem.W.Hook := hookS 4 fa fn ts ex
def ob (s : PySem.W.SharedT) : He.AlX := obS 4 fa fn ts ex (HandSHeadRun.getT s)
theorem ob_eq (s : PySem.W.SharedT) : ob s = hk.obs s.abs := obS_eq (HandSHeadRun.getT_eq s)
theorem run_false (w : World) : HandSHeadRun.RunEq R (PySem.W.view R.prog [75]) hk ob 8000 names (w.withFollow "special-get-raises" false) := by
  intro os
  kernel_rfl
theorem run_true (w : World) : HandSHeadRun.RunEq R (PySem.W.view R.prog [75]) hk ob 8000 names (w.withFollow "special-get-raises" true) := by
  intro os
  kernel_rfl
theorem run (w : World) : HandSHeadRun.RunEq R (PySem.W.view R.prog [75]) hk ob 8000 names w :=
  PySem.W.byRow2 "special-get-raises" (P := fun w => HandSHeadRun.RunEq R (PySem.W.view R.prog [75]) hk ob 8000 names w) run_false run_true w
end M
end

namespace M
open PySem PySem.Spec PyProof.Rows L2
/-- what the top has written -/
structure Txt (w : World) (K : PySem.W.Frag) (mg : Str → Option Value) : Prop where
  says : ∃ h, He.SaysX fa fn ts [] ex w h K
  X : ∃ h : Heap, K.In h ∧ h.Ns mainGlobals mg
section
variable {P : Program} {w : World} {K : PySem.W.Frag} {mg : Str → Option Value} {base : Heap}
theorem Txt.fact (T : Txt w K mg) (i : Nat) {f : He.Fa} (h : fa[i]? = some f := by rfl) : f.ok K = true := by
  obtain ⟨_, s⟩ := T.says
  exact s.t.d.fact i h
theorem Txt.glo (T : Txt w K mg) (i : Nat) {x : Str} (h : fa[i]? = some (.glo x) := by rfl) : mg x = some (.ref (He.ga K x)) := by
  obtain ⟨_, X, G⟩ := T.X
  exact He.glo_ok X G (T.fact i h)
theorem Txt.fr (T : Txt w K mg) (i : Nat) {x : Str} (h : fa[i]? = some (.free x) := by rfl) : mg x = none := by
  obtain ⟨_, X, G⟩ := T.X
  exact He.free_ok X G (T.fact i h)
theorem Txt.int (T : Txt w K mg) (i : Nat) {x : Str} {n : Int} (h : fa[i]? = some (.int x n) := by rfl) : ∃ u, mg x = some u ∧ RelV (.int n) u := by
  obtain ⟨_, X, G⟩ := T.X
  obtain ⟨t, e⟩ := He.int_ok X G (T.fact i h)
  exact ⟨_, e, ⟨t, rfl⟩⟩
theorem Txt.fd (T : Txt w K mg) (i : Nat) {d : He.DefD} (h : fn[i]? = some d := by rfl) : ∃ f, FunD K d.name d.qual d.params d.body d.scope (d.dvs K) (d.kws K) (He.fAd K d.at_) f := by
  obtain ⟨_, s⟩ := T.says
  exact s.t.d.def_ i h
theorem Txt.ex (T : Txt w K mg) : ex K = true := by
  obtain ⟨_, s⟩ := T.says
  exact s.more
theorem Txt.tab (T : Txt w K mg) (i : Nat) {t : He.Tab} (h : ts[i]? = some t := by rfl) : ∃ es n, KDict K w (t.1 K) es n := by
  obtain ⟨_, s⟩ := T.says
  exact s.t.tab i h
end
/-! places of the facts: 0 glo "_wall"; 1 glo "is_integer"; 2 glo "is_within"; 3 glo "is_tuple"; 4 glo "is_expression"; 5 glo "is_part"; 6 glo "is_body_row"; 7 glo "are_body_rows"; 8 glo "is_body"; 9 glo "code_of"; 10 glo "put_rows"; 11 glo "put_if"; 12 glo "put_times"; 13 glo "has_row"; 14 glo "is_cell"; 15 glo "are_cells"; 16 glo "is_name"; 17 glo "is_deed_head"; 18 glo "is_deed"; 19 glo "are_deeds"; 20 glo "number_in"; 21 glo "text_of"; 22 glo "expression_in"; 23 glo "expression_at"; 24 glo "vault_text"; 25 glo "put_lines"; 26 glo "value_in"; 27 glo "read_vault"; 28 glo "_law_pool"; 29 glo "_law_draw"; 30 glo "_law_e"; 31 glo "_law_deep"; 32 glo "_law_rows"; 33 glo "_law_one"; 34 glo "_law_name"; 35 glo "_law_vault"; 36 glo "_law_long"; 37 glo "_law_changed"; 38 glo "_law_word"; 39 glo "_law_lines"; 40 glo "_law_text"; 41 glo "_law_plain"; 42 glo "_law_coins"; 43 glo "_law_holds"; 44 glo "law"; 45 glo "PastError"; 46 glo "NoName"; 47 glo "NoVault"; 48 glo "NoText"; 49 glo "Tally"; 50 cls "Tally"; 51 mkr "Tally"; 52 noat "Tally" "cells"; 53 noat "Tally" "coins"; 54 noat "Tally" "lines"; 55 glo "Vault"; 56 cls "Vault"; 57 mkr "Vault"; 58 meth "Vault" "sizes"; 59 meth "Vault" "first"; 60 meth "Vault" "names"; 61 meth "Vault" "choices"; 62 meth "Vault" "rows"; 63 meth "Vault" "calls"; 64 meth "Vault" "has_coins"; 65 meth "Vault" "shape"; 66 meth "Vault" "starts"; 67 meth "Vault" "_deed"; 68 noat "Vault" "_cells"; 69 noat "Vault" "_deeds"; 70 noat "Vault" "_codes"; 71 noat "Vault" "_coins"; 72 glo "Block"; 73 cls "Block"; 74 mkr "Block"; 75 meth "Block" "left"; 76 meth "Block" "turn"; 77 meth "Block" "whole"; 78 noat "Block" "head"; 79 noat "Block" "parts"; 80 noat "Block" "over"; 81 noat "Block" "listed"; 82 glo "Draft"; 83 cls "Draft"; 84 mkr "Draft"; 85 meth "Draft" "take"; 86 meth "Draft" "deeds"; 87 meth "Draft" "_take_cell"; 88 meth "Draft" "_take_deed"; 89 meth "Draft" "_take_else"; 90 meth "Draft" "_take_end"; 91 meth "Draft" "_take_row"; 92 noat "Draft" "cells"; 93 noat "Draft" "around"; 94 noat "Draft" "_past"; 95 exc "NoName"; 96 free "len"; 97 free "isinstance"; 98 free "int"; 99 free "abs"; 100 free "tuple"; 101 free "list"; 102 free "str"; 103 free "bool"; 104 free "range"; 105 free "zip"; 106 free "enumerate"; 107 free "set"; 108 free "min"; 109 free "max"; 110 free "reversed"; 111 free "sorted"; 112 free "sum"; 113 free "dict"; 114 free "all"; 115 free "any"; 116 int "MOST_CELLS" (6); 117 int "GREATEST_SIZE" (9); 118 glo "CHANGED"; 119 glo "HELD"; 120 glo "SIGNS"; 121 glo "FORMS"; 122 int "DEEPEST_EXPRESSION" (6); 123 int "DEEPEST_ROW" (12); 124 int "DEEPEST_TIMES" (2); 125 int "MOST_COINS" (4); 126 int "MOST_ROWS" (2000); 127 int "MOST_DEEDS" (8); 128 int "LONGEST_NAME" (8); 129 int "MOST_CHOICES" (9); 130 int "MOST_DIGITS" (3) -/
section
variable {P : Program} {w : World} {K : PySem.W.Frag} {mg : Str → Option Value} {base : Heap}
theorem Txt.g_wall (T : Txt w K mg) : mg "_wall" = some (.ref (He.ga K "_wall")) := T.glo 0
theorem Txt.g_is_integer (T : Txt w K mg) : mg "is_integer" = some (.ref (He.ga K "is_integer")) := T.glo 1
theorem Txt.g_is_within (T : Txt w K mg) : mg "is_within" = some (.ref (He.ga K "is_within")) := T.glo 2
theorem Txt.g_is_tuple (T : Txt w K mg) : mg "is_tuple" = some (.ref (He.ga K "is_tuple")) := T.glo 3
theorem Txt.g_is_expression (T : Txt w K mg) : mg "is_expression" = some (.ref (He.ga K "is_expression")) := T.glo 4
theorem Txt.g_is_part (T : Txt w K mg) : mg "is_part" = some (.ref (He.ga K "is_part")) := T.glo 5
theorem Txt.g_is_body_row (T : Txt w K mg) : mg "is_body_row" = some (.ref (He.ga K "is_body_row")) := T.glo 6
theorem Txt.g_are_body_rows (T : Txt w K mg) : mg "are_body_rows" = some (.ref (He.ga K "are_body_rows")) := T.glo 7
theorem Txt.g_is_body (T : Txt w K mg) : mg "is_body" = some (.ref (He.ga K "is_body")) := T.glo 8
theorem Txt.g_code_of (T : Txt w K mg) : mg "code_of" = some (.ref (He.ga K "code_of")) := T.glo 9
theorem Txt.g_put_rows (T : Txt w K mg) : mg "put_rows" = some (.ref (He.ga K "put_rows")) := T.glo 10
theorem Txt.g_put_if (T : Txt w K mg) : mg "put_if" = some (.ref (He.ga K "put_if")) := T.glo 11
theorem Txt.g_put_times (T : Txt w K mg) : mg "put_times" = some (.ref (He.ga K "put_times")) := T.glo 12
theorem Txt.g_has_row (T : Txt w K mg) : mg "has_row" = some (.ref (He.ga K "has_row")) := T.glo 13
theorem Txt.g_is_cell (T : Txt w K mg) : mg "is_cell" = some (.ref (He.ga K "is_cell")) := T.glo 14
theorem Txt.g_are_cells (T : Txt w K mg) : mg "are_cells" = some (.ref (He.ga K "are_cells")) := T.glo 15
theorem Txt.g_is_name (T : Txt w K mg) : mg "is_name" = some (.ref (He.ga K "is_name")) := T.glo 16
theorem Txt.g_is_deed_head (T : Txt w K mg) : mg "is_deed_head" = some (.ref (He.ga K "is_deed_head")) := T.glo 17
theorem Txt.g_is_deed (T : Txt w K mg) : mg "is_deed" = some (.ref (He.ga K "is_deed")) := T.glo 18
theorem Txt.g_are_deeds (T : Txt w K mg) : mg "are_deeds" = some (.ref (He.ga K "are_deeds")) := T.glo 19
theorem Txt.g_number_in (T : Txt w K mg) : mg "number_in" = some (.ref (He.ga K "number_in")) := T.glo 20
theorem Txt.g_text_of (T : Txt w K mg) : mg "text_of" = some (.ref (He.ga K "text_of")) := T.glo 21
theorem Txt.g_expression_in (T : Txt w K mg) : mg "expression_in" = some (.ref (He.ga K "expression_in")) := T.glo 22
theorem Txt.g_expression_at (T : Txt w K mg) : mg "expression_at" = some (.ref (He.ga K "expression_at")) := T.glo 23
theorem Txt.g_vault_text (T : Txt w K mg) : mg "vault_text" = some (.ref (He.ga K "vault_text")) := T.glo 24
theorem Txt.g_put_lines (T : Txt w K mg) : mg "put_lines" = some (.ref (He.ga K "put_lines")) := T.glo 25
theorem Txt.g_value_in (T : Txt w K mg) : mg "value_in" = some (.ref (He.ga K "value_in")) := T.glo 26
theorem Txt.g_read_vault (T : Txt w K mg) : mg "read_vault" = some (.ref (He.ga K "read_vault")) := T.glo 27
theorem Txt.g_law_pool (T : Txt w K mg) : mg "_law_pool" = some (.ref (He.ga K "_law_pool")) := T.glo 28
theorem Txt.g_law_draw (T : Txt w K mg) : mg "_law_draw" = some (.ref (He.ga K "_law_draw")) := T.glo 29
theorem Txt.g_law_e (T : Txt w K mg) : mg "_law_e" = some (.ref (He.ga K "_law_e")) := T.glo 30
theorem Txt.g_law_deep (T : Txt w K mg) : mg "_law_deep" = some (.ref (He.ga K "_law_deep")) := T.glo 31
theorem Txt.g_law_rows (T : Txt w K mg) : mg "_law_rows" = some (.ref (He.ga K "_law_rows")) := T.glo 32
theorem Txt.g_law_one (T : Txt w K mg) : mg "_law_one" = some (.ref (He.ga K "_law_one")) := T.glo 33
theorem Txt.g_law_name (T : Txt w K mg) : mg "_law_name" = some (.ref (He.ga K "_law_name")) := T.glo 34
theorem Txt.g_law_vault (T : Txt w K mg) : mg "_law_vault" = some (.ref (He.ga K "_law_vault")) := T.glo 35
theorem Txt.g_law_long (T : Txt w K mg) : mg "_law_long" = some (.ref (He.ga K "_law_long")) := T.glo 36
theorem Txt.g_law_changed (T : Txt w K mg) : mg "_law_changed" = some (.ref (He.ga K "_law_changed")) := T.glo 37
theorem Txt.g_law_word (T : Txt w K mg) : mg "_law_word" = some (.ref (He.ga K "_law_word")) := T.glo 38
theorem Txt.g_law_lines (T : Txt w K mg) : mg "_law_lines" = some (.ref (He.ga K "_law_lines")) := T.glo 39
theorem Txt.g_law_text (T : Txt w K mg) : mg "_law_text" = some (.ref (He.ga K "_law_text")) := T.glo 40
theorem Txt.g_law_plain (T : Txt w K mg) : mg "_law_plain" = some (.ref (He.ga K "_law_plain")) := T.glo 41
theorem Txt.g_law_coins (T : Txt w K mg) : mg "_law_coins" = some (.ref (He.ga K "_law_coins")) := T.glo 42
theorem Txt.g_law_holds (T : Txt w K mg) : mg "_law_holds" = some (.ref (He.ga K "_law_holds")) := T.glo 43
theorem Txt.g_law (T : Txt w K mg) : mg "law" = some (.ref (He.ga K "law")) := T.glo 44
theorem Txt.g_PastError (T : Txt w K mg) : mg "PastError" = some (.ref (He.ga K "PastError")) := T.glo 45
theorem Txt.g_NoName (T : Txt w K mg) : mg "NoName" = some (.ref (He.ga K "NoName")) := T.glo 46
theorem Txt.g_NoVault (T : Txt w K mg) : mg "NoVault" = some (.ref (He.ga K "NoVault")) := T.glo 47
theorem Txt.g_NoText (T : Txt w K mg) : mg "NoText" = some (.ref (He.ga K "NoText")) := T.glo 48
theorem Txt.g_Tally (T : Txt w K mg) : mg "Tally" = some (.ref (He.ga K "Tally")) := T.glo 49
theorem Txt.c_Tally (T : Txt w K mg) : Cls K (He.ga K "Tally") := He.cls_ok (T.fact 50)
theorem Txt.k_Tally (T : Txt w K mg) : Mk K (He.ga K "Tally") (He.ma K (He.ga K "Tally") "__init__") := He.mkr_ok (T.fact 51)
theorem Txt.n_Tally_cells (T : Txt w K mg) : NoAttr K (He.ga K "Tally") "cells" := He.noat_ok (T.fact 52)
theorem Txt.n_Tally_coins (T : Txt w K mg) : NoAttr K (He.ga K "Tally") "coins" := He.noat_ok (T.fact 53)
theorem Txt.n_Tally_lines (T : Txt w K mg) : NoAttr K (He.ga K "Tally") "lines" := He.noat_ok (T.fact 54)
theorem Txt.g_Vault (T : Txt w K mg) : mg "Vault" = some (.ref (He.ga K "Vault")) := T.glo 55
theorem Txt.c_Vault (T : Txt w K mg) : Cls K (He.ga K "Vault") := He.cls_ok (T.fact 56)
theorem Txt.k_Vault (T : Txt w K mg) : Mk K (He.ga K "Vault") (He.ma K (He.ga K "Vault") "__init__") := He.mkr_ok (T.fact 57)
theorem Txt.m_Vault_sizes (T : Txt w K mg) : Meth K (He.ga K "Vault") "sizes" (He.ma K (He.ga K "Vault") "sizes") := He.meth_ok (T.fact 58)
theorem Txt.m_Vault_first (T : Txt w K mg) : Meth K (He.ga K "Vault") "first" (He.ma K (He.ga K "Vault") "first") := He.meth_ok (T.fact 59)
theorem Txt.m_Vault_names (T : Txt w K mg) : Meth K (He.ga K "Vault") "names" (He.ma K (He.ga K "Vault") "names") := He.meth_ok (T.fact 60)
theorem Txt.m_Vault_choices (T : Txt w K mg) : Meth K (He.ga K "Vault") "choices" (He.ma K (He.ga K "Vault") "choices") := He.meth_ok (T.fact 61)
theorem Txt.m_Vault_rows (T : Txt w K mg) : Meth K (He.ga K "Vault") "rows" (He.ma K (He.ga K "Vault") "rows") := He.meth_ok (T.fact 62)
theorem Txt.m_Vault_calls (T : Txt w K mg) : Meth K (He.ga K "Vault") "calls" (He.ma K (He.ga K "Vault") "calls") := He.meth_ok (T.fact 63)
theorem Txt.m_Vault_has_coins (T : Txt w K mg) : Meth K (He.ga K "Vault") "has_coins" (He.ma K (He.ga K "Vault") "has_coins") := He.meth_ok (T.fact 64)
theorem Txt.m_Vault_shape (T : Txt w K mg) : Meth K (He.ga K "Vault") "shape" (He.ma K (He.ga K "Vault") "shape") := He.meth_ok (T.fact 65)
theorem Txt.m_Vault_starts (T : Txt w K mg) : Meth K (He.ga K "Vault") "starts" (He.ma K (He.ga K "Vault") "starts") := He.meth_ok (T.fact 66)
theorem Txt.m_Vault_deed (T : Txt w K mg) : Meth K (He.ga K "Vault") "_deed" (He.ma K (He.ga K "Vault") "_deed") := He.meth_ok (T.fact 67)
theorem Txt.n_Vault_cells (T : Txt w K mg) : NoAttr K (He.ga K "Vault") "_cells" := He.noat_ok (T.fact 68)
theorem Txt.n_Vault_deeds (T : Txt w K mg) : NoAttr K (He.ga K "Vault") "_deeds" := He.noat_ok (T.fact 69)
theorem Txt.n_Vault_codes (T : Txt w K mg) : NoAttr K (He.ga K "Vault") "_codes" := He.noat_ok (T.fact 70)
theorem Txt.n_Vault_coins (T : Txt w K mg) : NoAttr K (He.ga K "Vault") "_coins" := He.noat_ok (T.fact 71)
theorem Txt.g_Block (T : Txt w K mg) : mg "Block" = some (.ref (He.ga K "Block")) := T.glo 72
theorem Txt.c_Block (T : Txt w K mg) : Cls K (He.ga K "Block") := He.cls_ok (T.fact 73)
theorem Txt.k_Block (T : Txt w K mg) : Mk K (He.ga K "Block") (He.ma K (He.ga K "Block") "__init__") := He.mkr_ok (T.fact 74)
theorem Txt.m_Block_left (T : Txt w K mg) : Meth K (He.ga K "Block") "left" (He.ma K (He.ga K "Block") "left") := He.meth_ok (T.fact 75)
theorem Txt.m_Block_turn (T : Txt w K mg) : Meth K (He.ga K "Block") "turn" (He.ma K (He.ga K "Block") "turn") := He.meth_ok (T.fact 76)
theorem Txt.m_Block_whole (T : Txt w K mg) : Meth K (He.ga K "Block") "whole" (He.ma K (He.ga K "Block") "whole") := He.meth_ok (T.fact 77)
theorem Txt.n_Block_head (T : Txt w K mg) : NoAttr K (He.ga K "Block") "head" := He.noat_ok (T.fact 78)
theorem Txt.n_Block_parts (T : Txt w K mg) : NoAttr K (He.ga K "Block") "parts" := He.noat_ok (T.fact 79)
theorem Txt.n_Block_over (T : Txt w K mg) : NoAttr K (He.ga K "Block") "over" := He.noat_ok (T.fact 80)
theorem Txt.n_Block_listed (T : Txt w K mg) : NoAttr K (He.ga K "Block") "listed" := He.noat_ok (T.fact 81)
theorem Txt.g_Draft (T : Txt w K mg) : mg "Draft" = some (.ref (He.ga K "Draft")) := T.glo 82
theorem Txt.c_Draft (T : Txt w K mg) : Cls K (He.ga K "Draft") := He.cls_ok (T.fact 83)
theorem Txt.k_Draft (T : Txt w K mg) : Mk K (He.ga K "Draft") (He.ma K (He.ga K "Draft") "__init__") := He.mkr_ok (T.fact 84)
theorem Txt.m_Draft_take (T : Txt w K mg) : Meth K (He.ga K "Draft") "take" (He.ma K (He.ga K "Draft") "take") := He.meth_ok (T.fact 85)
theorem Txt.m_Draft_deeds (T : Txt w K mg) : Meth K (He.ga K "Draft") "deeds" (He.ma K (He.ga K "Draft") "deeds") := He.meth_ok (T.fact 86)
theorem Txt.m_Draft_take_cell (T : Txt w K mg) : Meth K (He.ga K "Draft") "_take_cell" (He.ma K (He.ga K "Draft") "_take_cell") := He.meth_ok (T.fact 87)
theorem Txt.m_Draft_take_deed (T : Txt w K mg) : Meth K (He.ga K "Draft") "_take_deed" (He.ma K (He.ga K "Draft") "_take_deed") := He.meth_ok (T.fact 88)
theorem Txt.m_Draft_take_else (T : Txt w K mg) : Meth K (He.ga K "Draft") "_take_else" (He.ma K (He.ga K "Draft") "_take_else") := He.meth_ok (T.fact 89)
theorem Txt.m_Draft_take_end (T : Txt w K mg) : Meth K (He.ga K "Draft") "_take_end" (He.ma K (He.ga K "Draft") "_take_end") := He.meth_ok (T.fact 90)
theorem Txt.m_Draft_take_row (T : Txt w K mg) : Meth K (He.ga K "Draft") "_take_row" (He.ma K (He.ga K "Draft") "_take_row") := He.meth_ok (T.fact 91)
theorem Txt.n_Draft_cells (T : Txt w K mg) : NoAttr K (He.ga K "Draft") "cells" := He.noat_ok (T.fact 92)
theorem Txt.n_Draft_around (T : Txt w K mg) : NoAttr K (He.ga K "Draft") "around" := He.noat_ok (T.fact 93)
theorem Txt.n_Draft_past (T : Txt w K mg) : NoAttr K (He.ga K "Draft") "_past" := He.noat_ok (T.fact 94)
theorem Txt.x_NoName (T : Txt w K mg) : PySem.W.excIn K (He.ga K "NoName") He.veBase "ValueError.__new__" = true ∧ PySem.W.keepIn K (.ref (He.ga K "NoName")) = true ∧ PySem.W.subIn K (.ref (He.ga K "NoName")) (.type "BaseException") = some true ∧ PySem.W.typeIn K (.ref (He.ga K "NoName")) = some (.type "type") := He.exc_ok (T.fact 95 (f := .exc "NoName"))
theorem Txt.b_len (T : Txt w K mg) : mg "len" = none := T.fr 96
theorem Txt.b_isinstance (T : Txt w K mg) : mg "isinstance" = none := T.fr 97
theorem Txt.b_int (T : Txt w K mg) : mg "int" = none := T.fr 98
theorem Txt.b_abs (T : Txt w K mg) : mg "abs" = none := T.fr 99
theorem Txt.b_tuple (T : Txt w K mg) : mg "tuple" = none := T.fr 100
theorem Txt.b_list (T : Txt w K mg) : mg "list" = none := T.fr 101
theorem Txt.b_str (T : Txt w K mg) : mg "str" = none := T.fr 102
theorem Txt.b_bool (T : Txt w K mg) : mg "bool" = none := T.fr 103
theorem Txt.b_range (T : Txt w K mg) : mg "range" = none := T.fr 104
theorem Txt.b_zip (T : Txt w K mg) : mg "zip" = none := T.fr 105
theorem Txt.b_enumerate (T : Txt w K mg) : mg "enumerate" = none := T.fr 106
theorem Txt.b_set (T : Txt w K mg) : mg "set" = none := T.fr 107
theorem Txt.b_min (T : Txt w K mg) : mg "min" = none := T.fr 108
theorem Txt.b_max (T : Txt w K mg) : mg "max" = none := T.fr 109
theorem Txt.b_reversed (T : Txt w K mg) : mg "reversed" = none := T.fr 110
theorem Txt.b_sorted (T : Txt w K mg) : mg "sorted" = none := T.fr 111
theorem Txt.b_sum (T : Txt w K mg) : mg "sum" = none := T.fr 112
theorem Txt.b_dict (T : Txt w K mg) : mg "dict" = none := T.fr 113
theorem Txt.b_all (T : Txt w K mg) : mg "all" = none := T.fr 114
theorem Txt.b_any (T : Txt w K mg) : mg "any" = none := T.fr 115
theorem Txt.i_MOST_CELLS (T : Txt w K mg) : ∃ u, mg "MOST_CELLS" = some u ∧ RelV (.int 6) u := T.int 116
theorem Txt.i_GREATEST_SIZE (T : Txt w K mg) : ∃ u, mg "GREATEST_SIZE" = some u ∧ RelV (.int 9) u := T.int 117
theorem Txt.g_CHANGED (T : Txt w K mg) : mg "CHANGED" = some (.ref (He.ga K "CHANGED")) := T.glo 118
theorem Txt.g_HELD (T : Txt w K mg) : mg "HELD" = some (.ref (He.ga K "HELD")) := T.glo 119
theorem Txt.g_SIGNS (T : Txt w K mg) : mg "SIGNS" = some (.ref (He.ga K "SIGNS")) := T.glo 120
theorem Txt.g_FORMS (T : Txt w K mg) : mg "FORMS" = some (.ref (He.ga K "FORMS")) := T.glo 121
theorem Txt.i_DEEPEST_EXPRESSION (T : Txt w K mg) : ∃ u, mg "DEEPEST_EXPRESSION" = some u ∧ RelV (.int 6) u := T.int 122
theorem Txt.i_DEEPEST_ROW (T : Txt w K mg) : ∃ u, mg "DEEPEST_ROW" = some u ∧ RelV (.int 12) u := T.int 123
theorem Txt.i_DEEPEST_TIMES (T : Txt w K mg) : ∃ u, mg "DEEPEST_TIMES" = some u ∧ RelV (.int 2) u := T.int 124
theorem Txt.i_MOST_COINS (T : Txt w K mg) : ∃ u, mg "MOST_COINS" = some u ∧ RelV (.int 4) u := T.int 125
theorem Txt.i_MOST_ROWS (T : Txt w K mg) : ∃ u, mg "MOST_ROWS" = some u ∧ RelV (.int 2000) u := T.int 126
theorem Txt.i_MOST_DEEDS (T : Txt w K mg) : ∃ u, mg "MOST_DEEDS" = some u ∧ RelV (.int 8) u := T.int 127
theorem Txt.i_LONGEST_NAME (T : Txt w K mg) : ∃ u, mg "LONGEST_NAME" = some u ∧ RelV (.int 8) u := T.int 128
theorem Txt.i_MOST_CHOICES (T : Txt w K mg) : ∃ u, mg "MOST_CHOICES" = some u ∧ RelV (.int 9) u := T.int 129
theorem Txt.i_MOST_DIGITS (T : Txt w K mg) : ∃ u, mg "MOST_DIGITS" = some u ∧ RelV (.int 3) u := T.int 130
theorem Txt.f__wall (T : Txt w K mg) : ∃ f, FunD K "_wall" "_wall" (defArgs s__wall) (defBody s__wall) (defScope s__wall) [] [] (He.fAd K ("_wall", none)) f := T.fd 0
theorem Txt.f_NoVault_init (T : Txt w K mg) : ∃ f, FunD K "__init__" "NoVault.__init__" (defArgs s_NoVault_init) (defBody s_NoVault_init) (defScope s_NoVault_init) [] [] (He.fAd K ("NoVault", some "__init__")) f := T.fd 1
theorem Txt.f_NoText_init (T : Txt w K mg) : ∃ f, FunD K "__init__" "NoText.__init__" (defArgs s_NoText_init) (defBody s_NoText_init) (defScope s_NoText_init) [] [] (He.fAd K ("NoText", some "__init__")) f := T.fd 2
theorem Txt.f_is_integer (T : Txt w K mg) : ∃ f, FunD K "is_integer" "is_integer" (defArgs s_is_integer) (defBody s_is_integer) (defScope s_is_integer) [] [] (He.fAd K ("is_integer", none)) f := T.fd 3
theorem Txt.f_is_within (T : Txt w K mg) : ∃ f, FunD K "is_within" "is_within" (defArgs s_is_within) (defBody s_is_within) (defScope s_is_within) [] [] (He.fAd K ("is_within", none)) f := T.fd 4
theorem Txt.f_is_tuple (T : Txt w K mg) : ∃ f, FunD K "is_tuple" "is_tuple" (defArgs s_is_tuple) (defBody s_is_tuple) (defScope s_is_tuple) [] [] (He.fAd K ("is_tuple", none)) f := T.fd 5
theorem Txt.f_Tally_init (T : Txt w K mg) : ∃ f, FunD K "__init__" "Tally.__init__" (defArgs s_Tally_init) (defBody s_Tally_init) (defScope s_Tally_init) [] [] (He.fAd K ("Tally", some "__init__")) f := T.fd 6
theorem Txt.f_is_expression (T : Txt w K mg) : ∃ f, FunD K "is_expression" "is_expression" (defArgs s_is_expression) (defBody s_is_expression) (defScope s_is_expression) [] [] (He.fAd K ("is_expression", none)) f := T.fd 7
theorem Txt.f_is_part (T : Txt w K mg) : ∃ f, FunD K "is_part" "is_part" (defArgs s_is_part) (defBody s_is_part) (defScope s_is_part) [] [] (He.fAd K ("is_part", none)) f := T.fd 8
theorem Txt.f_is_body_row (T : Txt w K mg) : ∃ f, FunD K "is_body_row" "is_body_row" (defArgs s_is_body_row) (defBody s_is_body_row) (defScope s_is_body_row) [] [] (He.fAd K ("is_body_row", none)) f := T.fd 9
theorem Txt.f_are_body_rows (T : Txt w K mg) : ∃ f, FunD K "are_body_rows" "are_body_rows" (defArgs s_are_body_rows) (defBody s_are_body_rows) (defScope s_are_body_rows) [] [] (He.fAd K ("are_body_rows", none)) f := T.fd 10
theorem Txt.f_is_body (T : Txt w K mg) : ∃ f, FunD K "is_body" "is_body" (defArgs s_is_body) (defBody s_is_body) (defScope s_is_body) [] [] (He.fAd K ("is_body", none)) f := T.fd 11
theorem Txt.f_code_of (T : Txt w K mg) : ∃ f, FunD K "code_of" "code_of" (defArgs s_code_of) (defBody s_code_of) (defScope s_code_of) [] [] (He.fAd K ("code_of", none)) f := T.fd 12
theorem Txt.f_put_rows (T : Txt w K mg) : ∃ f, FunD K "put_rows" "put_rows" (defArgs s_put_rows) (defBody s_put_rows) (defScope s_put_rows) [] [] (He.fAd K ("put_rows", none)) f := T.fd 13
theorem Txt.f_put_if (T : Txt w K mg) : ∃ f, FunD K "put_if" "put_if" (defArgs s_put_if) (defBody s_put_if) (defScope s_put_if) [] [] (He.fAd K ("put_if", none)) f := T.fd 14
theorem Txt.f_put_times (T : Txt w K mg) : ∃ f, FunD K "put_times" "put_times" (defArgs s_put_times) (defBody s_put_times) (defScope s_put_times) [] [] (He.fAd K ("put_times", none)) f := T.fd 15
theorem Txt.f_Vault_init (T : Txt w K mg) : ∃ f, FunD K "__init__" "Vault.__init__" (defArgs s_Vault_init) (defBody s_Vault_init) (defScope s_Vault_init) [] [] (He.fAd K ("Vault", some "__init__")) f := T.fd 16
theorem Txt.f_Vault_sizes (T : Txt w K mg) : ∃ f, FunD K "sizes" "Vault.sizes" (defArgs s_Vault_sizes) (defBody s_Vault_sizes) (defScope s_Vault_sizes) [] [] (He.fAd K ("Vault", some "sizes")) f := T.fd 17
theorem Txt.f_Vault_first (T : Txt w K mg) : ∃ f, FunD K "first" "Vault.first" (defArgs s_Vault_first) (defBody s_Vault_first) (defScope s_Vault_first) [] [] (He.fAd K ("Vault", some "first")) f := T.fd 18
theorem Txt.f_Vault_names (T : Txt w K mg) : ∃ f, FunD K "names" "Vault.names" (defArgs s_Vault_names) (defBody s_Vault_names) (defScope s_Vault_names) [] [] (He.fAd K ("Vault", some "names")) f := T.fd 19
theorem Txt.f_Vault_choices (T : Txt w K mg) : ∃ f, FunD K "choices" "Vault.choices" (defArgs s_Vault_choices) (defBody s_Vault_choices) (defScope s_Vault_choices) [] [] (He.fAd K ("Vault", some "choices")) f := T.fd 20
theorem Txt.f_Vault_rows (T : Txt w K mg) : ∃ f, FunD K "rows" "Vault.rows" (defArgs s_Vault_rows) (defBody s_Vault_rows) (defScope s_Vault_rows) [] [] (He.fAd K ("Vault", some "rows")) f := T.fd 21
theorem Txt.f_Vault_calls (T : Txt w K mg) : ∃ f, FunD K "calls" "Vault.calls" (defArgs s_Vault_calls) (defBody s_Vault_calls) (defScope s_Vault_calls) [] [] (He.fAd K ("Vault", some "calls")) f := T.fd 22
theorem Txt.f_Vault_has_coins (T : Txt w K mg) : ∃ f, FunD K "has_coins" "Vault.has_coins" (defArgs s_Vault_has_coins) (defBody s_Vault_has_coins) (defScope s_Vault_has_coins) [] [] (He.fAd K ("Vault", some "has_coins")) f := T.fd 23
theorem Txt.f_Vault_shape (T : Txt w K mg) : ∃ f, FunD K "shape" "Vault.shape" (defArgs s_Vault_shape) (defBody s_Vault_shape) (defScope s_Vault_shape) [] [] (He.fAd K ("Vault", some "shape")) f := T.fd 24
theorem Txt.f_Vault_starts (T : Txt w K mg) : ∃ f, FunD K "starts" "Vault.starts" (defArgs s_Vault_starts) (defBody s_Vault_starts) (defScope s_Vault_starts) [] [] (He.fAd K ("Vault", some "starts")) f := T.fd 25
theorem Txt.f_Vault_deed (T : Txt w K mg) : ∃ f, FunD K "_deed" "Vault._deed" (defArgs s_Vault_deed) (defBody s_Vault_deed) (defScope s_Vault_deed) [] [] (He.fAd K ("Vault", some "_deed")) f := T.fd 26
theorem Txt.f_Vault_eq (T : Txt w K mg) : ∃ f, FunD K "__eq__" "Vault.__eq__" (defArgs s_Vault_eq) (defBody s_Vault_eq) (defScope s_Vault_eq) [] [] (He.fAd K ("Vault", some "__eq__")) f := T.fd 27
theorem Txt.f_has_row (T : Txt w K mg) : ∃ f, FunD K "has_row" "has_row" (defArgs s_has_row) (defBody s_has_row) (defScope s_has_row) [] [] (He.fAd K ("has_row", none)) f := T.fd 28
theorem Txt.f_is_cell (T : Txt w K mg) : ∃ f, FunD K "is_cell" "is_cell" (defArgs s_is_cell) (defBody s_is_cell) (defScope s_is_cell) [] [] (He.fAd K ("is_cell", none)) f := T.fd 29
theorem Txt.f_are_cells (T : Txt w K mg) : ∃ f, FunD K "are_cells" "are_cells" (defArgs s_are_cells) (defBody s_are_cells) (defScope s_are_cells) [] [] (He.fAd K ("are_cells", none)) f := T.fd 30
theorem Txt.f_is_name (T : Txt w K mg) : ∃ f, FunD K "is_name" "is_name" (defArgs s_is_name) (defBody s_is_name) (defScope s_is_name) [] [] (He.fAd K ("is_name", none)) f := T.fd 31
theorem Txt.f_is_deed_head (T : Txt w K mg) : ∃ f, FunD K "is_deed_head" "is_deed_head" (defArgs s_is_deed_head) (defBody s_is_deed_head) (defScope s_is_deed_head) [] [] (He.fAd K ("is_deed_head", none)) f := T.fd 32
theorem Txt.f_is_deed (T : Txt w K mg) : ∃ f, FunD K "is_deed" "is_deed" (defArgs s_is_deed) (defBody s_is_deed) (defScope s_is_deed) [] [] (He.fAd K ("is_deed", none)) f := T.fd 33
theorem Txt.f_are_deeds (T : Txt w K mg) : ∃ f, FunD K "are_deeds" "are_deeds" (defArgs s_are_deeds) (defBody s_are_deeds) (defScope s_are_deeds) [] [] (He.fAd K ("are_deeds", none)) f := T.fd 34
theorem Txt.f_number_in (T : Txt w K mg) : ∃ f, FunD K "number_in" "number_in" (defArgs s_number_in) (defBody s_number_in) (defScope s_number_in) [] [] (He.fAd K ("number_in", none)) f := T.fd 35
theorem Txt.f_text_of (T : Txt w K mg) : ∃ f, FunD K "text_of" "text_of" (defArgs s_text_of) (defBody s_text_of) (defScope s_text_of) [] [] (He.fAd K ("text_of", none)) f := T.fd 36
theorem Txt.f_expression_in (T : Txt w K mg) : ∃ f, FunD K "expression_in" "expression_in" (defArgs s_expression_in) (defBody s_expression_in) (defScope s_expression_in) [] [] (He.fAd K ("expression_in", none)) f := T.fd 37
theorem Txt.f_expression_at (T : Txt w K mg) : ∃ f, FunD K "expression_at" "expression_at" (defArgs s_expression_at) (defBody s_expression_at) (defScope s_expression_at) [] [] (He.fAd K ("expression_at", none)) f := T.fd 38
theorem Txt.f_vault_text (T : Txt w K mg) : ∃ f, FunD K "vault_text" "vault_text" (defArgs s_vault_text) (defBody s_vault_text) (defScope s_vault_text) [] [] (He.fAd K ("vault_text", none)) f := T.fd 39
theorem Txt.f_put_lines (T : Txt w K mg) : ∃ f, FunD K "put_lines" "put_lines" (defArgs s_put_lines) (defBody s_put_lines) (defScope s_put_lines) [] [] (He.fAd K ("put_lines", none)) f := T.fd 40
theorem Txt.f_value_in (T : Txt w K mg) : ∃ f, FunD K "value_in" "value_in" (defArgs s_value_in) (defBody s_value_in) (defScope s_value_in) [] [] (He.fAd K ("value_in", none)) f := T.fd 41
theorem Txt.f_Block_init (T : Txt w K mg) : ∃ f, FunD K "__init__" "Block.__init__" (defArgs s_Block_init) (defBody s_Block_init) (defScope s_Block_init) [] [] (He.fAd K ("Block", some "__init__")) f := T.fd 42
theorem Txt.f_Block_left (T : Txt w K mg) : ∃ f, FunD K "left" "Block.left" (defArgs s_Block_left) (defBody s_Block_left) (defScope s_Block_left) [] [] (He.fAd K ("Block", some "left")) f := T.fd 43
theorem Txt.f_Block_turn (T : Txt w K mg) : ∃ f, FunD K "turn" "Block.turn" (defArgs s_Block_turn) (defBody s_Block_turn) (defScope s_Block_turn) [] [] (He.fAd K ("Block", some "turn")) f := T.fd 44
theorem Txt.f_Block_whole (T : Txt w K mg) : ∃ f, FunD K "whole" "Block.whole" (defArgs s_Block_whole) (defBody s_Block_whole) (defScope s_Block_whole) [] [] (He.fAd K ("Block", some "whole")) f := T.fd 45
theorem Txt.f_Draft_init (T : Txt w K mg) : ∃ f, FunD K "__init__" "Draft.__init__" (defArgs s_Draft_init) (defBody s_Draft_init) (defScope s_Draft_init) [] [] (He.fAd K ("Draft", some "__init__")) f := T.fd 46
theorem Txt.f_Draft_take (T : Txt w K mg) : ∃ f, FunD K "take" "Draft.take" (defArgs s_Draft_take) (defBody s_Draft_take) (defScope s_Draft_take) [] [] (He.fAd K ("Draft", some "take")) f := T.fd 47
theorem Txt.f_Draft_deeds (T : Txt w K mg) : ∃ f, FunD K "deeds" "Draft.deeds" (defArgs s_Draft_deeds) (defBody s_Draft_deeds) (defScope s_Draft_deeds) [] [] (He.fAd K ("Draft", some "deeds")) f := T.fd 48
theorem Txt.f_Draft_take_cell (T : Txt w K mg) : ∃ f, FunD K "_take_cell" "Draft._take_cell" (defArgs s_Draft_take_cell) (defBody s_Draft_take_cell) (defScope s_Draft_take_cell) [] [] (He.fAd K ("Draft", some "_take_cell")) f := T.fd 49
theorem Txt.f_Draft_take_deed (T : Txt w K mg) : ∃ f, FunD K "_take_deed" "Draft._take_deed" (defArgs s_Draft_take_deed) (defBody s_Draft_take_deed) (defScope s_Draft_take_deed) [] [] (He.fAd K ("Draft", some "_take_deed")) f := T.fd 50
theorem Txt.f_Draft_take_else (T : Txt w K mg) : ∃ f, FunD K "_take_else" "Draft._take_else" (defArgs s_Draft_take_else) (defBody s_Draft_take_else) (defScope s_Draft_take_else) [] [] (He.fAd K ("Draft", some "_take_else")) f := T.fd 51
theorem Txt.f_Draft_take_end (T : Txt w K mg) : ∃ f, FunD K "_take_end" "Draft._take_end" (defArgs s_Draft_take_end) (defBody s_Draft_take_end) (defScope s_Draft_take_end) [] [] (He.fAd K ("Draft", some "_take_end")) f := T.fd 52
theorem Txt.f_Draft_take_row (T : Txt w K mg) : ∃ f, FunD K "_take_row" "Draft._take_row" (defArgs s_Draft_take_row) (defBody s_Draft_take_row) (defScope s_Draft_take_row) [] [] (He.fAd K ("Draft", some "_take_row")) f := T.fd 53
theorem Txt.f_read_vault (T : Txt w K mg) : ∃ f, FunD K "read_vault" "read_vault" (defArgs s_read_vault) (defBody s_read_vault) (defScope s_read_vault) [] [] (He.fAd K ("read_vault", none)) f := T.fd 54
theorem Txt.f_l_pool (T : Txt w K mg) : ∃ f, FunD K "_law_pool" "_law_pool" (defArgs s_l_pool) (defBody s_l_pool) (defScope s_l_pool) [] [] (He.fAd K ("_law_pool", none)) f := T.fd 55
theorem Txt.f_l_draw (T : Txt w K mg) : ∃ f, FunD K "_law_draw" "_law_draw" (defArgs s_l_draw) (defBody s_l_draw) (defScope s_l_draw) [] [] (He.fAd K ("_law_draw", none)) f := T.fd 56
theorem Txt.f_l_e (T : Txt w K mg) : ∃ f, FunD K "_law_e" "_law_e" (defArgs s_l_e) (defBody s_l_e) (defScope s_l_e) [] [] (He.fAd K ("_law_e", none)) f := T.fd 57
theorem Txt.f_l_deep (T : Txt w K mg) : ∃ f, FunD K "_law_deep" "_law_deep" (defArgs s_l_deep) (defBody s_l_deep) (defScope s_l_deep) [] [] (He.fAd K ("_law_deep", none)) f := T.fd 58
theorem Txt.f_l_rows (T : Txt w K mg) : ∃ f, FunD K "_law_rows" "_law_rows" (defArgs s_l_rows) (defBody s_l_rows) (defScope s_l_rows) [] [] (He.fAd K ("_law_rows", none)) f := T.fd 59
theorem Txt.f_l_one (T : Txt w K mg) : ∃ f, FunD K "_law_one" "_law_one" (defArgs s_l_one) (defBody s_l_one) (defScope s_l_one) [] [] (He.fAd K ("_law_one", none)) f := T.fd 60
theorem Txt.f_l_name (T : Txt w K mg) : ∃ f, FunD K "_law_name" "_law_name" (defArgs s_l_name) (defBody s_l_name) (defScope s_l_name) [] [] (He.fAd K ("_law_name", none)) f := T.fd 61
theorem Txt.f_l_vault (T : Txt w K mg) : ∃ f, FunD K "_law_vault" "_law_vault" (defArgs s_l_vault) (defBody s_l_vault) (defScope s_l_vault) [] [] (He.fAd K ("_law_vault", none)) f := T.fd 62
theorem Txt.f_l_long (T : Txt w K mg) : ∃ f, FunD K "_law_long" "_law_long" (defArgs s_l_long) (defBody s_l_long) (defScope s_l_long) [] [] (He.fAd K ("_law_long", none)) f := T.fd 63
theorem Txt.f_l_changed (T : Txt w K mg) : ∃ f, FunD K "_law_changed" "_law_changed" (defArgs s_l_changed) (defBody s_l_changed) (defScope s_l_changed) [] [] (He.fAd K ("_law_changed", none)) f := T.fd 64
theorem Txt.f_l_word (T : Txt w K mg) : ∃ f, FunD K "_law_word" "_law_word" (defArgs s_l_word) (defBody s_l_word) (defScope s_l_word) [] [] (He.fAd K ("_law_word", none)) f := T.fd 65
theorem Txt.f_l_lines (T : Txt w K mg) : ∃ f, FunD K "_law_lines" "_law_lines" (defArgs s_l_lines) (defBody s_l_lines) (defScope s_l_lines) [] [] (He.fAd K ("_law_lines", none)) f := T.fd 66
theorem Txt.f_l_text (T : Txt w K mg) : ∃ f, FunD K "_law_text" "_law_text" (defArgs s_l_text) (defBody s_l_text) (defScope s_l_text) [] [] (He.fAd K ("_law_text", none)) f := T.fd 67
theorem Txt.f_l_plain (T : Txt w K mg) : ∃ f, FunD K "_law_plain" "_law_plain" (defArgs s_l_plain) (defBody s_l_plain) (defScope s_l_plain) [] [] (He.fAd K ("_law_plain", none)) f := T.fd 68
theorem Txt.f_l_coins (T : Txt w K mg) : ∃ f, FunD K "_law_coins" "_law_coins" (defArgs s_l_coins) (defBody s_l_coins) (defScope s_l_coins) [] [] (He.fAd K ("_law_coins", none)) f := T.fd 69
theorem Txt.f_l_holds (T : Txt w K mg) : ∃ f, FunD K "_law_holds" "_law_holds" (defArgs s_l_holds) (defBody s_l_holds) (defScope s_l_holds) [] [] (He.fAd K ("_law_holds", none)) f := T.fd 70
theorem Txt.f_law (T : Txt w K mg) : ∃ f, FunD K "law" "law" (defArgs s_law) (defBody s_law) (defScope s_law) [] [] (He.fAd K ("law", none)) f := T.fd 71
theorem Txt.e_CHANGED (T : Txt w K mg) : He.tupB K "CHANGED" [.str "a", .str "b", .str "c", .str "d"] = true := (He.ba T.ex).1
theorem Txt.e_HELD (T : Txt w K mg) : He.tupB K "HELD" [.str "a", .str "b", .str "c", .str "d", .str "x"] = true := (He.ba (He.ba T.ex).2).1
theorem Txt.e_SIGNS (T : Txt w K mg) : He.tupB K "SIGNS" [.str "+", .str "-", .str "*", .str "=", .str "<"] = true := (He.ba (He.ba (He.ba T.ex).2).2).1
theorem Txt.e_FORMS (T : Txt w K mg) : formsB K (He.ga K "FORMS") [("read", ["REG", "CELL"]), ("set", ["CELL", "E"]), ("swap", ["REG", "CELL", "E", "E"]), ("keep", ["REG", "E"]), ("coin", ["REG"]), ("if", ["E", "ROWS", "ROWS"]), ("times", ["E", "ROWS"]), ("answer", ["E"])] = true := (He.ba (He.ba (He.ba (He.ba T.ex).2).2).2).1
theorem Txt.e_NoVault (T : Txt w K mg) : oexB K "NoVault" "part" = true := (He.ba (He.ba (He.ba (He.ba (He.ba T.ex).2).2).2).2).1
theorem Txt.e_NoText (T : Txt w K mg) : oexB K "NoText" "line" = true := (He.ba (He.ba (He.ba (He.ba (He.ba (He.ba T.ex).2).2).2).2).2).1
theorem Txt.e_PastError (T : Txt w K mg) : pinB K "PastError" = true := (He.ba (He.ba (He.ba (He.ba (He.ba (He.ba (He.ba T.ex).2).2).2).2).2).2).1
theorem Txt.e_own_Vault (T : Txt w K mg) : ownB K "Vault" = true := (He.ba (He.ba (He.ba (He.ba (He.ba (He.ba (He.ba T.ex).2).2).2).2).2).2).2
theorem Txt.t_FORMS (T : Txt w K mg) : ∃ es n, KDict K w (He.ga K "FORMS") es n := T.tab 0
end
end M

set_option Elab.async false
set_option linter.all false
set_option maxRecDepth 100000
set_option maxHeartbeats 2000000
namespace M
open PySem PySem.Spec PyProof.Rows L2
/-! ### defs by their names, what they promise -/
/-- the global name x holds a def that keeps sp at level k -/
structure Ca (P : Program) (w : World) (K : PySem.W.Frag) (mg : Str → Option Value) (base : Heap) (k : Nat) (x : Str) (sp : Sp) : Prop where
  ex : ∃ (f : Addr) (fd : FuncData) (ps : List Str), FnOk P w K mg base CX0 k f fd ps sp ∧ mg x = some (.ref f) ∧ PySem.W.keepIn K (.ref f) = true ∧ Binds K fd ps []
/-- a method of the class C -/
structure Me (P : Program) (w : World) (K : PySem.W.Frag) (mg : Str → Option Value) (base : Heap) (k : Nat) (C : Addr) (m : Str) (sp : Sp) : Prop where
  ex : ∃ (f : Addr) (fd : FuncData) (ps : List Str), Cls K C ∧ Meth K C m f ∧ FnOk P w K mg base CX0 k f fd ps sp ∧ Binds K fd ps []
/-- the class x is made by its __init__ -/
structure Ma (P : Program) (w : World) (K : PySem.W.Frag) (mg : Str → Option Value) (base : Heap) (k : Nat) (x : Str) (C : Addr) (sp : Sp) : Prop where
  ex : ∃ (f : Addr) (fd : FuncData) (ps : List Str), Mk K C f ∧ FnOk P w K mg base CX0 k f fd ps sp ∧ mg x = some (.ref C) ∧ Binds K fd ps []
section
variable {P : Program} {w : World} {K : PySem.W.Frag} {mg : Str → Option Value} {base : Heap} {x m q : Str} {st : Stmt} {N ps : List Str} {k : Nat} {sp : Sp} {C f : Addr}
abbrev BindsH (x q : Str) (st : Stmt) (ps : List Str) : Prop := ∀ (kV doc pm : Value) (an : Option Addr) (cdv ct : Value) (us : List Value), us.length = ps.length → bindArgs (PySem.W.fnOf x q (defArgs st) (defBody st) (defScope st) .none kV doc pm an cdv ct) ⟨us, []⟩ = pure (ps.zip us)
abbrev BodyH (P : Program) (w : World) (K : PySem.W.Frag) (mg : Str → Option Value) (base : Heap) (q : Str) (st : Stmt) (N : List Str) (k : Nat) (f : Addr) (sp : Sp) : Prop := ∀ (cdv : Value) (A : Around) (outer : List Env) (s : Shared) (H : Hp) (vs : List V) (Q : VK) (E : XK), Room k (A.deeper (envOfC q (defScope st) s.heap.objs.size f cdv)) → sp vs H Q E →
      ∃ t, PSs (cxOf CX0 P w K mg base N q (defScope st) f cdv A outer s H E).nox (defBody st) t ∧ t { nx := fun _ H' => Q .non H', rt := Q } (start N vs) H
theorem fn_d {fd : FuncData} (F : FunD K x q (defArgs st) (defBody st) (defScope st) [] [] f fd) (S : FnScope N ps (defScope st)) (len : ∀ vs H Q E, sp vs H Q E → vs.length = ps.length)
    (hbody : BodyH P w K mg base q st N k f sp) : FnOk P w K mg base CX0 (k + 1) f fd ps sp := by
  refine F.ok S len (fun cdv A outer s H vs Q E hr h => ?_)
  obtain ⟨t, h1, h2⟩ := hbody cdv A outer s H vs Q E hr h
  exact ⟨t, h1.nox, h2⟩
theorem ca_of (F : ∃ fd, FunD K x x (defArgs st) (defBody st) (defScope st) [] [] (He.fAd K (x, none)) fd) (g : mg x = some (.ref (He.ga K x))) (S : FnScope N ps (defScope st)) (hb : BindsH x x st ps) (len : ∀ vs H Q E, sp vs H Q E → vs.length = ps.length)
    (hbody : BodyH P w K mg base x st N k (He.fAd K (x, none)) sp) : Ca P w K mg base (k + 1) x sp := by
  obtain ⟨fd, F⟩ := F
  exact ⟨_, fd, ps, fn_d F S len hbody, g, F.kp, F.bindsN hb⟩
theorem me_of {C : Str} (F : ∃ fd, FunD K m q (defArgs st) (defBody st) (defScope st) [] [] (He.fAd K (C, some m)) fd) (c : Cls K (He.ga K C)) (g : Meth K (He.ga K C) m (He.ma K (He.ga K C) m)) (S : FnScope N ps (defScope st)) (hb : BindsH m q st ps) (len : ∀ vs H Q E, sp vs H Q E → vs.length = ps.length)
    (hbody : BodyH P w K mg base q st N k (He.fAd K (C, some m)) sp) : Me P w K mg base (k + 1) (He.ga K C) m sp := by
  obtain ⟨fd, F⟩ := F
  exact ⟨_, fd, ps, c, g, fn_d F S len hbody, F.bindsN hb⟩
theorem ma_of {C : Str} (F : ∃ fd, FunD K "__init__" q (defArgs st) (defBody st) (defScope st) [] [] (He.fAd K (C, some "__init__")) fd) (g : mg C = some (.ref (He.ga K C))) (mk : Mk K (He.ga K C) (He.ma K (He.ga K C) "__init__")) (S : FnScope N ps (defScope st)) (hb : BindsH "__init__" q st ps) (len : ∀ vs H Q E, sp vs H Q E → vs.length = ps.length)
    (hbody : BodyH P w K mg base q st N k (He.fAd K (C, some "__init__")) sp) : Ma P w K mg base (k + 1) C (He.ga K C) sp := by
  obtain ⟨fd, F⟩ := F
  exact ⟨_, fd, ps, mk, fn_d F S len hbody, g, F.bindsN hb⟩
theorem Ca.mono {j : Nat} (c : Ca P w K mg base j x sp) (h : j ≤ k) : Ca P w K mg base k x sp := by
  obtain ⟨f, fd, ps, F, r⟩ := c.ex
  exact ⟨f, fd, ps, F.mono h, r⟩
end
section
variable {X : Cx} {k j : Nat} {x m : Str} {sp : Sp} {C : Addr} {p pos apos : Pos} {e o : Expr} {es : List Expr} {t : TA} {ta : TE}
theorem pe_ca (c : Ca X.prog X.w X.K X.mg X.base k x sp) (hr : Room j X.A) (ha : PA X (e :: es) t) (hk : k ≤ j := by decide) (hg : Gl X x := by rfl)
    (hdb : (x == ("__debug__" : Str)) = false := by decide) (he : starEach (e :: es) X.env = (false, eval e X.env) :: starEach es X.env := by rfl) (hpl : (backTo pos (starEach es X.env)).any (·.1) = false := by rfl) :
    PE X (.Call (.Name x p) (e :: es) [] pos) (tCall sp [] E0 t) := by
  obtain ⟨f, fd, ps, F, hm, kp, b⟩ := c.ex
  exact pe_call F (hr.mono hk) hg hm kp b .nil pass0 ha hdb he hpl
theorem pe_ma (c : Ma X.prog X.w X.K X.mg X.base k x C sp) (hr : Room j X.A) (ha : PA X (e :: es) t) (hk : k + 1 ≤ j := by decide) (hg : Gl X x := by rfl)
    (hdb : (x == ("__debug__" : Str)) = false := by decide) (he : starEach (e :: es) X.env = (false, eval e X.env) :: starEach es X.env := by rfl) (hpl : (backTo pos (starEach es X.env)).any (·.1) = false := by rfl) :
    PE X (.Call (.Name x p) (e :: es) [] pos) (tMake C sp [] E0 t) := by
  obtain ⟨f, fd, ps, M, F, hm, b⟩ := c.ex
  exact pe_make M F (hr.mono hk) hg hm b .nil pass0 ha hdb he hpl
theorem pe_me0 {pl : Sem Bool} (c : Me X.prog X.w X.K X.mg X.base k C m sp) (hr : Room j X.A) (he : PE X o ta) (hk : k ≤ j := by decide)
    (ht : eval (.Call (.Attribute o m apos) [] [] pos) X.env = (do
      let ov ← eval o X.env
      standAt apos.atName
      let (f, first) ← holding [ov] (getMethod ov m pl)
      callWith pos f first (backTo pos (starEach [] X.env)) (backToKw pos (keywordEach [] X.env))) := by rfl) :
    PE X (.Call (.Attribute o m apos) [] [] pos) (tMeth C m sp [] E0 ta tNil) := by
  obtain ⟨f, fd, ps, hc, hm, F, b⟩ := c.ex
  exact pe_meth0 (pl := pl) he hc hm F (hr.mono hk) b .nil pass0 ht
theorem pe_me {pl : Sem Bool} (c : Me X.prog X.w X.K X.mg X.base k C m sp) (hr : Room j X.A) (he : PE X o ta) (ha : PA X (e :: es) t) (hk : k ≤ j := by decide)
    (hst : starEach (e :: es) X.env = (false, eval e X.env) :: starEach es X.env := by rfl) (hpl : (backTo pos (starEach es X.env)).any (·.1) = false := by rfl)
    (ht : eval (.Call (.Attribute o m apos) (e :: es) [] pos) X.env = (do
      let ov ← eval o X.env
      standAt apos.atName
      let (f, first) ← holding [ov] (getMethod ov m pl)
      callWith pos f first (backTo pos (starEach (e :: es) X.env)) (backToKw pos (keywordEach [] X.env))) := by rfl) :
    PE X (.Call (.Attribute o m apos) (e :: es) [] pos) (tMeth C m sp [] E0 ta t) := by
  obtain ⟨f, fd, ps, hc, hm, F, b⟩ := c.ex
  exact pe_meth (pl := pl) he hc hm F (hr.mono hk) b .nil pass0 ha hst hpl ht
/-- isinstance(a, b) -/
theorem pe_isi {a b : Expr} {ta tb : TE} (h : X.mg "isinstance" = none) (ha : PE X a ta) (hb : PE X b tb) (hg : Gl X "isinstance" := by rfl)
    (he : starEach [a, b] X.env = (false, eval a X.env) :: starEach [b] X.env := by rfl) (hpl : (backTo pos (starEach [b] X.env)).any (·.1) = false := by rfl)
    (he2 : starEach [b] X.env = (false, eval b X.env) :: starEach [] X.env := by rfl) :
    PE X (.Call (.Name "isinstance" p) [a, b] [] pos) (tCB (rIsi X.K) (tCons ta (tCons tb tNil))) :=
  pe_callB call_isi hg h boot_isinstance (pa_cons ha (pa_cons hb pa_nil he2) he) (he := he) (hpl := hpl)
/-- a built-in class as a value -/
theorem pe_ty {n : String} {x : Str} (h : X.mg x = none) (hv : bootBuiltins x = some (.type n)) (hg : Gl X x := by rfl) (hn : x ≠ "__name__" := by decide) (hd : (x == ("__debug__" : Str)) = false := by decide) : PE X (.Name x pos) (tC (.ty n)) := pe_bltn hg h hv rfl hn hd
theorem pe_gi {n : Int} {x : Str} (h : ∃ u, X.mg x = some u ∧ RelV (.int n) u) (hg : Gl X x := by rfl) (hd : (x == ("__debug__" : Str)) = false := by decide) : PE X (.Name x pos) (tC (.int n)) := by
  obtain ⟨u, hm, r⟩ := h
  exact pe_glob hg hm r hd
theorem pe_gr {x : Str} {a : Addr} (h : X.mg x = some (.ref a)) (hg : Gl X x := by rfl) (hd : (x == ("__debug__" : Str)) = false := by decide) : PE X (.Name x pos) (tC (.ref a)) := pe_glob hg h rfl hd
end
section
variable {X : Cx} {i j k : Nat} {x y z : Str} {p1 p2 p3 pos : Pos} {n : Nat}
/-- a, b as a target -/
theorem pg_two (K : PySem.W.Frag) (i j : Nat) (hK : X.K = K) (hc : X.calm = true) (nd : X.N.Nodup) (hi : X.N[i]? = some x) (hj : X.N[j]? = some y) (hx : Loc X.env.scope x) (hy : Loc X.env.scope y)
    (fx : X.fn x = true ∨ X.env.scope.names.lookup x = some .local) (fy : X.fn y = true ∨ X.env.scope.names.lookup y = some .local) :
    PG X (.Tuple [.Name x p1, .Name y p2] n pos) (gTup K 2 (gCons (gName i) (gCons (gName j) gNil))) := hK ▸
  pg_tup hc (pgs_cons (pg_name nd hi hx fx) (pgs_cons (pg_name nd hj hy fy) pgs_nil))
/-- a, b, c as a target -/
theorem pg_three (K : PySem.W.Frag) (i j k : Nat) (hK : X.K = K) (hc : X.calm = true) (nd : X.N.Nodup) (hi : X.N[i]? = some x) (hj : X.N[j]? = some y) (hk : X.N[k]? = some z) (hx : Loc X.env.scope x) (hy : Loc X.env.scope y) (hz : Loc X.env.scope z)
    (fx : X.fn x = true ∨ X.env.scope.names.lookup x = some .local) (fy : X.fn y = true ∨ X.env.scope.names.lookup y = some .local) (fz : X.fn z = true ∨ X.env.scope.names.lookup z = some .local) :
    PG X (.Tuple [.Name x p1, .Name y p2, .Name z p3] n pos) (gTup K 3 (gCons (gName i) (gCons (gName j) (gCons (gName k) gNil)))) := hK ▸
  pg_tup hc (pgs_cons (pg_name nd hi hx fx) (pgs_cons (pg_name nd hj hy fy) (pgs_cons (pg_name nd hk hz fz) pgs_nil)))
end
theorem boot_int : bootBuiltins "int" = some (.type "int") := by decide +kernel
theorem boot_bool : bootBuiltins "bool" = some (.type "bool") := by decide +kernel
theorem boot_str : bootBuiltins "str" = some (.type "str") := by decide +kernel
theorem boot_list : bootBuiltins "list" = some (.type "list") := by decide +kernel
theorem boot_tuple : bootBuiltins "tuple" = some (.type "tuple") := by decide +kernel
theorem boot_abs : bootBuiltins "abs" = some (.builtin "abs") := by decide +kernel
theorem boot_max : bootBuiltins "max" = some (.builtin "max") := by decide +kernel
theorem boot_min : bootBuiltins "min" = some (.builtin "min") := by decide +kernel
theorem boot_set : bootBuiltins "set" = some (.type "set") := by decide +kernel
/-! ### kinds of values -/
/-- the kinds that the program asks for -/
inductive Kd where
  | non | bool | int | str | list | tuple | dict | obj
  deriving DecidableEq
def Kd.name : Kd → String
  | .non => "NoneType" | .bool => "bool" | .int => "int" | .str => "str" | .list => "list" | .tuple => "tuple" | .dict => "dict" | .obj => "object"
/-- isinstance's answer -/
def Kd.is (k c : Kd) : Bool := decide (k = c) || (decide (k = .bool) && decide (c = .int))
theorem kd_kit {K : PySem.W.Frag} (k c : Kd) (h : k ≠ .obj) (h2 : c ≠ .obj) : PySem.W.kitOne K (.type k.name) (.type c.name) = some (k.is c) := by
  refine kit_ty ?_
  cases k <;> cases c <;> first | decide +kernel | exact absurd rfl h | exact absurd rfl h2
/-- v is of the kind k -/
inductive Of (K : PySem.W.Frag) (H : Hp) : V → Kd → Prop where
  | non : Of K H .non .non
  | bl (b : Bool) : Of K H (.bl b) .bool
  | int (i : Int) : Of K H (.int i) .int
  | str (x : Str) : Of K H (.str x) .str
  | list {a : Addr} {xs : List V} (h : SqL K H a xs) : Of K H (.ref a) .list
  | tuple {a : Addr} {xs : List V} (h : SqT K H a xs) : Of K H (.ref a) .tuple
  | dict {a : Addr} (h : TyX K H (.ref a) (.type "dict")) : Of K H (.ref a) .dict
  | obj {a C : Addr} (h : TyX K H (.ref a) (.ref C)) (hk : ∀ c : Kd, c ≠ .obj → PySem.W.kitOne K (.ref C) (.type c.name) = some false) : Of K H (.ref a) .obj
theorem ty_sqL {K : PySem.W.Frag} {H : Hp} {a : Addr} {xs : List V} (h : SqL K H a xs) : TyX K H (.ref a) (.type "list") := by
  rcases h with (h | ⟨o, h⟩) | ⟨o, its, n, h1, h2, _⟩
  · exact .base (.lst h)
  · exact .base (.frz h)
  · exact .kList h1 h2
theorem ty_sqT {K : PySem.W.Frag} {H : Hp} {a : Addr} {xs : List V} (h : SqT K H a xs) : TyX K H (.ref a) (.type "tuple") := by
  rcases h with (h | ⟨o, h⟩) | ⟨o, its, n, h1, h2, _⟩
  · exact .base (.tup h)
  · exact .fTuple h
  · exact .kTuple h1 h2
/-- what isinstance(v, c) comes to -/
theorem isi_k {K : PySem.W.Frag} {H : Hp} {v : V} {k : Kd} (c : Kd) {Q : VK} (h : Of K H v k) (q : Q (.bl (k.is c)) H) (hc : c ≠ .obj := by decide) : rIsi K [v, .ty c.name] H Q := by
  cases h with
  | non => exact ⟨_, _, _, _, _, rfl, .ty _, .base .non, kd_kit .non c (by decide) hc, q⟩
  | bl b => exact ⟨_, _, _, _, _, rfl, .ty _, .base (.bl b), kd_kit .bool c (by decide) hc, q⟩
  | int b => exact ⟨_, _, _, _, _, rfl, .ty _, .base (.int b), kd_kit .int c (by decide) hc, q⟩
  | str b => exact ⟨_, _, _, _, _, rfl, .ty _, .base (.str b), kd_kit .str c (by decide) hc, q⟩
  | list b => exact ⟨_, _, _, _, _, rfl, .ty _, ty_sqL b, kd_kit .list c (by decide) hc, q⟩
  | tuple b => exact ⟨_, _, _, _, _, rfl, .ty _, ty_sqT b, kd_kit .tuple c (by decide) hc, q⟩
  | dict b => exact ⟨_, _, _, _, _, rfl, .ty _, b, kd_kit .dict c (by decide) hc, q⟩
  | obj b hk => 
    have e : Kd.is .obj c = false := by cases c <;> first | rfl | exact absurd rfl hc
    rw [e] at q
    exact ⟨_, _, _, _, _, rfl, .ty _, b, hk c hc, q⟩
theorem pe_imp {X : Cx} {e : Expr} {t t' : TE} (h : PE X e t) (i : ∀ σ H Q, t' σ H Q → t σ H Q) : PE X e t' := ⟨fun pins s σ H Q I q => h.run pins s σ H Q I (i σ H Q q)⟩
theorem callR_imp {X : Cx} {f : Value} {r r' : List V → Hp → VK → Prop} (h : CallR X f r) (i : ∀ vs H Q, r' vs H Q → r vs H Q) : CallR X f r' := fun pins s σ H xs us Q I rv q => h pins s σ H xs us Q I rv (i xs H Q q)
/-- isinstance(v, c): its kind -/
def rIs (K : PySem.W.Frag) (c : Kd) : List V → Hp → VK → Prop := fun xs H Q => ∃ (v : V) (k : Kd), xs = [v, .ty c.name] ∧ Of K H v k ∧ Q (.bl (k.is c)) H
theorem call_is {X : Cx} (c : Kd) (hc : c ≠ .obj := by decide) : CallR X (.builtin "isinstance") (rIs X.K c) := callR_imp call_isi fun vs H Q ⟨v, k, e, h, q⟩ => by
  subst e
  exact isi_k c h q hc
section
variable {X : Cx} {a : Expr} {ta : TE} {x : Str} {p p2 pos : Pos}
theorem pe_is (c : Kd) (h : X.mg "isinstance" = none) (ha : PE X a ta) (hm : X.mg x = none) (hv : bootBuiltins x = some (.type c.name)) (hc : c ≠ .obj := by decide) (hg2 : Gl X x := by rfl) (hn : x ≠ "__name__" := by decide) (hd : (x == ("__debug__" : Str)) = false := by decide) (hg : Gl X "isinstance" := by rfl)
    (he : starEach [a, .Name x p2] X.env = (false, eval a X.env) :: starEach [.Name x p2] X.env := by rfl) (hpl : (backTo pos (starEach [.Name x p2] X.env)).any (·.1) = false := by rfl)
    (he2 : starEach [.Name x p2] X.env = (false, eval (.Name x p2) X.env) :: starEach [] X.env := by rfl) :
    PE X (.Call (.Name "isinstance" p) [a, .Name x p2] [] pos) (tCB (rIs X.K c) (tCons ta (tCons (tC (.ty c.name)) tNil))) :=
  pe_callB (call_is c hc) hg h boot_isinstance (pa_cons ha (pa_cons (pe_ty (pos := p2) hm hv hg2 hn hd) pa_nil he2) he) (he := he) (hpl := hpl)
end
/-! ### data -/
theorem same_t {K : PySem.W.Frag} {H H' : Hp} {a : Addr} {xs : List V} (e : Same H H') (h : SqT K H a xs) : SqT K H' a xs := by
  rcases h with (h | ⟨o, h⟩) | h
  · exact .inl (.inl (e _ _ h))
  · exact .inl (.inr ⟨o, e _ _ h⟩)
  · exact .inr h
theorem same_new {H : Hp} {p : Addr} {o : HO} (h : H p = none) : Same H (upd H p o) := fun a u e => by
  rw [upd_ne (ne_of_none e h)]
  exact e
mutual
theorem dp_same {K : PySem.W.Frag} {H H' : Hp} (e : Same H H') : ∀ {v : V} {d : PyData}, Dp K H v d → Dp K H' v d
  | _, _, .non => .non
  | _, _, .bl b => .bl b
  | _, _, .int i => .int i
  | _, _, .str x => .str x
  | _, _, .lst h r => .lst (e.seq h) (dps_same e r)
  | _, _, .tup h r => .tup (same_t e h) (dps_same e r)
theorem dps_same {K : PySem.W.Frag} {H H' : Hp} (e : Same H H') : ∀ {vs : List V} {ds : List PyData}, DpAll K H vs ds → DpAll K H' vs ds
  | _, _, .nil => .nil
  | _, _, .cons h r => .cons (dp_same e h) (dps_same e r)
end
def kdOf : PyData → Kd
  | .bool _ => .bool
  | .int _ => .int
  | .str _ => .str
  | .list _ => .list
  | .tuple _ => .tuple
  | _ => .non
theorem dp_kd {K : PySem.W.Frag} {H : Hp} {v : V} {d : PyData} (h : Dp K H v d) : Of K H v (kdOf d) := by
  cases h with
  | non => exact .non
  | bl b => exact .bl b
  | int i => exact .int i
  | str x => exact .str x
  | lst h _ => exact .list h
  | tup h _ => exact .tuple h
end M

set_option Elab.async false
set_option linter.all false
set_option maxRecDepth 100000
set_option maxHeartbeats 2000000
namespace M
open PySem PySem.Spec PyProof.Rows L2

section
variable {P : Program} {w : World} {K : PySem.W.Frag} {mg : Str → Option Value} {base : Heap}
/-! ### pastless.checks -/
def spInteger (K : PySem.W.Frag) : Sp := fun vs H Q _ => ∃ (v : V) (k : Kd), vs = [v] ∧ Of K H v k ∧ Q (.bl (decide (k = .int))) H
theorem ca_is_integer (T : Txt w K mg) : Ca P w K mg base 1 "is_integer" (spInteger K) := by
  refine ca_of (N := ["value"]) (ps := ["value"]) T.f_is_integer T.g_is_integer ⟨rfl, rfl, rfl, by decide +kernel, rfl, by decide +kernel, by decide +kernel⟩ (fun _ _ _ _ _ _ us hl => match us, hl with | [_], _ => rfl)
    (fun vs H Q E h => by obtain ⟨v, k, rfl, hk, q⟩ := h; rfl) (fun cdv A outer s H vs Q E hr h => ?_)
  have nd : (["value"] : List Str).Nodup := by decide +kernel
  obtain ⟨v, k, rfl, hk, q⟩ := h
  refine ⟨_, pss_one (ps_ret (pe_and (pe_is .int T.b_isinstance (pv 0) T.b_int boot_int) (pe_one (pe_not (pe_is .bool T.b_isinstance (pv 0) T.b_bool boot_bool))))), ?_⟩
  refine ⟨_, rfl, _, _, rfl, hk, _, rfl, ?_⟩
  cases k <;> first | exact iteF q | exact iteT ⟨_, rfl, _, _, rfl, hk, _, rfl, q⟩
def spWithin : Sp := fun vs H Q _ => ∃ (i lo hi : Int), vs = [.int i, .int lo, .int hi] ∧ Q (.bl (decide (lo ≤ i) && decide (i ≤ hi))) H
theorem ca_is_within (T : Txt w K mg) : Ca P w K mg base 2 "is_within" (spWithin) := by
  refine ca_of (N := ["value", "least", "greatest"]) (ps := ["value", "least", "greatest"]) T.f_is_within T.g_is_within ⟨rfl, rfl, rfl, by decide +kernel, rfl, by decide +kernel, by decide +kernel⟩ (fun _ _ _ _ _ _ us hl => match us, hl with | [_, _, _], _ => rfl)
    (fun vs H Q E h => by obtain ⟨i, lo, hi, rfl, q⟩ := h; rfl) (fun cdv A outer s H vs Q E hr h => ?_)
  have nd : (["value", "least", "greatest"] : List Str).Nodup := by decide +kernel
  obtain ⟨i, lo, hi, rfl, q⟩ := h
  refine ⟨_, pss_one (ps_ret (pe_and (pe_ca (ca_is_integer T) hr (pa_cons (pv 0) pa_nil)) (pe_one (pe_chain op_le op_le (pv 1) (pv 0) (pv 2))))), ?_⟩
  refine ⟨_, rfl, _, _, rfl, .int i, _, rfl, iteT ?_⟩
  refine ⟨_, rfl, _, rfl, _, _, rfl, rfl, _, rfl, ?_⟩
  by_cases c : lo ≤ i
  · rw [decide_eq_true c] at q ⊢
    exact iteT ⟨_, rfl, _, _, rfl, rfl, q⟩
  · rw [decide_eq_false c] at q ⊢
    exact iteF q
/-- within its bounds -/
theorem within_t {i lo hi : Int} (h : lo ≤ i ∧ i ≤ hi) : (decide (lo ≤ i) && decide (i ≤ hi)) = true := by simp [h.1, h.2]
def spTuple (K : PySem.W.Frag) : Sp := fun vs H Q _ => ∃ (a : Addr) (xs : List V) (n : Int), vs = [.ref a, .int n] ∧ SqT K H a xs ∧ Q (.bl (decide ((xs.length : Int) = n))) H
theorem ca_is_tuple (T : Txt w K mg) : Ca P w K mg base 1 "is_tuple" (spTuple K) := by
  refine ca_of (N := ["value", "length"]) (ps := ["value", "length"]) T.f_is_tuple T.g_is_tuple ⟨rfl, rfl, rfl, by decide +kernel, rfl, by decide +kernel, by decide +kernel⟩ (fun _ _ _ _ _ _ us hl => match us, hl with | [_, _], _ => rfl)
    (fun vs H Q E h => by obtain ⟨a, xs, n, rfl, hs, q⟩ := h; rfl) (fun cdv A outer s H vs Q E hr h => ?_)
  have nd : (["value", "length"] : List Str).Nodup := by decide +kernel
  obtain ⟨a, xs, n, rfl, hs, q⟩ := h
  refine ⟨_, pss_one (ps_ret (pe_and (pe_is .tuple T.b_isinstance (pv 0) T.b_tuple boot_tuple) (pe_one (pe_cmpR op_eq (pe_callB call_len_seq (by rfl) T.b_len PySem.boot_len (pa_cons (pv 0) pa_nil)) (pv 1) (nomark _))))), ?_⟩
  refine ⟨_, rfl, _, _, rfl, .tuple hs, _, rfl, iteT ?_⟩
  refine ⟨_, rfl, _, _, rfl, .inr hs, _, rfl, rfl, ?_⟩
  rw [show (decide (V.int (xs.length : Int) = V.int n)) = decide ((xs.length : Int) = n) from by simp]
  exact q
/-- hs is a state of cells of the sizes ss -/
def StateOk (ss hs : List Int) : Prop := ss.length = hs.length ∧ ∀ (i : Nat) (s h : Int), ss[i]? = some s → hs[i]? = some h → 0 ≤ h ∧ h < s
theorem get_map {l : List Int} {i : Nat} {x : V} (h : (l.map V.int)[i]? = some x) : ∃ z, l[i]? = some z ∧ x = .int z := by
  rw [List.getElem?_map] at h
  cases e : l[i]? with
  | none => rw [e] at h; cases h
  | some z => rw [e] at h; exact ⟨z, rfl, (Option.some.inj h).symm⟩
def spState (K : PySem.W.Frag) : Sp := fun vs H Q _ => ∃ (a b : Addr) (ss hs : List Int), vs = [.ref a, .ref b] ∧ SqT K H a (ss.map .int) ∧ SqT K H b (hs.map .int) ∧ StateOk ss hs ∧ ∀ H', Same H H' → Q (.bl true) H'
end

end M

set_option Elab.async false
set_option linter.all false
set_option maxRecDepth 100000
set_option maxHeartbeats 2000000
namespace M
open PySem PySem.Spec PyProof.Rows L2

/-! ### what bodies, codes and vaults are -/
inductive Exp where
  | num (n : Int) | reg (r : Str) | op (s : Str) (a b : Exp)
def Exp.d : Exp → PyData
  | .num n => .int n
  | .reg r => .str r
  | .op s a b => .tuple [.str s, a.d, b.d]
inductive Row where
  | read (r : Str) (c : Int) | set (c : Int) (e : Exp) | swap (r : Str) (c : Int) (e f : Exp) | keep (r : Str) (e : Exp) | coin (r : Str)
  | iff (e : Exp) (a b : List Row) | times (e : Exp) (a : List Row) | ans (e : Exp)
mutual
def Row.d : Row → PyData
  | .read r c => .tuple [.str "read", .str r, .int c]
  | .set c e => .tuple [.str "set", .int c, e.d]
  | .swap r c e f => .tuple [.str "swap", .str r, .int c, e.d, f.d]
  | .keep r e => .tuple [.str "keep", .str r, e.d]
  | .coin r => .tuple [.str "coin", .str r]
  | .iff e a b => .tuple [.str "if", e.d, .tuple (rowsD a), .tuple (rowsD b)]
  | .times e a => .tuple [.str "times", e.d, .tuple (rowsD a)]
  | .ans e => .tuple [.str "answer", e.d]
def rowsD : List Row → List PyData
  | [] => []
  | r :: rs => r.d :: rowsD rs
end
/-- a row of a code -/
inductive FR where
  | row (r : Row) | unless (e : Exp) (p : Nat) | on (p : Nat) | rounds (e : Exp) | round (p : Nat) | hole
def FR.d : FR → PyData
  | .row r => r.d
  | .unless e p => .tuple [.str "unless", e.d, .int p]
  | .on p => .tuple [.str "on", .int p]
  | .rounds e => .tuple [.str "rounds", e.d]
  | .round p => .tuple [.str "round", .int p]
  | .hole => .tuple []
mutual
def putRow : Row → List FR → List FR
  | .iff e a b, c =>
    let c1 := putRows a (c ++ [FR.hole])
    let c2 := putRows b ((c1 ++ [FR.hole]).set c.length (FR.unless e (c1.length + 1)))
    c2.set c1.length (FR.on c2.length)
  | .times e a, c =>
    let c1 := putRows a (c ++ [FR.rounds e, FR.hole])
    (c1 ++ [FR.on (c.length + 1)]).set (c.length + 1) (FR.round (c1.length + 1))
  | .read r k, c => c ++ [.row (.read r k)]
  | .set k e, c => c ++ [.row (.set k e)]
  | .swap r k e f, c => c ++ [.row (.swap r k e f)]
  | .keep r e, c => c ++ [.row (.keep r e)]
  | .coin r, c => c ++ [.row (.coin r)]
  | .ans e, c => c ++ [.row (.ans e)]
def putRows : List Row → List FR → List FR
  | [], c => c
  | r :: rs, c => putRows rs (putRow r c)
end
def codeOf (rows : List Row) : List FR := putRows rows [] ++ [.row (.ans (.num 0))]
structure Vlt where
  cells : List (Int × Int)
  deeds : List (Str × Int × List Row)
def cellD (c : Int × Int) : PyData := .tuple [.int c.1, .int c.2]
def deedD (d : Str × Int × List Row) : PyData := .tuple [.str d.1, .int d.2.1, .tuple (rowsD d.2.2)]
def Vlt.calls (v : Vlt) : List (Str × Int) := v.deeds.flatMap fun d => (List.range d.2.1.toNat).map fun (j : Nat) => (d.1, (j : Int))
def codeD (rows : List Row) : PyData := .tuple ((codeOf rows).map FR.d)
/-- what the attributes of a vault hold -/
def vflds (a d c : Addr) (b : Bool) : List (Str × V) := putF "_coins" (.bl b) (putF "_codes" (.ref c) (putF "_deeds" (.ref d) (putF "_cells" (.ref a) [])))
theorem v1 : ¬ (("_cells" : Str) = "_deeds") := by decide +kernel
theorem v2 : ¬ (("_cells" : Str) = "_codes") := by decide +kernel
theorem v3 : ¬ (("_cells" : Str) = "_coins") := by decide +kernel
theorem v4 : ¬ (("_deeds" : Str) = "_codes") := by decide +kernel
theorem v5 : ¬ (("_deeds" : Str) = "_coins") := by decide +kernel
theorem v6 : ¬ (("_codes" : Str) = "_coins") := by decide +kernel
theorem vf_cells (a d c : Addr) (b : Bool) : (vflds a d c b).lookup ("_cells" : Str) = some (.ref a) := by
  unfold vflds
  rw [lookup_putF, if_neg v3, lookup_putF, if_neg v2, lookup_putF, if_neg v1, lookup_putF, if_pos rfl]
theorem vf_deeds (a d c : Addr) (b : Bool) : (vflds a d c b).lookup ("_deeds" : Str) = some (.ref d) := by
  unfold vflds
  rw [lookup_putF, if_neg v5, lookup_putF, if_neg v4, lookup_putF, if_pos rfl]
theorem vf_codes (a d c : Addr) (b : Bool) : (vflds a d c b).lookup ("_codes" : Str) = some (.ref c) := by
  unfold vflds
  rw [lookup_putF, if_neg v6, lookup_putF, if_pos rfl]
theorem vf_coins (a d c : Addr) (b : Bool) : (vflds a d c b).lookup ("_coins" : Str) = some (.bl b) := by
  unfold vflds
  rw [lookup_putF, if_pos rfl]
theorem vf_no (a d c : Addr) (b : Bool) {m : Str} (h1 : ¬ m = "_cells") (h2 : ¬ m = "_deeds") (h3 : ¬ m = "_codes") (h4 : ¬ m = "_coins") : (vflds a d c b).lookup m = none := by
  unfold vflds
  rw [lookup_putF, if_neg h4, lookup_putF, if_neg h3, lookup_putF, if_neg h2, lookup_putF, if_neg h1]
  rfl
/-- the codes by the names of the deeds -/
def CodesR (K : PySem.W.Frag) (H : Hp) : List (Key × V) → List (Str × Int × List Row) → Prop
  | [], [] => True
  | (k, v) :: r, d :: ds => k = Sum.inr d.1 ∧ Dp K H v (codeD d.2.2) ∧ CodesR K H r ds
  | _, _ => False
/-- a vault stands at p -/
structure VaultAt (K : PySem.W.Frag) (H : Hp) (p : Addr) (v : Vlt) : Prop where
  ob : ∃ (dx a d c : Addr) (b : Bool) (kvs : List (Key × V)), H p = some (.ins (He.ga K "Vault") dx (vflds a d c b)) ∧ Dp K H (.ref a) (.tuple (v.cells.map cellD)) ∧ Dp K H (.ref d) (.tuple (v.deeds.map deedD)) ∧ H c = some (.dK kvs) ∧ CodesR K H kvs v.deeds
/-- the bounds of a vault -/
structure VOk (v : Vlt) : Prop where
  c1 : v.cells.length ≤ 6
  d1 : v.deeds.length ≤ 8
  ch : ∀ d ∈ v.deeds, 1 ≤ d.2.1 ∧ d.2.1 ≤ 9
  nd : (v.deeds.map (·.1)).Nodup
theorem codes_same {K : PySem.W.Frag} {H H' : Hp} (e : Same H H') : ∀ {kvs : List (Key × V)} {ds : List (Str × Int × List Row)}, CodesR K H kvs ds → CodesR K H' kvs ds
  | [], [], _ => trivial
  | (_, _) :: _, _ :: _, h => ⟨h.1, dp_same e h.2.1, codes_same e h.2.2⟩
  | [], _ :: _, h => h.elim
  | _ :: _, [], h => h.elim
theorem VaultAt.same {K : PySem.W.Frag} {H H' : Hp} {p : Addr} {v : Vlt} (e : Same H H') (h : VaultAt K H p v) : VaultAt K H' p v := by
  obtain ⟨dx, a, d, c, b, kvs, h1, h2, h3, h4, h5⟩ := h.ob
  exact ⟨dx, a, d, c, b, kvs, e _ _ h1, dp_same e h2, dp_same e h3, e _ _ h4, codes_same e h5⟩
/-! ### data taken apart -/
section
variable {K : PySem.W.Frag} {H : Hp}
theorem dp_tup {v : V} {ds : List PyData} (h : Dp K H v (.tuple ds)) : ∃ (a : Addr) (xs : List V), v = .ref a ∧ SqT K H a xs ∧ DpAll K H xs ds := by
  cases h with
  | tup h r => exact ⟨_, _, rfl, h, r⟩
theorem dp_lst {v : V} {ds : List PyData} (h : Dp K H v (.list ds)) : ∃ (a : Addr) (xs : List V), v = .ref a ∧ SqL K H a xs ∧ DpAll K H xs ds := by
  cases h with
  | lst h r => exact ⟨_, _, rfl, h, r⟩
theorem dp_int {v : V} {i : Int} (h : Dp K H v (.int i)) : v = .int i := by
  cases h
  rfl
theorem dp_str {v : V} {i : Str} (h : Dp K H v (.str i)) : v = .str i := by
  cases h
  rfl
theorem dps_len : ∀ {vs : List V} {ds : List PyData}, DpAll K H vs ds → vs.length = ds.length
  | _, _, .nil => rfl
  | _, _, .cons _ r => congrArg (· + 1) (dps_len r)
theorem dps_get : ∀ {vs : List V} {ds : List PyData} {i : Nat} {v : V}, DpAll K H vs ds → vs[i]? = some v → ∃ d, ds[i]? = some d ∧ Dp K H v d
  | _, _, i, v, .nil, h => by simp at h
  | _, _, 0, v, .cons h r, e => by
    cases (Option.some.inj e)
    exact ⟨_, rfl, h⟩
  | _, _, i + 1, v, .cons h r, e => dps_get (i := i) r e
theorem dps_at : ∀ {vs : List V} {ds : List PyData} {i : Nat} {d : PyData}, DpAll K H vs ds → ds[i]? = some d → ∃ v, vs[i]? = some v ∧ Dp K H v d
  | _, _, i, v, .nil, h => by simp at h
  | _, _, 0, v, .cons h r, e => by
    cases (Option.some.inj e)
    exact ⟨_, rfl, h⟩
  | _, _, i + 1, v, .cons h r, e => dps_at (i := i) r e
theorem dps_app : ∀ {vs ws : List V} {ds es : List PyData}, DpAll K H vs ds → DpAll K H ws es → DpAll K H (vs ++ ws) (ds ++ es)
  | _, _, _, _, .nil, r => r
  | _, _, _, _, .cons h t, r => .cons h (dps_app t r)
theorem dps_set : ∀ {vs : List V} {ds : List PyData} {i : Nat} {v : V} {d : PyData}, DpAll K H vs ds → Dp K H v d → DpAll K H (vs.set i v) (ds.set i d)
  | _, _, _, _, _, .nil, _ => .nil
  | _, _, 0, _, _, .cons _ r, z => .cons z r
  | _, _, i + 1, _, _, .cons h r, z => .cons h (dps_set (i := i) r z)
theorem dp2 {v : V} {d e : PyData} (h : Dp K H v (.tuple [d, e])) : ∃ (a : Addr) (x y : V), v = .ref a ∧ SqT K H a [x, y] ∧ Dp K H x d ∧ Dp K H y e := by
  obtain ⟨a, xs, rfl, h, r⟩ := dp_tup h
  cases r with | cons h1 r => cases r with | cons h2 r => cases r with | nil => exact ⟨a, _, _, rfl, h, h1, h2⟩
theorem dp3 {v : V} {d e f : PyData} (h : Dp K H v (.tuple [d, e, f])) : ∃ (a : Addr) (x y z : V), v = .ref a ∧ SqT K H a [x, y, z] ∧ Dp K H x d ∧ Dp K H y e ∧ Dp K H z f := by
  obtain ⟨a, xs, rfl, h, r⟩ := dp_tup h
  cases r with | cons h1 r => cases r with | cons h2 r => cases r with | cons h3 r => cases r with | nil => exact ⟨a, _, _, _, rfl, h, h1, h2, h3⟩
theorem dps_ints : ∀ {vs : List V} {is : List Int}, DpAll K H vs (is.map PyData.int) → vs = is.map V.int
  | _, [], .nil => rfl
  | _, i :: is, .cons h r => by
    rw [dp_int h, dps_ints r]
    rfl
theorem ints_dps : ∀ {is : List Int}, DpAll K H (is.map V.int) (is.map PyData.int)
  | [] => .nil
  | i :: is => .cons (.int i) ints_dps
end
/-! ### what a list that grows leaves as it was -/
/-- all but what stands at D is as it was -/
def But (D : Addr) (H H' : Hp) : Prop := ∀ b o, b ≠ D → H b = some o → H' b = some o
theorem But.upd {D : Addr} {H : Hp} {o : HO} : But D H (upd H D o) := fun b u hb e => by
  rw [upd_ne hb]
  exact e
theorem same_but {D : Addr} {H H' : Hp} (s : Same H H') : But D H H' := fun b o _ e => s b o e
theorem But.trans {D : Addr} {H H1 H2 : Hp} (s : But D H H1) (t : But D H1 H2) : But D H H2 := fun b o hb e => t b o hb (s b o hb e)
/-- no list within -/
inductive NoL : PyData → Prop where
  | non : NoL .none
  | bool (b : Bool) : NoL (.bool b)
  | int (i : Int) : NoL (.int i)
  | str (x : Str) : NoL (.str x)
  | tup {ds : List PyData} (h : ∀ d ∈ ds, NoL d) : NoL (.tuple ds)
/-- what stands at D may change -/
def Ch (H : Hp) (D : Addr) : Prop := (∀ xs, H D ≠ some (.tup xs)) ∧ ∀ o u, H D ≠ some (.frz o u)
theorem Ch.lst {H : Hp} {D : Addr} {l : List V} (h : H D = some (.lst l)) : Ch H D := ⟨fun _ e => (by rw [h] at e; cases e), fun _ _ e => (by rw [h] at e; cases e)⟩
theorem Ch.dK {H : Hp} {D : Addr} {l : List (Key × V)} (h : H D = some (.dK l)) : Ch H D := ⟨fun _ e => (by rw [h] at e; cases e), fun _ _ e => (by rw [h] at e; cases e)⟩
theorem Ch.ins {H : Hp} {D C dx : Addr} {l : List (Str × V)} (h : H D = some (.ins C dx l)) : Ch H D := ⟨fun _ e => (by rw [h] at e; cases e), fun _ _ e => (by rw [h] at e; cases e)⟩
theorem Ch.new {H : Hp} {D : Addr} (h : H D = none) : Ch H D := ⟨fun _ e => (by rw [h] at e; cases e), fun _ _ e => (by rw [h] at e; cases e)⟩
section
variable {K : PySem.W.Frag} {H H' : Hp} {D : Addr}
theorem sqT_but (hD : Ch H D) (s : But D H H') {a : Addr} {xs : List V} (h : SqT K H a xs) : SqT K H' a xs := by
  rcases h with (h | ⟨o, h⟩) | h
  · exact .inl (.inl (s _ _ (fun e => hD.1 _ (e ▸ h)) h))
  · exact .inl (.inr ⟨o, s _ _ (fun e => hD.2 _ _ (e ▸ h)) h⟩)
  · exact .inr h
mutual
theorem dp_but (hD : Ch H D) (s : But D H H') : ∀ {v : V} {d : PyData}, Dp K H v d → NoL d → Dp K H' v d
  | _, _, .non, _ => .non
  | _, _, .bl b, _ => .bl b
  | _, _, .int i, _ => .int i
  | _, _, .str x, _ => .str x
  | _, _, .lst _ _, n => nomatch n
  | _, _, .tup h r, n => .tup (sqT_but hD s h) (dps_but hD s r (by cases n with | tup h => exact h))
theorem dps_but (hD : Ch H D) (s : But D H H') : ∀ {vs : List V} {ds : List PyData}, DpAll K H vs ds → (∀ d ∈ ds, NoL d) → DpAll K H' vs ds
  | _, _, .nil, _ => .nil
  | _, _, .cons h r, n => .cons (dp_but hD s h (n _ List.mem_cons_self)) (dps_but hD s r fun d hd => n d (List.mem_cons_of_mem _ hd))
end
end
/-! ### comprehensions and loops that leave all that was as it was -/
section
variable {J : It} {n : Nat} {G : Hp → Prop} {Y : Nat → Hp → V → Hp → Prop}
/-- a list comprehension: its i-th item is R i -/
theorem lc_out (w : Walk J n G Y) {g : TG} {te : TE} {vs : List Nat} {σ : L2.St} {H1 : Hp} {D : Addr} {Qd : Hp → Prop} (hD : H1 D = none) (hn : n ≤ 100000) (R : Nat → V → Hp → Prop) (hR : ∀ i y H H', Ch H D → But D H H' → R i y H → R i y H')
    (hG : ∀ H, Same H1 H → G H)
    (hs : ∀ (i : Nat) (x : V) (H H' : Hp) (N : VK) (F : Hp → Prop), i < n → Same H1 H → Y i H x H' → (∀ y H4, Same H H4 → R i y H4 → N y H4) → g x (wipe σ vs) H' fun σ2 H2 => wipe σ2 vs = wipe σ vs ∧ if true = true then te σ2 H2 N else F H2)
    (hd : ∀ H ys, Same H1 H → H D = some (.lst ys) → ys.length = n → (∀ i y, ys[i]? = some y → R i y H) → Qd H) :
    ∃ W : Nat → Nat → Hp → Prop, (∃ m, W 0 m (upd H1 D (.lst []))) ∧ ∀ i m H, W i m H →
      (J.stop i H ∧ Qd H) ∨ (J.go i H ∧ ∃ Nx : Hp → Prop, (∀ H', Nx H' → ∃ m', m' < m ∧ W (i + 1) m' H') ∧ ∀ x H', J.yld i H x H' → g x (wipe σ vs) H' fun σ2 H2 => wipe σ2 vs = wipe σ vs ∧ tYes σ2 H2 fun b H3 =>
        if b = true then te σ2 H3 fun y H4 => ∃ acc, H4 D = some (.lst acc) ∧ acc.length < sizeLine ∧ Nx (upd H4 D (.lst (acc ++ [y]))) else Nx H3) := by
  let Pv : Nat → Hp → Prop := fun i H => ∃ ys, Same H1 H ∧ H D = some (.lst ys) ∧ ys.length = i ∧ ∀ j y, ys[j]? = some y → R j y H
  refine lc_it w Pv ⟨[], same_new hD, upd_same, rfl, fun j y e => by simp at e⟩ (fun i H _ ⟨_, s, _⟩ => hG H s) (fun i x H H' hi ⟨ys, s, eD, el, hr⟩ y => ?_) (fun H ⟨ys, s, eD, el, hr⟩ => hd H ys s eD el hr)
  refine hs i x H H' (fun y H4 => ∃ acc, H4 D = some (.lst acc) ∧ acc.length < sizeLine ∧ Pv (i + 1) (upd H4 D (.lst (acc ++ [y])))) (fun H3 => Pv (i + 1) H3) hi s y fun z H4 s4 rz => ⟨ys, s4 _ _ eD, by rw [sizeLine_eq]; omega, ys ++ [z], fun b o e => ?_, upd_same, by simp [el], fun j u e => ?_⟩
  · rw [upd_ne (ne_of_none e hD)]
    exact s4 b o (s b o e)
  · have bt : But D H (upd H4 D (.lst (ys ++ [z]))) := (same_but s4 (D := D)).trans But.upd
    by_cases hj : j < ys.length
    · rw [List.getElem?_append_left hj] at e
      exact hR j u H _ (.lst eD) bt (hr j u e)
    · rw [List.getElem?_append_right (by omega)] at e
      have e0 : j - ys.length = 0 := by
        cases q : j - ys.length with
        | zero => rfl
        | succ m => rw [q] at e; simp at e
      rw [e0] at e
      cases (Option.some.inj e)
      have ej : j = i := by omega
      subst ej
      exact hR _ _ H4 _ (.lst (s4 _ _ eD)) But.upd rz
end

end M

set_option Elab.async false
set_option linter.all false
set_option maxRecDepth 100000
set_option maxHeartbeats 2000000
namespace M
open PySem PySem.Spec PyProof.Rows L2

theorem map_of {α : Type} {cs : List α} {f : α → V} {ys : List V} (hl : ys.length = cs.length) (h : ∀ (i : Nat) (y : V), ys[i]? = some y → ∃ c, cs[i]? = some c ∧ y = f c) : ys = cs.map f := by
  refine List.ext_getElem? fun i => ?_
  rw [List.getElem?_map]
  cases e : ys[i]? with
  | some y =>
    obtain ⟨c, hc, rfl⟩ := h i y e
    rw [hc]
    rfl
  | none =>
    have q : cs[i]? = none := by
      rw [List.getElem?_eq_none_iff] at e ⊢
      omega
    rw [q]
    rfl
theorem get_mapA {α β : Type} {l : List α} {f : α → β} {i : Nat} {x : β} (h : (l.map f)[i]? = some x) : ∃ z, l[i]? = some z ∧ x = f z := by
  rw [List.getElem?_map] at h
  cases e : l[i]? with
  | none => rw [e] at h; cases h
  | some z => rw [e] at h; exact ⟨z, rfl, (Option.some.inj h).symm⟩
section
variable {P : Program} {w : World} {K : PySem.W.Frag} {mg : Str → Option Value} {base : Heap}
/-! ### pastless.vaults: what a vault tells -/
def spSizes (K : PySem.W.Frag) (f : Int × Int → Int) : Sp := fun vs H Q _ => ∃ (p : Addr) (v : Vlt), vs = [.ref p] ∧ VaultAt K H p v ∧ v.cells.length ≤ 6 ∧ ∀ a H', Same H H' → H' a = some (.tup ((v.cells.map f).map V.int)) → Q (.ref a) H'
theorem me_Vault_first (T : Txt w K mg) : Me P w K mg base 1 (He.ga K "Vault") "first" (spSizes K (·.2)) := by
  refine me_of (N := ["self", "_", "held"]) (ps := ["self"]) T.f_Vault_first T.c_Vault T.m_Vault_first ⟨rfl, rfl, rfl, by decide +kernel, rfl, by decide +kernel, by decide +kernel⟩ (fun _ _ _ _ _ _ us hl => match us, hl with | [_], _ => rfl)
    (fun vs H Q E h => by obtain ⟨p, v, rfl, hv, hl, q⟩ := h; rfl) (fun cdv A outer s H vs Q E hr h => ?_)
  have nd : (["self", "_", "held"] : List Str).Nodup := by decide +kernel
  obtain ⟨p, v, rfl, hv, hl, q⟩ := h
  obtain ⟨dx, a, d, c, b, kvs, h1, h2, h3, h4, h5⟩ := hv.ob
  obtain ⟨a, xs, ea, hx, hxs⟩ := dp_tup h2
  cases ea
  refine ⟨_, pss_one (ps_ret (pe_tupleOf (by rfl) T.b_tuple (pe_lc (own := [("_", 1), ("held", 2)]) (tt := tYes) rfl nd (pi_tup (pe_fld (pv 0) rfl)) (blkOk_by (N := ["self", "_", "held"]) (sc := defScope s_Vault_first) (by decide +kernel))
    (fun _ _ _ _ _ => pg_two K 1 2 rfl rfl nd rfl rfl (.inl rfl) (.inl rfl) (.inr rfl) (.inr rfl)) (fun _ _ _ _ _ => pts_nil) (fun _ _ _ _ _ => pv 2)))), ?_⟩
  have el : xs.length = v.cells.length := by rw [dps_len hxs, List.length_map]
  refine ⟨_, rfl, p, _, _, _, _, rfl, h1, T.c_Vault, T.n_Vault_cells, vf_cells .., a, rfl, ⟨_, hx⟩, fun D hD => ?_⟩
  refine lc_out (n := xs.length) walk_tup hD (by omega) (fun i y H => ∃ c, v.cells[i]? = some c ∧ y = .int c.2) (fun _ _ _ _ _ _ h => h) (fun H' s => same_t s hx) (fun i x H' H2 N F hi s y k => ?_) (fun H' ys s hD' hl' hr => ?_)
  · obtain ⟨rfl, ex⟩ := y
    obtain ⟨dd, ed, hdd⟩ := dps_get hxs ex
    obtain ⟨cc, ec, rfl⟩ := get_mapA ed
    obtain ⟨t, x1, x2, rfl, ht, e1, e2⟩ := dp2 (dp_same s hdd)
    cases dp_int e2
    refine ⟨t, _, rfl, ht, rfl, _, _, rfl, _, _, rfl, rfl, rfl, iteT ⟨_, rfl, k _ _ (Same.refl _) ⟨cc, ec, rfl⟩⟩⟩
  · have em : ys = (v.cells.map (·.2)).map V.int := by
      rw [List.map_map]
      exact map_of (by omega) fun i y e => by
        obtain ⟨c, h1, h2⟩ := hr i y e
        exact ⟨c, h1, h2⟩
    refine .inl ⟨D, ys, rfl, SqL.of hD', fun t ht => ?_⟩
    rw [em]
    exact q t _ (s.trans (same_new ht)) upd_same
end

end M

set_option Elab.async false
set_option linter.all false
set_option maxRecDepth 100000
set_option maxHeartbeats 2000000
namespace M
open PySem PySem.Spec PyProof.Rows L2

/-! ### any walk: Pv by the turn and the heap -/
section
variable {J : It} {n : Nat} {G : Hp → Prop} {Y : Nat → Hp → V → Hp → Prop}
theorem it_any (w : Walk J n G Y) {B : (Hp → Prop) → V → Hp → Prop} {H1 : Hp} {Qd : Hp → Prop} (Pv : Nat → Hp → Prop) (h0 : Pv 0 H1) (hG : ∀ i H, i ≤ n → Pv i H → G H) (hs : ∀ i x H H', i < n → Pv i H → Y i H x H' → B (Pv (i + 1)) x H')
    (hd : ∀ H, Pv n H → Qd H) : ∃ W : Nat → Nat → Hp → Prop, (∃ m, W 0 m H1) ∧ ∀ i m H, W i m H → (J.stop i H ∧ Qd H) ∨ (J.go i H ∧ ∃ Nx : Hp → Prop, (∀ H', Nx H' → ∃ m', m' < m ∧ W (i + 1) m' H') ∧ ∀ x H', J.yld i H x H' → B Nx x H') := by
  refine ⟨fun i m H => m + i = n ∧ Pv i H, ⟨n, rfl, h0⟩, fun i m H ⟨hm, hp⟩ => ?_⟩
  have hg := hG i H (by omega) hp
  rcases Nat.lt_or_ge i n with hi | hi
  · exact .inr ⟨w.goes i H hi hg, Pv (i + 1), fun H' hp' => ⟨m - 1, by omega, by omega, hp'⟩, fun x H' y => hs i x H H' hi hp (w.yields i H x H' hi hg y)⟩
  · obtain rfl : i = n := by omega
    exact .inl ⟨w.stops H hg, hd H hp⟩
end
/-- the tuples of calls -/
def TupsAt (H : Hp) : List V → List (Str × Int) → Prop
  | [], [] => True
  | y :: ys, c :: cs => (∃ t, y = .ref t ∧ H t = some (.tup [.str c.1, .int c.2])) ∧ TupsAt H ys cs
  | _, _ => False
theorem tups_but {D : Addr} {H H' : Hp} (hD : Ch H D) (s : But D H H') : ∀ {ys : List V} {cs : List (Str × Int)}, TupsAt H ys cs → TupsAt H' ys cs
  | [], [], _ => trivial
  | _ :: _, _ :: _, ⟨⟨t, e, h⟩, r⟩ => ⟨⟨t, e, s t _ (fun z => hD.1 _ (z ▸ h)) h⟩, tups_but hD s r⟩
  | [], _ :: _, h => h.elim
  | _ :: _, [], h => h.elim
theorem tups_same {H H' : Hp} (s : Same H H') : ∀ {ys : List V} {cs : List (Str × Int)}, TupsAt H ys cs → TupsAt H' ys cs
  | [], [], _ => trivial
  | _ :: _, _ :: _, ⟨⟨t, e, h⟩, r⟩ => ⟨⟨t, e, s t _ h⟩, tups_same s r⟩
  | [], _ :: _, h => h.elim
  | _ :: _, [], h => h.elim
theorem tups_len {H : Hp} : ∀ {ys : List V} {cs : List (Str × Int)}, TupsAt H ys cs → ys.length = cs.length
  | [], [], _ => rfl
  | _ :: _, _ :: _, ⟨_, r⟩ => congrArg (· + 1) (tups_len r)
  | [], _ :: _, h => h.elim
  | _ :: _, [], h => h.elim
theorem tups_snoc {H : Hp} {t : Addr} {c : Str × Int} (ht : H t = some (.tup [.str c.1, .int c.2])) : ∀ {ys : List V} {cs : List (Str × Int)}, TupsAt H ys cs → TupsAt H (ys ++ [.ref t]) (cs ++ [c])
  | [], [], _ => ⟨⟨t, rfl, ht⟩, trivial⟩
  | _ :: _, _ :: _, ⟨h, r⟩ => ⟨h, tups_snoc ht r⟩
  | [], _ :: _, h => h.elim
  | _ :: _, [], h => h.elim
theorem tups_get {H : Hp} : ∀ {ys : List V} {cs : List (Str × Int)} {i : Nat} {y : V}, TupsAt H ys cs → ys[i]? = some y → ∃ c t, cs[i]? = some c ∧ y = .ref t ∧ H t = some (.tup [.str c.1, .int c.2])
  | [], [], i, y, _, e => by simp at e
  | _ :: _, c :: _, 0, y, ⟨⟨t, e, h⟩, r⟩, z => by
    cases (Option.some.inj z)
    exact ⟨c, t, rfl, e, h⟩
  | _ :: _, _ :: _, i + 1, y, ⟨h, r⟩, z => tups_get (i := i) r z
  | [], _ :: _, _, _, h, _ => h.elim
  | _ :: _, [], _, _, h, _ => h.elim
theorem take_more {α : Type} {l : List α} {i : Nat} {x : α} (h : l[i]? = some x) : l.take (i + 1) = l.take i ++ [x] := by
  rw [List.take_add_one, h]
  rfl
theorem range_more (j : Nat) : List.range (j + 1) = List.range j ++ [j] := List.range_succ
/-- all but the dict of a name -/
theorem codes_get {K : PySem.W.Frag} {H : Hp} : ∀ {kvs : List (Key × V)} {ds : List (Str × Int × List Row)} {d : Str × Int × List Row}, CodesR K H kvs ds → (ds.map (·.1)).Nodup → d ∈ ds → ∃ v, valV kvs (Sum.inr d.1 : Key) = some v ∧ Dp K H v (codeD d.2.2)
  | [], [], d, _, _, h => by cases h
  | (k, v) :: r, e :: ds, d, h, n, hd => by
    obtain ⟨rfl, hv, hr⟩ := h
    rw [List.map_cons, List.nodup_cons] at n
    by_cases q : e.1 = d.1
    · have : d = e := by
        rcases List.mem_cons.mp hd with z | z
        · exact z
        · exact absurd (q ▸ List.mem_map.mpr ⟨d, z, rfl⟩) n.1
      subst this
      refine ⟨v, ?_, hv⟩
      unfold valV
      rw [List.find?_cons_of_pos (by simp)]
      rfl
    · have hd' : d ∈ ds := by
        rcases List.mem_cons.mp hd with z | z
        · exact absurd (by rw [z]) q
        · exact z
      obtain ⟨u, hu, hw⟩ := codes_get hr n.2 hd'
      refine ⟨u, ?_, hw⟩
      unfold valV at hu ⊢
      rw [List.find?_cons_of_neg (by simp [q])]
      exact hu
  | [], _ :: _, _, h, _, _ => h.elim
  | _ :: _, [], _, h, _, _ => h.elim
/-! ### no lists within -/
theorem Exp.noL : ∀ e : Exp, NoL e.d
  | .num n => .int n
  | .reg r => .str r
  | .op s a b => .tup fun d h => by
    rcases List.mem_cons.mp h with rfl | h
    · exact .str s
    rcases List.mem_cons.mp h with rfl | h
    · exact a.noL
    rcases List.mem_cons.mp h with rfl | h
    · exact b.noL
    cases h
mutual
theorem Row.noL : ∀ r : Row, NoL r.d
  | .read r c => .tup (by intro d h; simp at h; rcases h with rfl | rfl | rfl <;> constructor)
  | .set c e => .tup (by intro d h; simp at h; rcases h with rfl | rfl | rfl <;> first | exact e.noL | constructor)
  | .swap r c e f => .tup (by intro d h; simp at h; rcases h with rfl | rfl | rfl | rfl | rfl <;> first | exact e.noL | exact f.noL | constructor)
  | .keep r e => .tup (by intro d h; simp at h; rcases h with rfl | rfl | rfl <;> first | exact e.noL | constructor)
  | .coin r => .tup (by intro d h; simp at h; rcases h with rfl | rfl <;> constructor)
  | .iff e a b => .tup (by intro d h; simp at h; rcases h with rfl | rfl | rfl | rfl <;> first | exact e.noL | exact .tup (rows_noL a) | exact .tup (rows_noL b) | constructor)
  | .times e a => .tup (by intro d h; simp at h; rcases h with rfl | rfl | rfl <;> first | exact e.noL | exact .tup (rows_noL a) | constructor)
  | .ans e => .tup (by intro d h; simp at h; rcases h with rfl | rfl <;> first | exact e.noL | constructor)
theorem rows_noL : ∀ rs : List Row, ∀ d ∈ rowsD rs, NoL d
  | [], d, h => by cases h
  | r :: rs, d, h => by
    rcases List.mem_cons.mp h with rfl | h
    · exact r.noL
    · exact rows_noL rs d h
end
theorem FR.noL : ∀ r : FR, NoL r.d
  | .row r => r.noL
  | .unless e p => .tup (by intro d h; simp at h; rcases h with rfl | rfl | rfl <;> first | exact e.noL | constructor)
  | .on p => .tup (by intro d h; simp at h; rcases h with rfl | rfl <;> constructor)
  | .rounds e => .tup (by intro d h; simp at h; rcases h with rfl | rfl <;> first | exact e.noL | constructor)
  | .round p => .tup (by intro d h; simp at h; rcases h with rfl | rfl <;> constructor)
  | .hole => .tup (by intro d h; cases h)
theorem code_noL (rs : List Row) : NoL (codeD rs) := .tup fun d h => by
  obtain ⟨r, _, rfl⟩ := List.mem_map.mp h
  exact r.noL
section
variable {P : Program} {w : World} {K : PySem.W.Frag} {mg : Str → Option Value} {base : Heap}
def spCalls (K : PySem.W.Frag) : Sp := fun vs H Q _ => ∃ (p : Addr) (v : Vlt), vs = [.ref p] ∧ VaultAt K H p v ∧ VOk v ∧ ∀ a ys H', Same H H' → H' a = some (.lst ys) → TupsAt H' ys v.calls → Q (.ref a) H'
theorem me_Vault_calls (T : Txt w K mg) : Me P w K mg base 1 (He.ga K "Vault") "calls" (spCalls K) := by
  refine me_of (N := ["self", "name", "choices", "_", "argument"]) (ps := ["self"]) T.f_Vault_calls T.c_Vault T.m_Vault_calls ⟨rfl, rfl, rfl, by decide +kernel, rfl, by decide +kernel, by decide +kernel⟩ (fun _ _ _ _ _ _ us hl => match us, hl with | [_], _ => rfl)
    (fun vs H Q E h => by obtain ⟨p, v, rfl, hv, ok, q⟩ := h; rfl) (fun cdv A outer s H vs Q E hr h => ?_)
  have nd : (["self", "name", "choices", "_", "argument"] : List Str).Nodup := by decide +kernel
  obtain ⟨p, v, rfl, hv, ok, q⟩ := h
  obtain ⟨dx, a, d, c, b, kvs, h1, h2, h3, h4, h5⟩ := hv.ob
  obtain ⟨d, xs, ea, hx, hxs⟩ := dp_tup h3
  cases ea
  refine ⟨_, pss_one (ps_ret (pe_lc2 (own := [("name", 1), ("choices", 2), ("_", 3), ("argument", 4)]) (vs1 := [4]) (tt := tYes) (tt1 := tYes) rfl nd (pi_tup (pe_fld (pv 0) rfl)) (blkOk_by (N := ["self", "name", "choices", "_", "argument"]) (sc := defScope s_Vault_calls) (by decide +kernel)) (by decide)
    (fun _ _ _ _ _ => pg_three K 1 2 3 rfl rfl nd rfl rfl rfl (.inl rfl) (.inl rfl) (.inl rfl) (.inr rfl) (.inr rfl) (.inr rfl)) (fun _ _ _ _ _ => pts_nil) (fun _ _ _ _ _ => pi_range1 rfl T.b_range (pa_cons (pv 2) pa_nil)) (fun _ _ _ _ _ => pg_name (i := 4) nd rfl (.inl rfl)) (fun _ _ _ _ _ => pts_nil)
    (fun _ _ _ _ _ => pe_tup (pa_cons (pv 1) (pa_cons (pv 4) pa_nil))))), ?_⟩
  have el : xs.length = v.deeds.length := by rw [dps_len hxs, List.length_map]
  refine ⟨_, rfl, p, _, _, _, _, rfl, h1, T.c_Vault, T.n_Vault_deeds, vf_deeds .., d, rfl, ⟨_, hx⟩, fun D hD => ?_⟩
  let F : List (Str × Int × List Row) → List (Str × Int) := fun l => l.flatMap fun d => (List.range d.2.1.toNat).map fun (j : Nat) => (d.1, (j : Int))
  have FS : ∀ l d, F (l ++ [d]) = F l ++ (List.range d.2.1.toNat).map fun (j : Nat) => (d.1, (j : Int)) := fun l d => by simp [F]
  have bnd : ∀ l, (∀ d ∈ l, d.2.1 ≤ 9) → (F l).length ≤ 9 * l.length := by
    intro l
    induction l with
    | nil => intro _; simp [F]
    | cons d r ih =>
      intro h
      have e : F (d :: r) = ((List.range d.2.1.toNat).map fun (j : Nat) => (d.1, (j : Int))) ++ F r := by simp [F]
      have h1 := h d List.mem_cons_self
      have h2 := ih fun d hd => h d (List.mem_cons_of_mem _ hd)
      rw [e, List.length_append, List.length_map, List.length_range, List.length_cons]
      omega
  refine it_any (n := xs.length) walk_tup (fun i H' => ∃ ys, Same H H' ∧ H' D = some (.lst ys) ∧ TupsAt H' ys (F (v.deeds.take i))) ⟨[], same_new hD, upd_same, trivial⟩ (fun i H' _ ⟨_, s, _⟩ => same_t s hx) ?_ ?_
  · rintro i x H' H2 hi ⟨ys, s, eD, hy⟩ ⟨rfl, ex⟩
    obtain ⟨dd, ed, hdd⟩ := dps_get hxs ex
    obtain ⟨cc, ec, rfl⟩ := get_mapA ed
    obtain ⟨t, x1, x2, x3, rfl, ht, e1, e2, e3⟩ := dp3 (dp_same s hdd)
    cases dp_str e1
    cases dp_int e2
    have hc := ok.ch cc (List.mem_of_getElem? ec)
    refine ⟨t, _, rfl, ht, rfl, _, _, rfl, _, _, rfl, _, _, rfl, rfl, rfl, ?_⟩
    refine ⟨_, rfl, cc.2.1, rfl, by omega, by omega, ?_⟩
    refine it_any (n := cc.2.1.toNat) walk_range (fun j H' => ∃ ys, Same H H' ∧ H' D = some (.lst ys) ∧ TupsAt H' ys (F (v.deeds.take i) ++ (List.range j).map fun (j : Nat) => (cc.1, (j : Int)))) ⟨ys, s, eD, by simpa using hy⟩ (fun _ _ _ _ => trivial) ?_ ?_
    · rintro j x H3 H4 hj ⟨zs, s3, eD3, hz⟩ ⟨rfl, rfl⟩
      refine ⟨rfl, _, rfl, _, rfl, (by show 2 ≤ sizeLine; decide), fun t ht => ?_⟩
      have ntD : D ≠ t := ne_of_none eD3 ht
      have hlz := tups_len hz
      have hb := bnd (v.deeds.take i) fun d hd => (ok.ch d (List.mem_of_mem_take hd)).2
      have hl8 : (v.deeds.take i).length ≤ 8 := by rw [List.length_take]; have := ok.d1; omega
      rw [List.length_append, List.length_map, List.length_range] at hlz
      refine ⟨zs, by rw [upd_ne ntD]; exact eD3, by rw [sizeLine_eq]; omega, zs ++ [.ref t], fun b o e => ?_, upd_same, ?_⟩
      · rw [upd_ne (ne_of_none e hD), upd_ne (ne_of_none (s3 b o e) ht)]
        exact s3 b o e
      · rw [range_more, List.map_append, ← List.append_assoc]
        refine tups_snoc ?_ (tups_but (D := D) (H := upd H4 t (.tup [.str cc.1, .int (0 + (j : Int))])) (.lst (l := zs) (by rw [upd_ne ntD]; exact eD3)) But.upd (tups_same (same_new ht) hz))
        rw [upd_ne (Ne.symm ntD), upd_same]
        simp
    · rintro H3 ⟨zs, s3, eD3, hz⟩
      refine ⟨zs, s3, eD3, ?_⟩
      rw [take_more ec, FS]
      exact hz
  · rintro H' ⟨ys, s, eD, hy⟩
    refine q D ys H' s eD ?_
    rw [el, List.take_length] at hy
    exact hy
end

end M

set_option Elab.async false
set_option linter.all false
set_option maxRecDepth 100000
set_option maxHeartbeats 2000000
namespace M
open PySem PySem.Spec PyProof.Rows L2

/-! ### pastless.bodies: what a body may be -/
def regs4 : List Str := ["a", "b", "c", "d"]
def regs5 : List Str := ["a", "b", "c", "d", "x"]
def signs : List Str := ["+", "-", "*", "=", "<"]
def Exp.ok : Exp → Prop
  | .num n => 0 ≤ n ∧ n ≤ 9
  | .reg r => r ∈ regs5
  | .op s a b => s ∈ signs ∧ a.ok ∧ b.ok
def Exp.dep : Exp → Nat
  | .op _ a b => Nat.max a.dep b.dep + 1
  | _ => 0
/-- a part of a row -/
inductive Prt where
  | reg (r : Str) | cell (k : Int) | ex (e : Exp) | rows (rs : List Row)
def Prt.d : Prt → PyData
  | .reg r => .str r
  | .cell k => .int k
  | .ex e => e.d
  | .rows rs => .tuple (rowsD rs)
def Prt.kind : Prt → Str
  | .reg _ => "REG"
  | .cell _ => "CELL"
  | .ex _ => "E"
  | .rows _ => "ROWS"
def Row.word : Row → Str
  | .read .. => "read" | .set .. => "set" | .swap .. => "swap" | .keep .. => "keep" | .coin .. => "coin" | .iff .. => "if" | .times .. => "times" | .ans .. => "answer"
def Row.prts : Row → List Prt
  | .read r c => [.reg r, .cell c]
  | .set c e => [.cell c, .ex e]
  | .swap r c e f => [.reg r, .cell c, .ex e, .ex f]
  | .keep r e => [.reg r, .ex e]
  | .coin r => [.reg r]
  | .iff e a b => [.ex e, .rows a, .rows b]
  | .times e a => [.ex e, .rows a]
  | .ans e => [.ex e]
theorem row_d (r : Row) : r.d = .tuple (.str r.word :: r.prts.map Prt.d) := by cases r <;> rfl
theorem rowsD_map : ∀ rs : List Row, rowsD rs = rs.map Row.d
  | [] => rfl
  | r :: rs => congrArg (r.d :: ·) (rowsD_map rs)
mutual
/-- rows in all, rows "coin" -/
def Row.cl : Row → Nat
  | .iff _ a b => 1 + (rowsCl a + rowsCl b)
  | .times _ a => 1 + rowsCl a
  | _ => 1
def rowsCl : List Row → Nat
  | [] => 0
  | r :: rs => r.cl + rowsCl rs
end
mutual
def Row.cc : Row → Nat
  | .iff _ a b => rowsCc a + rowsCc b
  | .times _ a => rowsCc a
  | .coin _ => 1
  | _ => 0
def rowsCc : List Row → Nat
  | [] => 0
  | r :: rs => r.cc + rowsCc rs
end
def Prt.cl : Prt → Nat
  | .rows rs => rowsCl rs
  | _ => 0
def Prt.cc : Prt → Nat
  | .rows rs => rowsCc rs
  | _ => 0
def sumN : List Nat → Nat
  | [] => 0
  | n :: r => n + sumN r
def Exp.good (e : Exp) : Prop := e.ok ∧ e.dep ≤ 6
mutual
def Row.ok (c : Int) (deep loops : Nat) : Row → Prop
  | .read r k => r ∈ regs4 ∧ 0 ≤ k ∧ k < c
  | .set k e => (0 ≤ k ∧ k < c) ∧ e.good
  | .swap r k e f => r ∈ regs4 ∧ (0 ≤ k ∧ k < c) ∧ e.good ∧ f.good
  | .keep r e => r ∈ regs4 ∧ e.good
  | .coin r => r ∈ regs4 ∧ loops = 0
  | .iff e a b => e.good ∧ rowsOk c (deep + 1) loops a ∧ rowsOk c (deep + 1) loops b
  | .times e a => e.good ∧ loops < 2 ∧ rowsOk c (deep + 1) (loops + 1) a
  | .ans e => e.good
def rowsOk (c : Int) (deep loops : Nat) : List Row → Prop
  | [] => True
  | r :: rs => deep ≤ 12 ∧ r.ok c deep loops ∧ rowsOk c deep loops rs
end
def Prt.ok (c : Int) (deep loops : Nat) : Prt → Prop
  | .reg r => r ∈ regs4
  | .cell k => 0 ≤ k ∧ k < c
  | .ex e => e.good
  | .rows rs => rowsOk c (deep + 1) loops rs
/-- the loops within which the parts of a row stand -/
def Row.lp (loops : Nat) : Row → Nat
  | .times .. => loops + 1
  | _ => loops
theorem row_prts {c : Int} {deep loops : Nat} {r : Row} (h : r.ok c deep loops) : ∀ p ∈ r.prts, p.ok c deep (r.lp loops) := by
  intro p hp
  cases r with
  | read r k => simp [Row.prts] at hp; simp [Row.ok] at h; rcases hp with rfl | rfl; exact h.1; exact h.2
  | set k e => simp [Row.prts] at hp; simp only [Row.ok] at h; rcases hp with rfl | rfl; exact h.1; exact h.2
  | swap r k e f => simp [Row.prts] at hp; simp only [Row.ok] at h; rcases hp with rfl | rfl | rfl | rfl; exact h.1; exact h.2.1; exact h.2.2.1; exact h.2.2.2
  | keep r e => simp [Row.prts] at hp; simp only [Row.ok] at h; rcases hp with rfl | rfl; exact h.1; exact h.2
  | coin r => simp [Row.prts] at hp; simp only [Row.ok] at h; subst hp; exact h.1
  | iff e a b => simp [Row.prts] at hp; simp only [Row.ok] at h; rcases hp with rfl | rfl | rfl; exact h.1; exact h.2.1; exact h.2.2
  | times e a => simp [Row.prts] at hp; simp only [Row.ok] at h; rcases hp with rfl | rfl; exact h.1; exact h.2.2
  | ans e => simp [Row.prts] at hp; simp only [Row.ok] at h; subst hp; exact h
theorem row_cl (r : Row) : r.cl = 1 + sumN (r.prts.map Prt.cl) := by cases r <;> simp [Row.cl, Row.prts, sumN, Prt.cl]
def Row.co : Row → Nat
  | .coin _ => 1
  | _ => 0
theorem row_cc (r : Row) : r.cc = r.co + sumN (r.prts.map Prt.cc) := by cases r <;> simp [Row.cc, Row.co, Row.prts, sumN, Prt.cc]
theorem sumN_take {l : List Nat} {i : Nat} {x : Nat} (h : l[i]? = some x) : sumN (l.take (i + 1)) = sumN (l.take i) + x := by
  induction l generalizing i with
  | nil => simp at h
  | cons a r ih =>
    cases i with
    | zero =>
      cases (Option.some.inj h)
      simp [sumN]
    | succ i =>
      have := ih (i := i) h
      show a + sumN (r.take (i + 1)) = a + sumN (r.take i) + x
      omega
theorem sumN_le (l : List Nat) (i : Nat) : sumN (l.take i) ≤ sumN l := by
  induction l generalizing i with
  | nil => simp [sumN]
  | cons a r ih =>
    cases i with
    | zero => simp [sumN]
    | succ i =>
      have := ih i
      show a + sumN (r.take i) ≤ a + sumN r
      omega
/-! ### what the module has written -/
section
variable {P : Program} {w : World} {K : PySem.W.Frag} {mg : Str → Option Value} {base : Heap}
theorem sq_HELD (T : Txt w K mg) (H : Hp) : SqT K H (He.ga K "HELD") (regs5.map V.str) := He.tupB_ok T.e_HELD H
theorem sq_SIGNS (T : Txt w K mg) (H : Hp) : SqT K H (He.ga K "SIGNS") (signs.map V.str) := He.tupB_ok T.e_SIGNS H
theorem sq_CHANGED (T : Txt w K mg) (H : Hp) : SqT K H (He.ga K "CHANGED") (regs4.map V.str) := He.tupB_ok T.e_CHANGED H
theorem in_regs5 : ∀ r ∈ regs5, inV (.str r) (regs5.map V.str) = true := by
  intro r h
  rw [show regs5 = (["a", "b", "c", "d", "x"] : List Str) from rfl] at h
  simp only [List.mem_cons, List.not_mem_nil, or_false] at h
  rcases h with rfl | rfl | rfl | rfl | rfl <;> decide +kernel
theorem in_regs4 : ∀ r ∈ regs4, inV (.str r) (regs4.map V.str) = true := by
  intro r h
  rw [show regs4 = (["a", "b", "c", "d"] : List Str) from rfl] at h
  simp only [List.mem_cons, List.not_mem_nil, or_false] at h
  rcases h with rfl | rfl | rfl | rfl <;> decide +kernel
theorem in_signs : ∀ r ∈ signs, inV (.str r) (signs.map V.str) = true := by
  intro r h
  rw [show signs = (["+", "-", "*", "=", "<"] : List Str) from rfl] at h
  simp only [List.mem_cons, List.not_mem_nil, or_false] at h
  rcases h with rfl | rfl | rfl | rfl | rfl <;> decide +kernel
/-- a def that promises nothing -/
theorem ca_false {x : Str} {st : Stmt} {ps : List Str} {k : Nat} (F : ∃ fd, FunD K x x (defArgs st) (defBody st) (defScope st) [] [] (He.fAd K (x, none)) fd) (g : mg x = some (.ref (He.ga K x))) (hb : BindsH x x st ps) : Ca P w K mg base k x (fun _ _ _ _ => False) := by
  obtain ⟨fd, F⟩ := F
  exact ⟨_, fd, ps, ⟨fun _ _ _ _ h => h.elim, fun _ _ _ _ _ _ _ _ _ _ _ _ _ h => h.elim⟩, g, F.kp, F.bindsN hb⟩
/-- is_expression, n tuples deep at most but one -/
def spE (K : PySem.W.Frag) : Nat → Sp
  | 0 => fun _ _ _ _ => False
  | n + 1 => fun vs H Q _ => ∃ (v : V) (e : Exp) (deep : Nat), vs = [v, .int deep] ∧ Dp K H v e.d ∧ e.ok ∧ e.dep ≤ n ∧ deep + e.dep ≤ 6 ∧ Q (.bl true) H
theorem ca_is_expression (T : Txt w K mg) : ∀ n : Nat, Ca P w K mg base (n + 2) "is_expression" (spE K n)
  | 0 => ca_false (ps := ["value", "deep"]) T.f_is_expression T.g_is_expression (fun _ _ _ _ _ _ us hl => match us, hl with | [_, _], _ => rfl)
  | n + 1 => by
    have ih := ca_is_expression T n
    refine ca_of (N := ["value", "deep", "sign", "one", "other"]) (ps := ["value", "deep"]) T.f_is_expression T.g_is_expression ⟨rfl, rfl, rfl, by decide +kernel, rfl, by decide +kernel, by decide +kernel⟩ (fun _ _ _ _ _ _ us hl => match us, hl with | [_, _], _ => rfl)
      (fun vs H Q E h => by obtain ⟨v, e, deep, rfl, hv, ok, hd, h6, q⟩ := h; rfl) (fun cdv A outer s H vs Q E hr h => ?_)
    have nd : (["value", "deep", "sign", "one", "other"] : List Str).Nodup := by decide +kernel
    obtain ⟨v, e, deep, rfl, hv, ok, hd, h6, q⟩ := h
    refine ⟨_, pss_cons (ps_if (pt_val (pe_ca (ca_is_integer T) hr (pa_cons (pv 0) pa_nil) (by omega))) (pss_one (ps_ret (pe_chain op_le op_le pe_int (pv 0) pe_int))) pss_nil)
      (pss_cons (ps_if (pt_val (pe_is .str T.b_isinstance (pv 0) T.b_str boot_str)) (pss_one (ps_ret (pe_cmpR op_in_seq (pv 0) (pe_gr T.g_HELD) (by rfl)))) pss_nil)
      (pss_cons (ps_if (PW.pt (pw_or (pt_not (pt_val (pe_ca (ca_is_tuple T) hr (pa_cons (pv 0) (pa_cons pe_int pa_nil)) (by omega)))) (pw_or1 (pt_cmpR op_eq (pv 1) (pe_gi T.i_DEEPEST_EXPRESSION) (nomark _))))) (pss_one (ps_ret pe_bl)) pss_nil)
      (pss_cons (ps_asg (pv 0) (pg_three K 2 3 4 rfl rfl nd rfl rfl rfl (.inl rfl) (.inl rfl) (.inl rfl) (.inr rfl) (.inr rfl) (.inr rfl)))
      (pss_one (ps_ret (pe_and (pe_cmpR op_in_seq (pv 2) (pe_gr T.g_SIGNS) (by rfl)) (pe_and (pe_ca ih hr (pa_cons (pv 3) (pa_cons (pe_op op_add (pv 1) pe_int) pa_nil)) (by omega)) (pe_one (pe_ca ih hr (pa_cons (pv 4) (pa_cons (pe_op op_add (pv 1) pe_int) pa_nil)) (by omega)))))))))), ?_⟩
    cases e with
    | num m =>
      cases dp_int hv
      refine ⟨_, rfl, _, _, rfl, .int m, _, rfl, iteT ?_⟩
      refine ⟨_, rfl, _, _, rfl, rfl, _, rfl, ?_⟩
      rw [decide_eq_true ok.1]
      refine iteT ⟨_, _, rfl, rfl, ?_⟩
      show Q (.bl (decide (m ≤ 9))) H
      rw [decide_eq_true ok.2]
      exact q
    | reg r =>
      cases dp_str hv
      refine ⟨_, rfl, _, _, rfl, .str r, _, rfl, iteF ?_⟩
      refine ⟨_, rfl, _, _, rfl, .str r, _, rfl, iteT ?_⟩
      refine ⟨_, rfl, _, _, rfl, .inr (sq_HELD T H), rfl, by decide +kernel, ?_⟩
      show Q (.bl (inV (.str r) (regs5.map V.str))) H
      rw [in_regs5 r ok]
      exact q
    | op s a b =>
      obtain ⟨p, x, y, z, rfl, hp, hx, hy, hz⟩ := dp3 hv
      cases dp_str hx
      have hn : 1 ≤ n := by have : Nat.max a.dep b.dep + 1 ≤ n := hd; omega
      obtain ⟨m, rfl⟩ : ∃ m, n = m + 1 := ⟨n - 1, by omega⟩
      have hd' : Nat.max a.dep b.dep + 1 ≤ m + 1 := hd
      have h6' : deep + (Nat.max a.dep b.dep + 1) ≤ 6 := h6
      have ha : a.dep ≤ Nat.max a.dep b.dep := Nat.le_max_left ..
      have hb : b.dep ≤ Nat.max a.dep b.dep := Nat.le_max_right ..
      refine ⟨_, rfl, _, _, rfl, .tuple hp, _, rfl, iteF ?_⟩
      refine ⟨_, rfl, _, _, rfl, .tuple hp, _, rfl, iteF ?_⟩
      refine ⟨_, rfl, p, _, _, rfl, hp, _, rfl, iteF ?_⟩
      refine ⟨_, rfl, rfl, _, rfl, ?_⟩
      rw [decide_eq_false (show ¬ V.int (deep : Int) = V.int 6 from fun e => by have := V.int.inj e; omega)]
      refine iteF ?_
      refine ⟨_, rfl, p, _, rfl, hp, rfl, _, _, rfl, _, _, rfl, _, _, rfl, rfl, ?_⟩
      refine ⟨_, rfl, _, _, rfl, .inr (sq_SIGNS T H), rfl, by decide +kernel, _, rfl, ?_⟩
      rw [show inV (.str s) (signs.map V.str) = true from in_signs s ok.1]
      refine iteT ?_
      refine ⟨_, rfl, _, rfl, _, _, rfl, rfl, y, a, deep + 1, by simp, hy, ok.2.1, by omega, by omega, _, rfl, iteT ?_⟩
      exact ⟨_, rfl, _, rfl, _, _, rfl, rfl, z, b, deep + 1, by simp, hz, ok.2.2, by omega, by omega, q⟩
end

end M

set_option Elab.async false
set_option linter.all false
set_option maxRecDepth 100000
set_option maxHeartbeats 2000000
namespace M
open PySem PySem.Spec PyProof.Rows L2

theorem at0 {a : V} {xs : List V} : atI (a :: xs) 0 = some a := atI_nat (xs := a :: xs) (j := 0) rfl
theorem at1 {a b : V} {xs : List V} : atI (a :: b :: xs) 1 = some b := atI_nat (xs := a :: b :: xs) (j := 1) rfl
theorem at2 {a b c : V} {xs : List V} : atI (a :: b :: c :: xs) 2 = some c := atI_nat (xs := a :: b :: c :: xs) (j := 2) rfl
theorem at3 {a b c d : V} {xs : List V} : atI (a :: b :: c :: d :: xs) 3 = some d := atI_nat (xs := a :: b :: c :: d :: xs) (j := 3) rfl
theorem at4 {a b c d e : V} {xs : List V} : atI (a :: b :: c :: d :: e :: xs) 4 = some e := atI_nat (xs := a :: b :: c :: d :: e :: xs) (j := 4) rfl
/-! ### d.get(x) of a written dict -/
section
variable {X : Cx} {d : Addr} {es : Array DictEntry} {n : Nat} {o e : Expr} {apos cpos : Pos} {to te : TE}
/-- what d.get(x) gives: what is written at x -/
def tKGet (K : PySem.W.Frag) (d : Addr) (to te : TE) : TE := fun σ H Q => to σ H fun x H1 => x = .ref d ∧ te σ H1 fun y H2 => ∃ (z : Str) (u0 : Value) (v0 : V), y = .str z ∧ PySem.W.nsIn K d z = some (some u0) ∧ RelV v0 u0 ∧ Q v0 H2
theorem pe_kget (D : KDict X.K X.w d es n) (ho : PE X o to) (he : PE X e te) (m : M1 X o "get" apos e cpos) : PE X (.Call (.Attribute o "get" apos) [e] [] cpos) (tKGet X.K d to te) := by
  refine ⟨fun pins s σ H Q I h => ?_⟩
  refine wpAny_Call_method m.base m.few m.line PySem.F.plainAttrs_dict PySem.F.slot_dict_get PySem.F.type_dict_get (thn (ho.run pins s σ H _ I h) fun u s1 hu => ?_)
  obtain ⟨x, H1, I1, rx, ex, q1⟩ := hu
  subst ex
  cases rx
  have M1 : s1.heap.MapOf (strKind X.prog X.w) d _ := PySem.W.mapOf_K (prog := X.prog) I1.kIn D.at_ D.lit
  refine ⟨M1.typeIs, M1.noDict, ?_⟩
  rw [m.trees]
  refine Calls.callWith_builtin rfl (Calls.evalArgs_plain (Calls.spliced_cons (thn (he.run pins s1 σ H1 _ I1 q1) fun iv s2 hv => Calls.spliced_nil ?_)))
  obtain ⟨y, H2, I2, ry, z, u0, v0, ey, hz, r0, q2⟩ := hv
  subst ey
  obtain ⟨t, et⟩ := ry
  subst et
  have M2 : s2.heap.MapOf (strKind X.prog X.w) d _ := PySem.W.mapOf_K (prog := X.prog) I2.kIn D.at_ D.lit
  refine call_meetsIn PySem.F.slot_dict_get M2.typeIs PySem.F.entry_dict_get (PySem.F.args_dict_get_2 _ _) (meets_dict_get (strKind X.prog X.w) d (PySem.strKind_is X.prog X.w z t) D.low) ⟨_, M2, ?_⟩
  rw [PySem.W.find_K D.at_ hz]
  exact ⟨v0, H2, I2.tok _, r0, q2⟩
end
/-! ### the tally of a body -/
def tfl (c co li : Int) : List (Str × V) := putF "lines" (.int li) (putF "coins" (.int co) (putF "cells" (.int c) []))
theorem t1 : ¬ (("cells" : Str) = "coins") := by decide +kernel
theorem t2 : ¬ (("cells" : Str) = "lines") := by decide +kernel
theorem t3 : ¬ (("coins" : Str) = "lines") := by decide +kernel
theorem tfl_eq (c co li : Int) : tfl c co li = ([("cells", V.int c), ("coins", V.int co), ("lines", V.int li)] : List (Str × V)) := by
  unfold tfl
  simp only [putF, if_neg t1, if_neg t2, if_neg t3]
theorem tf_cells (c co li : Int) : (tfl c co li).lookup ("cells" : Str) = some (.int c) := by
  unfold tfl
  rw [lookup_putF, if_neg t2, lookup_putF, if_neg t1, lookup_putF, if_pos rfl]
theorem tf_coins (c co li : Int) : (tfl c co li).lookup ("coins" : Str) = some (.int co) := by
  unfold tfl
  rw [lookup_putF, if_neg t3, lookup_putF, if_pos rfl]
theorem tf_lines (c co li : Int) : (tfl c co li).lookup ("lines" : Str) = some (.int li) := by
  unfold tfl
  rw [lookup_putF, if_pos rfl]
theorem tf_putL (c co li y : Int) : putF "lines" (.int y) (tfl c co li) = tfl c co y := by
  rw [tfl_eq, tfl_eq]
  simp only [putF]
  rw [if_neg t2, if_neg t3, if_pos trivial]
theorem tf_putC (c co li y : Int) : putF "coins" (.int y) (tfl c co li) = tfl c y li := by
  rw [tfl_eq, tfl_eq]
  simp only [putF]
  rw [if_neg t1, if_pos trivial]
def TallyAt (K : PySem.W.Frag) (H : Hp) (t : Addr) (c co li : Int) : Prop := ∃ dx, H t = some (.ins (He.ga K "Tally") dx (tfl c co li))
theorem forms_of {K : PySem.W.Frag} {a : Addr} {kvs : List (Str × List Str)} (h : formsB K a kvs = true) {q : Str × List Str} (hq : q ∈ kvs) (H : Hp) : ∃ t, PySem.W.nsIn K a q.1 = some (some (.ref t)) ∧ SqT K H t (q.2.map V.str) := by
  have z := List.all_eq_true.mp h q hq
  split at z
  · rename_i t e
    split at z
    · rename_i c its n sl e2
      obtain ⟨h1, z⟩ := He.ba z
      obtain ⟨h2, h3⟩ := He.ba z
      have h1 := of_decide_eq_true h1
      subst h1
      refine ⟨t, e, .inr ⟨_, its, n, e2, rfl, rfl, of_decide_eq_true h2, He.relAll_ok h3⟩⟩
    · cases z
  · cases z
/-- the forms as the module has written them -/
def forms : List (Str × List Str) := [("read", ["REG", "CELL"]), ("set", ["CELL", "E"]), ("swap", ["REG", "CELL", "E", "E"]), ("keep", ["REG", "E"]), ("coin", ["REG"]), ("if", ["E", "ROWS", "ROWS"]), ("times", ["E", "ROWS"]), ("answer", ["E"])]
theorem row_form (r : Row) : (r.word, r.prts.map Prt.kind) ∈ forms := by
  unfold forms
  cases r <;> simp [Row.word, Row.prts, Prt.kind]
section
variable {P : Program} {w : World} {K : PySem.W.Frag} {mg : Str → Option Value} {base : Heap}
theorem form_at (T : Txt w K mg) (r : Row) (H : Hp) : ∃ t, PySem.W.nsIn K (He.ga K "FORMS") r.word = some (some (.ref t)) ∧ SqT K H t ((r.prts.map Prt.kind).map V.str) := forms_of (kvs := forms) T.e_FORMS (row_form r) H
def spTally (K : PySem.W.Frag) : Sp := fun vs H Q _ => ∃ (p dx : Addr) (c : Int), vs = [.ref p, .int c] ∧ H p = some (.ins (He.ga K "Tally") dx []) ∧ Q .non (upd H p (.ins (He.ga K "Tally") dx (tfl c 0 0)))
theorem ma_Tally (T : Txt w K mg) : Ma P w K mg base 1 "Tally" (He.ga K "Tally") (spTally K) := by
  refine ma_of (N := ["self", "cells"]) (ps := ["self", "cells"]) T.f_Tally_init T.g_Tally T.k_Tally ⟨rfl, rfl, rfl, by decide +kernel, rfl, by decide +kernel, by decide +kernel⟩ (fun _ _ _ _ _ _ us hl => match us, hl with | [_, _], _ => rfl)
    (fun vs H Q E h => by obtain ⟨p, dx, c, rfl, hp, q⟩ := h; rfl) (fun cdv A outer s H vs Q E hr h => ?_)
  have nd : (["self", "cells"] : List Str).Nodup := by decide +kernel
  obtain ⟨p, dx, c, rfl, hp, q⟩ := h
  refine ⟨_, pss_cons (ps_fld (pv 0) (pv 1) rfl) (pss_cons (ps_fld (pv 0) pe_int rfl) (pss_one (ps_fld (pv 0) pe_int rfl))), ?_⟩
  refine ⟨_, rfl, _, rfl, p, _, dx, _, rfl, hp, T.c_Tally, T.n_Tally_cells, (by show 0 < 1000; decide), ?_⟩
  refine ⟨_, rfl, p, _, dx, _, rfl, upd_same, T.c_Tally, T.n_Tally_coins, (by show 1 < 1000; decide), ?_⟩
  refine ⟨_, rfl, p, _, dx, _, rfl, upd_same, T.c_Tally, T.n_Tally_lines, (by show 2 < 1000; decide), ?_⟩
  rw [upd_upd, upd_upd]
  exact q
/-! ### the rows of a body, n ifs and times deep at most but one -/
def spRows (K : PySem.W.Frag) : Nat → Sp
  | 0 => fun _ _ _ _ => False
  | n + 1 => fun vs H Q _ => ∃ (v : V) (rs : List Row) (deep loops : Nat) (t : Addr) (c : Int) (co li : Nat), vs = [v, .int deep, .int loops, .ref t] ∧ Dp K H v (.tuple (rowsD rs)) ∧ TallyAt K H t c co li ∧ rowsOk c deep loops rs ∧ 14 ≤ deep + (n + 1) ∧ co + rowsCc rs ≤ 4 ∧ li + rowsCl rs ≤ 2000 ∧
    ∀ H', But t H H' → TallyAt K H' t c ((co + rowsCc rs : Nat) : Int) ((li + rowsCl rs : Nat) : Int) → Q (.bl true) H'
def spPart (K : PySem.W.Frag) (n : Nat) : Sp := fun vs H Q _ => ∃ (v : V) (p : Prt) (deep loops : Nat) (t : Addr) (c : Int) (co li : Nat), vs = [.str p.kind, v, .int deep, .int loops, .ref t] ∧ Dp K H v p.d ∧ TallyAt K H t c co li ∧ p.ok c deep loops ∧ (14 ≤ deep + (n + 1) ∧ deep ≤ 12) ∧ co + p.cc ≤ 4 ∧ li + p.cl ≤ 2000 ∧
    ∀ H', But t H H' → TallyAt K H' t c ((co + p.cc : Nat) : Int) ((li + p.cl : Nat) : Int) → Q (.bl true) H'
theorem ca_is_part {n : Nat} (R : Ca P w K mg base (3 * n + 10) "are_body_rows" (spRows K n)) (T : Txt w K mg) : Ca P w K mg base (3 * n + 11) "is_part" (spPart K n) := by
    refine ca_of (N := ["kind", "value", "deep", "loops", "tally"]) (ps := ["kind", "value", "deep", "loops", "tally"]) T.f_is_part T.g_is_part ⟨rfl, rfl, rfl, by decide +kernel, rfl, by decide +kernel, by decide +kernel⟩ (fun _ _ _ _ _ _ us hl => match us, hl with | [_, _, _, _, _], _ => rfl)
      (fun vs H Q E h => by obtain ⟨v, p, deep, loops, t, c, co, li, rfl, hv, ht, ok, hd, hc, hl, q⟩ := h; rfl) (fun cdv A outer s H vs Q E hr h => ?_)
    have nd : (["kind", "value", "deep", "loops", "tally"] : List Str).Nodup := by decide +kernel
    obtain ⟨v, p, deep, loops, t, c, co, li, rfl, hv, ht, ok, hd, hc, hl, q⟩ := h
    refine ⟨_, pss_cons (ps_if (pt_cmpR op_eq (pv 0) pe_str (nomark _)) (pss_one (ps_ret (pe_cmpR op_in_seq (pv 1) (pe_gr T.g_CHANGED) (by rfl)))) pss_nil)
      (pss_cons (ps_if (pt_cmpR op_eq (pv 0) pe_str (nomark _)) (pss_one (ps_ret (pe_ca (ca_is_within T) hr (pa_cons (pv 1) (pa_cons pe_int (pa_cons (pe_op op_sub (pe_fld (pv 4) rfl) pe_int) pa_nil))) (by omega)))) pss_nil)
      (pss_cons (ps_if (pt_cmpR op_eq (pv 0) pe_str (nomark _)) (pss_one (ps_ret (pe_ca (ca_is_expression T 7) hr (pa_cons (pv 1) (pa_cons pe_int pa_nil)) (by omega)))) pss_nil)
      (pss_one (ps_ret (pe_ca R hr (pa_cons (pv 1) (pa_cons (pe_op op_add (pv 2) pe_int) (pa_cons (pv 3) (pa_cons (pv 4) pa_nil)))) (by omega)))))), ?_⟩
    obtain ⟨dx, ht'⟩ := id ht
    cases p with
    | reg r =>
      cases dp_str hv
      refine ⟨_, rfl, rfl, _, rfl, iteT ?_⟩
      refine ⟨_, rfl, _, _, rfl, .inr (sq_CHANGED T H), rfl, by decide +kernel, ?_⟩
      show Q (.bl (inV (.str r) (regs4.map V.str))) H
      rw [in_regs4 r ok]
      exact q H (fun b o _ e => e) ht
    | cell k =>
      cases dp_int hv
      refine ⟨_, rfl, rfl, _, rfl, iteF ?_⟩
      refine ⟨_, rfl, rfl, _, rfl, iteT ?_⟩
      refine ⟨_, rfl, _, rfl, t, _, dx, _, _, rfl, ht', T.c_Tally, T.n_Tally_cells, tf_cells .., _, _, rfl, rfl, k, 0, c - 1, rfl, ?_⟩
      rw [within_t ⟨ok.1, by have := ok.2; omega⟩]
      exact q H (fun b o _ e => e) ht
    | ex e =>
      refine ⟨_, rfl, rfl, _, rfl, iteF ?_⟩
      refine ⟨_, rfl, rfl, _, rfl, iteF ?_⟩
      refine ⟨_, rfl, rfl, _, rfl, iteT ?_⟩
      exact ⟨_, rfl, v, e, 0, rfl, hv, ok.1, ok.2, by have := ok.2; omega, q H (fun b o _ e => e) ht⟩
    | rows rs =>
      refine ⟨_, rfl, rfl, _, rfl, iteF ?_⟩
      refine ⟨_, rfl, rfl, _, rfl, iteF ?_⟩
      refine ⟨_, rfl, rfl, _, rfl, iteF ?_⟩
      obtain ⟨m, rfl⟩ : ∃ m, n = m + 1 := ⟨n - 1, by omega⟩
      exact ⟨_, rfl, _, rfl, _, _, rfl, rfl, _, rfl, _, rfl, v, rs, deep + 1, loops, t, c, co, li, by simp, hv, ht, ok, by omega, hc, hl, q⟩
end

end M

set_option Elab.async false
set_option linter.all false
set_option maxRecDepth 100000
set_option maxHeartbeats 2000000
namespace M
open PySem PySem.Spec PyProof.Rows L2

theorem cut1 (x : V) (xs : List V) : cutV (x :: xs) (some 1) none = xs := by
  unfold cutV
  rw [show (some (1 : Int)) = some ((1 : Nat) : Int) from rfl, HT.sIx_nat, HT.sIx_none, show min 1 (x :: xs).length = 1 from by simp]
  simp
theorem cut1_not (x : V) (xs : List V) : ¬ (HT.sIx (x :: xs).length 0 (some 1) = 0 ∧ HT.sIx (x :: xs).length (x :: xs).length none = (x :: xs).length) := by
  rw [show (some (1 : Int)) = some ((1 : Nat) : Int) from rfl, HT.sIx_nat, show min 1 (x :: xs).length = 1 from by simp]
  intro h
  exact absurd h.1 (by decide)
theorem word_coin {r : Row} (h : r.word = "coin") : ∃ x, r = .coin x := by
  cases r with
  | read r c => exact absurd (show ("read" : Str) = "coin" from h) (by decide +kernel)
  | set c e => exact absurd (show ("set" : Str) = "coin" from h) (by decide +kernel)
  | swap r c e f => exact absurd (show ("swap" : Str) = "coin" from h) (by decide +kernel)
  | keep r e => exact absurd (show ("keep" : Str) = "coin" from h) (by decide +kernel)
  | coin r => exact ⟨r, rfl⟩
  | iff e a b => exact absurd (show ("if" : Str) = "coin" from h) (by decide +kernel)
  | times e a => exact absurd (show ("times" : Str) = "coin" from h) (by decide +kernel)
  | ans e => exact absurd (show ("answer" : Str) = "coin" from h) (by decide +kernel)
theorem word_times {r : Row} (h : r.word = "times") : ∃ e a, r = .times e a := by
  cases r with
  | read r c => exact absurd (show ("read" : Str) = "times" from h) (by decide +kernel)
  | set c e => exact absurd (show ("set" : Str) = "times" from h) (by decide +kernel)
  | swap r c e f => exact absurd (show ("swap" : Str) = "times" from h) (by decide +kernel)
  | keep r e => exact absurd (show ("keep" : Str) = "times" from h) (by decide +kernel)
  | coin r => exact absurd (show ("coin" : Str) = "times" from h) (by decide +kernel)
  | iff e a b => exact absurd (show ("if" : Str) = "times" from h) (by decide +kernel)
  | times e a => exact ⟨e, a, rfl⟩
  | ans e => exact absurd (show ("answer" : Str) = "times" from h) (by decide +kernel)
theorem lp_eq {loops : Nat} {r : Row} (h : r.word ≠ "times") : r.lp loops = loops := by
  cases r <;> first | rfl | exact absurd rfl h
theorem co_eq {r : Row} (h : r.word ≠ "coin") : r.co = 0 := by
  cases r <;> first | rfl | exact absurd rfl h
section
variable {P : Program} {w : World} {K : PySem.W.Frag} {mg : Str → Option Value} {base : Heap}
def spRow (K : PySem.W.Frag) (n : Nat) : Sp := fun vs H Q _ => ∃ (v : V) (r : Row) (deep loops : Nat) (t : Addr) (c : Int) (co li : Nat), vs = [v, .int deep, .int loops, .ref t] ∧ Dp K H v r.d ∧ TallyAt K H t c co li ∧ r.ok c deep loops ∧ (14 ≤ deep + (n + 1) ∧ deep ≤ 12) ∧ co + r.cc ≤ 4 ∧ li + sumN (r.prts.map Prt.cl) ≤ 2000 ∧
    ∀ H', But t H H' → TallyAt K H' t c ((co + r.cc : Nat) : Int) ((li + sumN (r.prts.map Prt.cl) : Nat) : Int) → Q (.bl true) H'
theorem ca_is_body_row {n : Nat} (R : Ca P w K mg base (3 * n + 11) "is_part" (spPart K n)) (T : Txt w K mg) : Ca P w K mg base (3 * n + 12) "is_body_row" (spRow K n) := by
    refine ca_of (N := ["row", "deep", "loops", "tally", "form", "kind", "part"]) (ps := ["row", "deep", "loops", "tally"]) T.f_is_body_row T.g_is_body_row ⟨rfl, rfl, rfl, by decide +kernel, rfl, by decide +kernel, by decide +kernel⟩ (fun _ _ _ _ _ _ us hl => match us, hl with | [_, _, _, _], _ => rfl)
      (fun vs H Q E h => by obtain ⟨v, r, deep, loops, t, c, co, li, rfl, hv, ht, ok, hd, hc, hl, q⟩ := h; rfl) (fun cdv A outer s H vs Q E hr h => ?_)
    have nd : (["row", "deep", "loops", "tally", "form", "kind", "part"] : List Str).Nodup := by decide +kernel
    obtain ⟨v, r, deep, loops, t, c, co, li, rfl, hv, ht, ok, hd, hc, hl, q⟩ := h
    obtain ⟨es, nn, D⟩ := T.t_FORMS
    rw [row_d] at hv
    obtain ⟨a, xs, rfl, ha, hxs⟩ := dp_tup hv
    obtain ⟨y, ys, rfl, hy, hys⟩ : ∃ y ys, xs = y :: ys ∧ Dp K H y (.str r.word) ∧ DpAll K H ys (r.prts.map Prt.d) := by
      cases hxs with | cons h1 h2 => exact ⟨_, _, rfl, h1, h2⟩
    cases dp_str hy
    obtain ⟨f, hf, hfs⟩ := form_at T r H
    refine ⟨_, pss_cons (ps_if (PW.pt (pw_or (pt_not (pt_val (pe_is .tuple T.b_isinstance (pv 0) T.b_tuple boot_tuple))) (pw_or (pt_cmpR op_eq (pe_callB call_len_seq (by rfl) T.b_len PySem.boot_len (pa_cons (pv 0) pa_nil)) pe_int (nomark _)) (pw_or1 (pt_not (pt_val (pe_is .str T.b_isinstance (pe_ix ix_tup (pv 0) pe_int (fun _ _ => rfl)) T.b_str boot_str))))))) (pss_one (ps_ret pe_bl)) pss_nil)
      (pss_cons (ps_set (i := 4) nd rfl (.inl rfl) (pe_kget D (pe_gr T.g_FORMS) (pe_ix ix_tup (pv 0) pe_int (fun _ _ => rfl)) ⟨rfl, rfl, rfl, rfl⟩))
      (pss_cons (ps_if (PW.pt (pw_or (pt_cmp (pc_isN (pv 4))) (pw_or1 (pt_cmpR op_ne (pe_callB call_len_seq (by rfl) T.b_len PySem.boot_len (pa_cons (pv 0) pa_nil)) (pe_op op_add pe_int (pe_callB call_len_seq (by rfl) T.b_len PySem.boot_len (pa_cons (pv 4) pa_nil))) (nomark _))))) (pss_one (ps_ret pe_bl)) pss_nil)
      (C8.pss_cut (ps_if (pt_cmpR op_eq (pe_ix ix_tup (pv 0) pe_int (fun _ _ => rfl)) pe_str (nomark _)) (pss_cons (ps_fldaug (pv 3) pe_int in_add) (pss_one (ps_if (PW.pt (pw_or (pt_cmpR op_gt (pv 2) pe_int (nomark _)) (pw_or1 (pt_cmpR op_gt (pe_fld (pv 3) rfl) (pe_gi T.i_MOST_COINS) (nomark _))))) (pss_one (ps_ret pe_bl)) pss_nil))) pss_nil)
      (C8.pss_cut (ps_if (pt_cmpR op_eq (pe_ix ix_tup (pv 0) pe_int (fun _ _ => rfl)) pe_str (nomark _)) (pss_cons (ps_aug (i := 2) nd rfl (.inl rfl) pe_int ip_add) (pss_one (ps_if (pt_cmpR op_gt (pv 2) (pe_gi T.i_DEEPEST_TIMES) (nomark _)) (pss_one (ps_ret pe_bl)) pss_nil))) pss_nil)
      (pss_cons (ps_for PassesOwn.never rfl (RZ.pi_zipA (by rfl) T.b_zip (pa_cons (pv 4) (pa_cons (pe_slice sl_tup (pv 0) (po_some pe_int) po_none) pa_nil))) (pg_two K 5 6 rfl rfl nd rfl rfl (.inl rfl) (.inl rfl) (.inr rfl) (.inr rfl))
        (pss_one (ps_if (pt_not (pt_val (pe_ca R hr (pa_cons (pv 5) (pa_cons (pv 6) (pa_cons (pv 1) (pa_cons (pv 2) (pa_cons (pv 3) pa_nil)))))  (by omega)))) (pss_one (ps_ret pe_bl)) pss_nil)))
      (pss_one (ps_ret pe_bl))))))), ?_⟩
    have lxs : ys.length = r.prts.length := by rw [dps_len hys, List.length_map]
    -- a tuple of a word and more
    refine ⟨_, rfl, _, _, rfl, .tuple ha, _, rfl, iteF ?_⟩
    refine ⟨_, rfl, _, _, rfl, .inr ha, rfl, _, rfl, ?_⟩
    rw [decide_eq_false (show ¬ V.int (((.str r.word :: ys : List V).length : Nat) : Int) = V.int 0 from fun e => by have := V.int.inj e; simp at this; omega)]
    refine iteF ?_
    refine ⟨_, rfl, _, _, _, _, rfl, rfl, ha, at0, _, _, rfl, .str _, _, rfl, iteF ?_⟩
    -- its form
    refine ⟨rfl, _, rfl, _, _, _, _, rfl, rfl, ha, at0, r.word, _, .ref f, rfl, hf, rfl, ?_⟩
    refine ⟨_, rfl, _, rfl, iteF ?_⟩
    refine ⟨_, rfl, _, _, rfl, .inr ha, _, rfl, _, _, rfl, .inr hfs, _, _, rfl, rfl, rfl, _, rfl, ?_⟩
    refine iteNS (by rw [List.length_cons, lxs, List.length_map, List.length_map]; congr 1; omega) ?_
    -- the coins
    refine ⟨fun σ' H' => σ' = [some (.ref a), some (.int deep), some (.int loops), some (.ref t), some (.ref f), none, none] ∧ But t H H' ∧ TallyAt K H' t c ((co + r.co : Nat) : Int) li, ?_, ?_⟩
    · refine ⟨_, rfl, _, _, _, _, rfl, rfl, ha, at0, rfl, _, rfl, ?_⟩
      by_cases e : r.word = "coin"
      · rw [e]
        refine iteT ?_
        obtain ⟨dx, ht'⟩ := ht
        refine ⟨_, rfl, t, _, dx, _, _, rfl, ht', T.c_Tally, T.n_Tally_coins, tf_coins .., _, _, rfl, rfl, dx, _, ht', (by rw [tfl_eq]; show 3 < 1000; decide), ?_⟩
        rw [tf_putC]
        obtain ⟨x, rfl⟩ := word_coin e
        have e1 : (Row.coin x).co = 1 := rfl
        have e2 : loops = 0 := ok.2
        have e3 := row_cc (.coin x)
        refine ⟨_, rfl, _, _, rfl, rfl, _, rfl, ?_⟩
        rw [decide_eq_false (show ¬ (0 : Int) < (loops : Int) from by omega)]
        refine iteF ⟨_, rfl, t, _, dx, _, _, rfl, upd_same, T.c_Tally, T.n_Tally_coins, tf_coins .., _, _, rfl, rfl, _, rfl, ?_⟩
        rw [decide_eq_false (show ¬ (4 : Int) < (co : Int) + 1 from by omega)]
        refine iteF ⟨rfl, But.upd, dx, ?_⟩
        rw [upd_same, e1]
        rfl
      · rw [decide_eq_false (show ¬ V.str r.word = V.str "coin" from fun z => e (V.str.inj z))]
        refine iteF ⟨rfl, fun b o _ z => z, ?_⟩
        rw [co_eq e]
        exact ht
    rintro σ1 H1 ⟨rfl, b1, ht1⟩
    -- the times
    have ch : Ch H t := by obtain ⟨dx, z⟩ := ht; exact .ins z
    have ch1 : Ch H1 t := by obtain ⟨dx, z⟩ := ht1; exact .ins z
    have ha1 := sqT_but ch b1 ha
    refine ⟨fun σ' H' => σ' = [some (.ref a), some (.int deep), some (.int ((r.lp loops : Nat) : Int)), some (.ref t), some (.ref f), none, none] ∧ H' = H1, ?_, ?_⟩
    · refine ⟨_, rfl, _, _, _, _, rfl, rfl, ha1, at0, rfl, _, rfl, ?_⟩
      by_cases e : r.word = "times"
      · rw [e]
        refine iteT ?_
        have ⟨e1, e2⟩ : r.lp loops = loops + 1 ∧ loops < 2 := by
          obtain ⟨x, y, rfl⟩ := word_times e
          exact ⟨rfl, ok.2.1⟩
        refine ⟨_, rfl, _, _, rfl, rfl, ?_⟩
        refine ⟨_, rfl, _, _, rfl, rfl, _, rfl, ?_⟩
        rw [decide_eq_false (show ¬ (2 : Int) < (loops : Int) + 1 from by omega)]
        refine iteF ⟨?_, rfl⟩
        rw [e1]
        rfl
      · rw [decide_eq_false (show ¬ V.str r.word = V.str "times" from fun z => e (V.str.inj z))]
        refine iteF ⟨?_, rfl⟩
        rw [lp_eq e]
    rintro σ2 H2 ⟨rfl, rfl⟩
    -- the parts
    refine ⟨_, rfl, _, rfl, _, rfl, a, _, rfl, ha1, cut1_not _ _, fun p np => ?_⟩
    rw [cut1]
    have hfs1 : SqT K H2 f ((r.prts.map Prt.kind).map V.str) := sqT_but ch b1 hfs
    have ntp : t ≠ p := fun z => by obtain ⟨dx, y⟩ := ht1; rw [z, np] at y; cases y
    have sn : Same H2 (upd H2 p (.tup ys)) := same_new np
    refine ⟨f, p, _, _, rfl, .inr ⟨same_t sn hfs1, .of upd_same, RZ.for_zipT (xs := (r.prts.map Prt.kind).map V.str) (ys := ys) (by simp [lxs]) (fun i σ' H' => ∃ x y, σ' = [some (.ref a), some (.int deep), some (.int ((r.lp loops : Nat) : Int)), some (.ref t), some (.ref f), x, y] ∧ But t (upd H2 p (.tup ys)) H' ∧ TallyAt K H' t c ((co + r.co + sumN ((r.prts.map Prt.cc).take i) : Nat) : Int) ((li + sumN ((r.prts.map Prt.cl).take i) : Nat) : Int))
      ⟨none, none, rfl, fun b o _ z => z, by obtain ⟨dx, y⟩ := ht1; exact ⟨dx, sn _ _ y⟩⟩ (fun i σ' H' ⟨_, _, _, bt, _⟩ => ⟨sqT_but (H := upd H2 p (.tup ys)) (by obtain ⟨dx, y⟩ := ht1; exact .ins (sn _ _ y)) bt (same_t sn hfs1), sqT_but (H := upd H2 p (.tup ys)) (by obtain ⟨dx, y⟩ := ht1; exact .ins (sn _ _ y)) bt (.of upd_same)⟩) ?_ ?_⟩⟩
    · rintro i x y tt σ' H' hx hy' ⟨_, _, rfl, bt, hta⟩ ntt
      obtain ⟨kk, hk, rfl⟩ := get_mapA hx
      obtain ⟨pp, hp, rfl⟩ := get_mapA hk
      obtain ⟨dd, hdd, hyd⟩ := dps_get hys hy'
      obtain ⟨pp', hp', rfl⟩ := get_mapA hdd
      rw [hp] at hp'
      cases hp'
      have okp := row_prts ok pp (List.mem_of_getElem? hp)
      have nl : NoL pp.d := by
        have := r.noL
        rw [row_d] at this
        cases this with
        | tup h => exact h _ (List.mem_cons_of_mem _ (List.mem_map.mpr ⟨pp, List.mem_of_getElem? hp, rfl⟩))
      have chp : Ch (upd H2 p (.tup ys)) t := by obtain ⟨dx, y⟩ := ht1; exact .ins (sn _ _ y)
      have hy2 : Dp K H' y pp.d := dp_but chp bt (dp_same sn (dp_but ch b1 hyd nl)) nl
      have sn2 : Same H' (upd H' tt (.tup [.str pp.kind, y])) := same_new ntt
      have ntt' : t ≠ tt := fun z => by obtain ⟨dx, y⟩ := hta; rw [z, ntt] at y; cases y
      have ec : ((r.prts.map Prt.cc)[i]?) = some pp.cc := by rw [List.getElem?_map, hp]; rfl
      have el : ((r.prts.map Prt.cl)[i]?) = some pp.cl := by rw [List.getElem?_map, hp]; rfl
      have sc := sumN_take ec
      have sl := sumN_take el
      have lc := sumN_le (r.prts.map Prt.cc) (i + 1)
      have ll := sumN_le (r.prts.map Prt.cl) (i + 1)
      have rc := row_cc r
      refine ⟨tt, _, rfl, SqT.of upd_same, rfl, _, _, rfl, _, _, rfl, rfl, ?_⟩
      refine ⟨_, rfl, _, rfl, _, rfl, _, rfl, _, rfl, y, pp, deep, r.lp loops, t, c, co + r.co + sumN ((r.prts.map Prt.cc).take i), li + sumN ((r.prts.map Prt.cl).take i), rfl, dp_same sn2 hy2, by obtain ⟨dx, z⟩ := hta; exact ⟨dx, sn2 _ _ z⟩, okp, hd, by omega, by omega, fun H3 b3 ht3 => ⟨_, rfl, iteF ⟨_, _, rfl, ?_, ?_⟩⟩⟩
      · exact fun b o hb z => b3 b o hb (sn2 b o (bt b o hb z))
      · rw [sc, sl, ← Nat.add_assoc, ← Nat.add_assoc]
        exact ht3
    · rintro σ' H' ⟨_, _, rfl, bt, hta⟩
      have rc := row_cc r
      refine q H' (fun b o hb z => bt b o hb (sn b o (b1 b o hb z))) ?_
      rw [List.length_map, List.length_map, List.take_of_length_le (by simp), List.take_of_length_le (by simp)] at hta
      rw [rc, ← Nat.add_assoc]
      exact hta
end

end M

set_option Elab.async false
set_option linter.all false
set_option maxRecDepth 100000
set_option maxHeartbeats 2000000
namespace M
open PySem PySem.Spec PyProof.Rows L2

def rowsOkAt {c : Int} {deep loops : Nat} : ∀ {rs : List Row}, rowsOk c deep loops rs → ∀ r ∈ rs, deep ≤ 12 ∧ r.ok c deep loops
  | [], _, r, h => by cases h
  | a :: rs, h, r, hr => by
    have h : deep ≤ 12 ∧ a.ok c deep loops ∧ rowsOk c deep loops rs := h
    rcases List.mem_cons.mp hr with rfl | hr
    · exact ⟨h.1, h.2.1⟩
    · exact rowsOkAt h.2.2 r hr
theorem rowsCl_sum : ∀ rs : List Row, rowsCl rs = sumN (rs.map Row.cl)
  | [] => rfl
  | r :: rs => by rw [rowsCl, rowsCl_sum rs]; rfl
theorem rowsCc_sum : ∀ rs : List Row, rowsCc rs = sumN (rs.map Row.cc)
  | [] => rfl
  | r :: rs => by rw [rowsCc, rowsCc_sum rs]; rfl
section
variable {P : Program} {w : World} {K : PySem.W.Frag} {mg : Str → Option Value} {base : Heap}
theorem ca_are_body_rows {n : Nat} (R : Ca P w K mg base (3 * n + 12) "is_body_row" (spRow K n)) (T : Txt w K mg) : Ca P w K mg base (3 * n + 13) "are_body_rows" (spRows K (n + 1)) := by
    refine ca_of (N := ["rows", "deep", "loops", "tally", "row"]) (ps := ["rows", "deep", "loops", "tally"]) T.f_are_body_rows T.g_are_body_rows ⟨rfl, rfl, rfl, by decide +kernel, rfl, by decide +kernel, by decide +kernel⟩ (fun _ _ _ _ _ _ us hl => match us, hl with | [_, _, _, _], _ => rfl)
      (fun vs H Q E h => by obtain ⟨v, rs, deep, loops, t, c, co, li, rfl, hv, ht, ok, hd, hc, hl, q⟩ := h; rfl) (fun cdv A outer s H vs Q E hr h => ?_)
    have nd : (["rows", "deep", "loops", "tally", "row"] : List Str).Nodup := by decide +kernel
    obtain ⟨v, rs, deep, loops, t, c, co, li, rfl, hv, ht, ok, hd, hc, hl, q⟩ := h
    obtain ⟨a, xs, rfl, ha, hxs⟩ := dp_tup hv
    have lxs : xs.length = rs.length := by rw [dps_len hxs, rowsD_map, List.length_map]
    have ch : Ch H t := by obtain ⟨dx, z⟩ := ht; exact .ins z
    refine ⟨_, (pss_cons (ps_if (pt_not (pt_val (pe_is .tuple T.b_isinstance (pv 0) T.b_tuple boot_tuple))) (pss_one (ps_ret pe_bl)) pss_nil)
      (pss_cons (ps_for PassesOwn.never rfl (pi_tup (pv 0)) (pg_name (i := 4) nd rfl (.inl rfl)) (pss_cons (ps_fldaug (pv 3) pe_int in_add)
      (pss_one (ps_if (PW.pt (pw_or (pt_cmpR op_gt (pv 1) (pe_gi T.i_DEEPEST_ROW) (nomark _)) (pw_or (pt_cmpR op_gt (pe_fld (pv 3) rfl) (pe_gi T.i_MOST_ROWS) (nomark _)) (pw_or1 (pt_not (pt_val (pe_ca R hr (pa_cons (pv 4) (pa_cons (pv 1) (pa_cons (pv 2) (pa_cons (pv 3) pa_nil)))) (by omega)))))))) (pss_one (ps_ret pe_bl)) pss_nil))))
      (pss_one (ps_ret pe_bl)))), ?_⟩
    refine ⟨_, rfl, _, _, rfl, .tuple ha, _, rfl, iteF ?_⟩
    refine ⟨_, rfl, a, rfl, ⟨_, ha⟩, for_tup (xs := xs) (fun i σ' H' => ∃ x, σ' = [some (.ref a), some (.int deep), some (.int loops), some (.ref t), x] ∧ But t H H' ∧ TallyAt K H' t c ((co + sumN ((rs.map Row.cc).take i) : Nat) : Int) ((li + sumN ((rs.map Row.cl).take i) : Nat) : Int))
      ⟨none, rfl, fun b o _ z => z, ht⟩ (fun i σ' H' _ ⟨_, _, bt, _⟩ => sqT_but ch bt ha) ?_ ?_⟩
    · rintro i x σ' H' hx ⟨_, rfl, bt, hta⟩
      obtain ⟨dd, hdd, hxd⟩ := dps_get hxs hx
      rw [rowsD_map] at hdd
      obtain ⟨r, hr', rfl⟩ := get_mapA hdd
      have okr := rowsOkAt ok r (List.mem_of_getElem? hr')
      have ec : ((rs.map Row.cc)[i]?) = some r.cc := by rw [List.getElem?_map, hr']; rfl
      have el : ((rs.map Row.cl)[i]?) = some r.cl := by rw [List.getElem?_map, hr']; rfl
      have sc := sumN_take ec
      have sl := sumN_take el
      have lc := sumN_le (rs.map Row.cc) (i + 1)
      have ll := sumN_le (rs.map Row.cl) (i + 1)
      have rl := row_cl r
      have s1 := rowsCl_sum rs
      have s2 := rowsCc_sum rs
      have hx2 : Dp K H' x r.d := dp_but ch bt hxd r.noL
      obtain ⟨dx, hta'⟩ := id hta
      refine ⟨_, rfl, t, _, dx, _, _, rfl, hta', T.c_Tally, T.n_Tally_lines, tf_lines .., _, _, rfl, rfl, dx, _, hta', (by rw [tfl_eq]; show 3 < 1000; decide), ?_⟩
      rw [tf_putL]
      refine ⟨_, rfl, _, _, rfl, rfl, _, rfl, ?_⟩
      rw [decide_eq_false (show ¬ (12 : Int) < (deep : Int) from by omega)]
      refine iteF ⟨_, rfl, t, _, dx, _, _, rfl, upd_same, T.c_Tally, T.n_Tally_lines, tf_lines .., _, _, rfl, rfl, _, rfl, ?_⟩
      rw [decide_eq_false (show ¬ (2000 : Int) < ((li + sumN ((rs.map Row.cl).take i) : Nat) : Int) + 1 from by omega)]
      have ch' : Ch H' t := .ins hta'
      refine iteF ⟨_, rfl, _, rfl, _, rfl, _, rfl, x, r, deep, loops, t, c, co + sumN ((rs.map Row.cc).take i), li + sumN ((rs.map Row.cl).take i) + 1, rfl, dp_but ch' But.upd hx2 r.noL, ⟨dx, by rw [upd_same]; rfl⟩, okr.2, ⟨by omega, okr.1⟩, by omega, by omega, fun H3 b3 ht3 => ⟨_, rfl, iteF ⟨_, rfl, ?_, ?_⟩⟩⟩
      · exact fun b o hb z => b3 b o hb (by rw [upd_ne hb]; exact bt b o hb z)
      · rw [sc, sl, ← Nat.add_assoc, show li + (sumN ((rs.map Row.cl).take i) + r.cl) = li + sumN ((rs.map Row.cl).take i) + 1 + sumN (r.prts.map Prt.cl) from by omega]
        exact ht3
    · rintro σ' H' ⟨_, rfl, bt, hta⟩
      refine q H' bt ?_
      rw [lxs, List.take_of_length_le (by simp), List.take_of_length_le (by simp)] at hta
      rw [rowsCl_sum, rowsCc_sum]
      exact hta
theorem ca_rows (T : Txt w K mg) : ∀ n, Ca P w K mg base (3 * n + 10) "are_body_rows" (spRows K n)
  | 0 => ca_false (ps := ["rows", "deep", "loops", "tally"]) T.f_are_body_rows T.g_are_body_rows (fun _ _ _ _ _ _ us hl => match us, hl with | [_, _, _, _], _ => rfl)
  | n + 1 => ca_are_body_rows (ca_is_body_row (ca_is_part (ca_rows T n) T) T) T
def spBody (K : PySem.W.Frag) : Sp := fun vs H Q _ => ∃ (v : V) (rs : List Row) (c : Int), vs = [v, .int c] ∧ Dp K H v (.tuple (rowsD rs)) ∧ rowsOk c 1 0 rs ∧ rowsCc rs ≤ 4 ∧ rowsCl rs ≤ 2000 ∧ ∀ H', Same H H' → Q (.bl true) H'
theorem ca_is_body (T : Txt w K mg) : Ca P w K mg base 50 "is_body" (spBody K) := by
  refine ca_of (N := ["rows", "cells"]) (ps := ["rows", "cells"]) T.f_is_body T.g_is_body ⟨rfl, rfl, rfl, by decide +kernel, rfl, by decide +kernel, by decide +kernel⟩ (fun _ _ _ _ _ _ us hl => match us, hl with | [_, _], _ => rfl)
    (fun vs H Q E h => by obtain ⟨v, rs, c, rfl, hv, ok, hc, hl, q⟩ := h; rfl) (fun cdv A outer s H vs Q E hr h => ?_)
  have nd : (["rows", "cells"] : List Str).Nodup := by decide +kernel
  obtain ⟨v, rs, c, rfl, hv, ok, hc, hl, q⟩ := h
  refine ⟨_, pss_one (ps_ret (pe_ca (ca_rows T 13) hr (pa_cons (pv 0) (pa_cons pe_int (pa_cons pe_int (pa_cons (pe_ma (ma_Tally T) hr (pa_cons (pv 1) pa_nil)) pa_nil)))))), ?_⟩
  refine ⟨_, rfl, _, rfl, fun t dx nt nd ndt => ?_⟩
  have s0 : ∀ o : HO, Same H (upd (upd H dx (.own t)) t o) := fun o b u e => by
    rw [upd_ne (ne_of_none e nt), upd_ne (ne_of_none e nd)]
    exact e
  refine ⟨t, dx, c, rfl, upd_same, rfl, v, rs, 1, 0, t, c, 0, 0, rfl, ?_, ⟨dx, upd_same⟩, ok, (by decide), by omega, by omega, fun H' bt _ => ?_⟩
  · rw [upd_upd]
    exact dp_same (s0 _) hv
  · rw [upd_upd] at bt
    exact q H' fun b o e => bt b o (ne_of_none e nt) (s0 _ b o e)
end

end M

set_option Elab.async false
set_option linter.all false
set_option maxRecDepth 100000
set_option maxHeartbeats 2000000
namespace M
open PySem PySem.Spec PyProof.Rows L2

def CellOk (c : Int × Int) : Prop := 1 ≤ c.1 ∧ c.1 ≤ 9 ∧ 0 ≤ c.2 ∧ c.2 < c.1
def NameOk (s : Str) : Prop := 1 ≤ s.length ∧ s.length ≤ 8 ∧ ∀ c ∈ s.cps.toList, 97 ≤ c ∧ c ≤ 122
def DeedOk (c : Int) (d : Str × Int × List Row) : Prop := NameOk d.1 ∧ (1 ≤ d.2.1 ∧ d.2.1 ≤ 9) ∧ rowsOk c 1 0 d.2.2 ∧ rowsCc d.2.2 ≤ 4 ∧ rowsCl d.2.2 ≤ 2000
/-- what a vault is -/
structure VGood (v : Vlt) : Prop where
  c0 : 1 ≤ v.cells.length
  c1 : v.cells.length ≤ 6
  cs : ∀ c ∈ v.cells, CellOk c
  d0 : 1 ≤ v.deeds.length
  d1 : v.deeds.length ≤ 8
  ds : ∀ d ∈ v.deeds, DeedOk v.cells.length d
  nd : (v.deeds.map (·.1)).Nodup
theorem VGood.ok {v : Vlt} (g : VGood v) : VOk v := ⟨g.c1, g.d1, fun d hd => (g.ds d hd).2.1, g.nd⟩
theorem deed_noL (d : Str × Int × List Row) : NoL (deedD d) := .tup (by
  intro e h
  simp at h
  rcases h with rfl | rfl | rfl
  · exact .str _
  · exact .int _
  · exact .tup (rows_noL _))
theorem cell_noL (c : Int × Int) : NoL (cellD c) := .tup (by
  intro e h
  simp at h
  rcases h with rfl | rfl <;> constructor)
theorem sign_le {a c : Nat} (h : a ≤ c) : (!decide (([c] : List Nat) < [a])) = true := by
  have : ¬ (([c] : List Nat) < [a]) := by
    rw [List.cons_lt_cons_iff]
    rintro (h1 | ⟨_, h2⟩)
    · omega
    · exact absurd h2 (by simp)
  rw [decide_eq_false this]
  rfl
theorem Ch.ext {H : Hp} {D : Addr} {φ : Heap → Prop} (h : H D = some (.ext φ)) : Ch H D := ⟨fun _ e => (by rw [h] at e; cases e), fun _ _ e => (by rw [h] at e; cases e)⟩
theorem if_true_of {c : Bool} {A B : Prop} (hc : c = true) (h : A) : if c = true then A else B := by
  rw [if_pos hc]
  exact h
theorem if_not_of {c : Bool} {A B : Prop} (hc : c = true) (h : B) : if (!c) = true then A else B := by
  rw [hc]
  exact iteF h
section
variable {P : Program} {w : World} {K : PySem.W.Frag} {mg : Str → Option Value} {base : Heap}
def spCell (K : PySem.W.Frag) : Sp := fun vs H Q _ => ∃ (v : V) (c : Int × Int), vs = [v] ∧ Dp K H v (cellD c) ∧ CellOk c ∧ Q (.bl true) H
theorem ca_is_cell (T : Txt w K mg) : Ca P w K mg base 3 "is_cell" (spCell K) := by
  refine ca_of (N := ["value"]) (ps := ["value"]) T.f_is_cell T.g_is_cell ⟨rfl, rfl, rfl, by decide +kernel, rfl, by decide +kernel, by decide +kernel⟩ (fun _ _ _ _ _ _ us hl => match us, hl with | [_], _ => rfl)
    (fun vs H Q E h => by obtain ⟨v, c, rfl, hv, ok, q⟩ := h; rfl) (fun cdv A outer s H vs Q E hr h => ?_)
  have nd : (["value"] : List Str).Nodup := by decide +kernel
  obtain ⟨v, c, rfl, hv, ok, q⟩ := h
  refine ⟨_, (pss_one (ps_ret (pe_and (pe_ca (ca_is_tuple T) hr (pa_cons (pv 0) (pa_cons pe_int pa_nil))) (pe_and (pe_ca (ca_is_within T) hr (pa_cons (pe_ix ix_tup (pv 0) pe_int (fun _ _ => rfl)) (pa_cons pe_int (pa_cons (pe_gi T.i_GREATEST_SIZE) pa_nil)))) (pe_one (pe_ca (ca_is_within T) hr (pa_cons (pe_ix ix_tup (pv 0) pe_int (fun _ _ => rfl)) (pa_cons pe_int (pa_cons (pe_op op_sub (pe_ix ix_tup (pv 0) pe_int (fun _ _ => rfl)) pe_int) pa_nil))))))))), ?_⟩
  obtain ⟨a, x, y, rfl, ha, hx, hy⟩ := dp2 hv
  cases dp_int hx
  cases dp_int hy
  obtain ⟨o1, o2, o3, o4⟩ := ok
  refine ⟨_, rfl, a, _, _, rfl, ha, _, rfl, iteT ?_⟩
  refine ⟨_, rfl, _, _, _, _, rfl, rfl, ha, at0, c.1, 1, 9, rfl, _, rfl, ?_⟩
  rw [within_t ⟨o1, o2⟩]
  refine iteT ⟨_, rfl, _, _, _, _, rfl, rfl, ha, at1, _, rfl, _, _, _, _, rfl, rfl, ha, at0, _, _, rfl, rfl, c.2, 0, c.1 - 1, rfl, ?_⟩
  rw [within_t ⟨o3, by omega⟩]
  exact q
def spCells (K : PySem.W.Frag) : Sp := fun vs H Q _ => ∃ (a : Addr) (xs : List V) (cs : List (Int × Int)), vs = [.ref a] ∧ SqL K H a xs ∧ DpAll K H xs (cs.map cellD) ∧ 1 ≤ cs.length ∧ cs.length ≤ 6 ∧ (∀ c ∈ cs, CellOk c) ∧ Q (.bl true) H
theorem ca_are_cells (T : Txt w K mg) : Ca P w K mg base 4 "are_cells" (spCells K) := by
  refine ca_of (N := ["cells", "cell"]) (ps := ["cells"]) T.f_are_cells T.g_are_cells ⟨rfl, rfl, rfl, by decide +kernel, rfl, by decide +kernel, by decide +kernel⟩ (fun _ _ _ _ _ _ us hl => match us, hl with | [_], _ => rfl)
    (fun vs H Q E h => by obtain ⟨a, xs, cs, rfl, ha, hxs, h1, h6, ok, q⟩ := h; rfl) (fun cdv A outer s H vs Q E hr h => ?_)
  have nd : (["cells", "cell"] : List Str).Nodup := by decide +kernel
  obtain ⟨a, xs, cs, rfl, ha, hxs, h1, h6, ok, q⟩ := h
  have lx : xs.length = cs.length := by rw [dps_len hxs, List.length_map]
  refine ⟨_, (pss_cons (ps_if (pt_not (pt_chain op_le op_le pe_int (pe_callB call_len_seq (by rfl) T.b_len PySem.boot_len (pa_cons (pv 0) pa_nil)) (pe_gi T.i_MOST_CELLS))) (pss_one (ps_ret pe_bl)) pss_nil)
      (pss_cons (ps_for PassesOwn.never rfl (pi_list (pv 0)) (pg_name (i := 1) nd rfl (.inl rfl)) (pss_one (ps_if (pt_not (pt_val (pe_ca (ca_is_cell T) hr (pa_cons (pv 1) pa_nil)))) (pss_one (ps_ret pe_bl)) pss_nil)))
      (pss_one (ps_ret pe_bl)))), ?_⟩
  refine ⟨_, rfl, _, _, rfl, .inl ha, _, _, rfl, rfl, _, rfl, ?_⟩
  rw [lx, decide_eq_true (show (1 : Int) ≤ (cs.length : Int) from by omega)]
  refine iteT ⟨_, _, rfl, rfl, _, rfl, ?_⟩
  rw [decide_eq_true (show (cs.length : Int) ≤ 6 from by omega)]
  refine iteF ⟨_, rfl, a, rfl, ⟨_, ha⟩, for_list (xs := xs) (fun i σ' H' => ∃ x, σ' = [some (.ref a), x] ∧ H' = H) ⟨none, rfl, rfl⟩ (fun i σ' H' _ ⟨_, _, e⟩ => e ▸ ha) ?_ ?_⟩
  · rintro i x σ' H' hx ⟨_, rfl, rfl⟩
    obtain ⟨d, hd, hxd⟩ := dps_get hxs hx
    obtain ⟨c, hc, rfl⟩ := get_mapA hd
    exact ⟨_, rfl, x, c, rfl, hxd, ok c (List.mem_of_getElem? hc), _, rfl, iteF ⟨_, rfl, rfl⟩⟩
  · rintro σ' H' ⟨_, rfl, rfl⟩
    exact q
def spName : Sp := fun vs H Q _ => ∃ (s : Str), vs = [.str s] ∧ NameOk s ∧ Q (.bl true) H
theorem ca_is_name (T : Txt w K mg) : Ca P w K mg base 1 "is_name" (spName) := by
  refine ca_of (N := ["value", "letter"]) (ps := ["value"]) T.f_is_name T.g_is_name ⟨rfl, rfl, rfl, by decide +kernel, rfl, by decide +kernel, by decide +kernel⟩ (fun _ _ _ _ _ _ us hl => match us, hl with | [_], _ => rfl)
    (fun vs H Q E h => by obtain ⟨s, rfl, ok, q⟩ := h; rfl) (fun cdv A outer s H vs Q E hr h => ?_)
  have nd : (["value", "letter"] : List Str).Nodup := by decide +kernel
  obtain ⟨s, rfl, ok, q⟩ := h
  refine ⟨_, (pss_cons (ps_if (PW.pt (pw_or (pt_not (pt_val (pe_is .str T.b_isinstance (pv 0) T.b_str boot_str))) (pw_or1 (pt_not (pt_chain op_le op_le pe_int (pe_callB call_len_str (by rfl) T.b_len PySem.boot_len (pa_cons (pv 0) pa_nil)) (pe_gi T.i_LONGEST_NAME)))))) (pss_one (ps_ret pe_bl)) pss_nil)
      (pss_cons (ps_for PassesOwn.never rfl (pi_str (pv 0)) (pg_name (i := 1) nd rfl (.inl rfl)) (pss_one (ps_if (pt_not (pt_chain op_le_str op_le_str pe_str (pv 1) pe_str)) (pss_one (ps_ret pe_bl)) pss_nil)))
      (pss_one (ps_ret pe_bl)))), ?_⟩
  refine ⟨_, rfl, _, _, rfl, .str s, _, rfl, iteF ?_⟩
  have l8 := ok.2.1
  refine ⟨_, rfl, _, rfl, by rw [sizeLine_eq]; omega, _, _, rfl, rfl, _, rfl, ?_⟩
  rw [decide_eq_true (show (1 : Int) ≤ (s.length : Int) from by have := ok.1; omega)]
  refine iteT ⟨_, _, rfl, rfl, _, rfl, ?_⟩
  rw [decide_eq_true (show (s.length : Int) ≤ 8 from by omega)]
  refine iteF ⟨_, rfl, _, rfl, for_it (n := s.cps.size) walk_str (fun i σ' H' => ∃ x, σ' = [some (.str s), x] ∧ H' = H) ⟨none, rfl, rfl⟩ (fun _ _ _ _ _ => trivial) ?_ ?_⟩
  · rintro i x σ' H' H2 hi ⟨_, rfl, rfl⟩ ⟨rfl, c, hc, rfl⟩
    have hm : c ∈ s.cps.toList := by
      rw [← Array.getElem?_toList] at hc
      exact List.mem_of_getElem? hc
    have b := ok.2.2 c hm
    refine ⟨_, rfl, _, _, rfl, rfl, _, rfl, ?_⟩
    refine (if_true_of (sign_le b.1) ?_)
    refine ⟨_, _, rfl, rfl, _, rfl, ?_⟩
    refine if_not_of (sign_le b.2) ⟨_, rfl, rfl⟩
  · rintro σ' H' ⟨_, rfl, rfl⟩
    exact q
theorem cut2 (x y z : V) : cutV [x, y, z] none (some 2) = [x, y] := by
  unfold cutV
  rw [show (some (2 : Int)) = some ((2 : Nat) : Int) from rfl, HT.sIx_nat, HT.sIx_none]
  rfl
theorem cut2_not (x y z : V) : ¬ (HT.sIx [x, y, z].length 0 none = 0 ∧ HT.sIx [x, y, z].length [x, y, z].length (some 2) = [x, y, z].length) := by
  rw [show (some (2 : Int)) = some ((2 : Nat) : Int) from rfl, HT.sIx_nat]
  intro h
  exact absurd h.2 (by show ¬ (min 2 3 = 3); decide)
def spHead (K : PySem.W.Frag) : Sp := fun vs H Q _ => ∃ (v : V) (nm : Str) (ch : Int), vs = [v] ∧ Dp K H v (.tuple [.str nm, .int ch]) ∧ NameOk nm ∧ (1 ≤ ch ∧ ch ≤ 9) ∧ Q (.bl true) H
theorem ca_is_deed_head (T : Txt w K mg) : Ca P w K mg base 3 "is_deed_head" (spHead K) := by
  refine ca_of (N := ["value"]) (ps := ["value"]) T.f_is_deed_head T.g_is_deed_head ⟨rfl, rfl, rfl, by decide +kernel, rfl, by decide +kernel, by decide +kernel⟩ (fun _ _ _ _ _ _ us hl => match us, hl with | [_], _ => rfl)
    (fun vs H Q E h => by obtain ⟨v, nm, ch, rfl, hv, o1, o2, q⟩ := h; rfl) (fun cdv A outer s H vs Q E hr h => ?_)
  have nd : (["value"] : List Str).Nodup := by decide +kernel
  obtain ⟨v, nm, ch, rfl, hv, o1, o2, q⟩ := h
  refine ⟨_, (pss_one (ps_ret (pe_and (pe_ca (ca_is_tuple T) hr (pa_cons (pv 0) (pa_cons pe_int pa_nil))) (pe_and (pe_ca (ca_is_name T) hr (pa_cons (pe_ix ix_tup (pv 0) pe_int (fun _ _ => rfl)) pa_nil)) (pe_one (pe_ca (ca_is_within T) hr (pa_cons (pe_ix ix_tup (pv 0) pe_int (fun _ _ => rfl)) (pa_cons pe_int (pa_cons (pe_gi T.i_MOST_CHOICES) pa_nil))))))))), ?_⟩
  obtain ⟨a, x, y, rfl, ha, hx, hy⟩ := dp2 hv
  cases dp_str hx
  cases dp_int hy
  refine ⟨_, rfl, a, _, _, rfl, ha, _, rfl, iteT ?_⟩
  refine ⟨_, rfl, _, _, _, _, rfl, rfl, ha, at0, nm, rfl, o1, _, rfl, iteT ?_⟩
  refine ⟨_, rfl, _, _, _, _, rfl, rfl, ha, at1, ch, 1, 9, rfl, ?_⟩
  rw [within_t o2]
  exact q
def spDeed (K : PySem.W.Frag) : Sp := fun vs H Q _ => ∃ (v : V) (d : Str × Int × List Row) (c : Int), vs = [v, .int c] ∧ Dp K H v (deedD d) ∧ DeedOk c d ∧ ∀ H', Same H H' → Q (.bl true) H'
theorem ca_is_deed (T : Txt w K mg) : Ca P w K mg base 51 "is_deed" (spDeed K) := by
  refine ca_of (N := ["value", "cells"]) (ps := ["value", "cells"]) T.f_is_deed T.g_is_deed ⟨rfl, rfl, rfl, by decide +kernel, rfl, by decide +kernel, by decide +kernel⟩ (fun _ _ _ _ _ _ us hl => match us, hl with | [_, _], _ => rfl)
    (fun vs H Q E h => by obtain ⟨v, d, c, rfl, hv, ok, q⟩ := h; rfl) (fun cdv A outer s H vs Q E hr h => ?_)
  have nd : (["value", "cells"] : List Str).Nodup := by decide +kernel
  obtain ⟨v, d, c, rfl, hv, ok, q⟩ := h
  refine ⟨_, (pss_one (ps_ret (pe_and (pe_ca (ca_is_tuple T) hr (pa_cons (pv 0) (pa_cons pe_int pa_nil))) (pe_and (pe_ca (ca_is_deed_head T) hr (pa_cons (pe_slice sl_tup (pv 0) po_none (po_some pe_int)) pa_nil)) (pe_one (pe_ca (ca_is_body T) hr (pa_cons (pe_ix ix_tup (pv 0) pe_int (fun _ _ => rfl)) (pa_cons (pv 1) pa_nil)))))))), ?_⟩
  obtain ⟨a, x, y, z, rfl, ha, hx, hy, hz⟩ := dp3 hv
  cases dp_str hx
  cases dp_int hy
  obtain ⟨o1, o2, o3, o4, o5⟩ := ok
  refine ⟨_, rfl, a, _, _, rfl, ha, _, rfl, iteT ?_⟩
  refine ⟨_, rfl, _, rfl, a, _, rfl, ha, cut2_not _ _ _, fun p np => ?_⟩
  rw [cut2]
  have s1 := same_new (o := .tup [.str d.1, .int d.2.1]) np
  refine ⟨_, d.1, d.2.1, rfl, .tup (.of upd_same) (.cons (.str _) (.cons (.int _) .nil)), o1, o2, _, rfl, iteT ?_⟩
  exact ⟨_, rfl, _, _, _, _, rfl, rfl, same_t s1 ha, at2, _, rfl, z, d.2.2, c, rfl, dp_same s1 hz, o3, o4, o5, fun H2 s2 => q H2 (s1.trans s2)⟩
def spDeeds (K : PySem.W.Frag) : Sp := fun vs H Q _ => ∃ (a : Addr) (xs : List V) (ds : List (Str × Int × List Row)) (c : Int), vs = [.ref a, .int c] ∧ SqL K H a xs ∧ DpAll K H xs (ds.map deedD) ∧ 1 ≤ ds.length ∧ ds.length ≤ 8 ∧ (∀ d ∈ ds, DeedOk c d) ∧ (ds.map (·.1)).Nodup ∧ ∀ H', Same H H' → Q (.bl true) H'
theorem ca_are_deeds (T : Txt w K mg) : Ca P w K mg base 52 "are_deeds" (spDeeds K) := by
  refine ca_of (N := ["deeds", "cells", "taken", "deed"]) (ps := ["deeds", "cells"]) T.f_are_deeds T.g_are_deeds ⟨rfl, rfl, rfl, by decide +kernel, rfl, by decide +kernel, by decide +kernel⟩ (fun _ _ _ _ _ _ us hl => match us, hl with | [_, _], _ => rfl)
    (fun vs H Q E h => by obtain ⟨a, xs, ds, c, rfl, ha, hxs, h1, h8, ok, nds, q⟩ := h; rfl) (fun cdv A outer s H vs Q E hr h => ?_)
  have nd : (["deeds", "cells", "taken", "deed"] : List Str).Nodup := by decide +kernel
  obtain ⟨a, xs, ds, c, rfl, ha, hxs, h1, h8, ok, nds, q⟩ := h
  have lx : xs.length = ds.length := by rw [dps_len hxs, List.length_map]
  refine ⟨_, (pss_cons (ps_if (pt_not (pt_chain op_le op_le pe_int (pe_callB call_len_seq (by rfl) T.b_len PySem.boot_len (pa_cons (pv 0) pa_nil)) (pe_gi T.i_MOST_DEEDS))) (pss_one (ps_ret pe_bl)) pss_nil)
      (pss_cons (ps_set (i := 2) nd rfl (.inl rfl) (pe_callTy0 cr_set0K (by rfl) T.b_set boot_set))
      (pss_cons (ps_for PassesOwn.never rfl (pi_list (pv 0)) (pg_name (i := 3) nd rfl (.inl rfl)) (pss_cons (ps_if (PW.pt (pw_or (pt_not (pt_val (pe_ca (ca_is_deed T) hr (pa_cons (pv 3) (pa_cons (pv 1) pa_nil))))) (pw_or1 (pt_cmpR or_sinK (pe_ix ix_tup (pv 3) pe_int (fun _ _ => rfl)) (pv 2) (by rfl))))) (pss_one (ps_ret pe_bl)) pss_nil)
      (pss_one (ps_expr (pe_saddK (pv 2) (pa_cons (pe_ix ix_tup (pv 3) pe_int (fun _ _ => rfl)) pa_nil))))))
      (pss_one (ps_ret pe_bl))))), ?_⟩
  refine ⟨_, rfl, _, _, rfl, .inl ha, _, _, rfl, rfl, _, rfl, ?_⟩
  rw [lx, decide_eq_true (show (1 : Int) ≤ (ds.length : Int) from by omega)]
  refine iteT ⟨_, _, rfl, rfl, _, rfl, ?_⟩
  rw [decide_eq_true (show (ds.length : Int) ≤ 8 from by omega)]
  refine iteF ⟨rfl, fun p np => ?_⟩
  have s0 : Same H (upd H p (SetK P w p (fun _ => false) 0)) := same_new np
  have mem : ∀ (i : Nat) (H' : Hp), But p (upd H p (SetK P w p (fun _ => false) 0)) H' → SqL K H' a xs := fun i H' bt => (show Same H H' from fun b o e => bt b o (ne_of_none e np) (s0 b o e)).seq ha
  refine ⟨_, rfl, a, rfl, ⟨_, s0.seq ha⟩, for_list (xs := xs) (fun i σ' H' => ∃ (x : Option V) (S : L2.Key → Bool) (n : Nat), σ' = [some (.ref a), some (.int c), some (.ref p), x] ∧ But p (upd H p (SetK P w p (fun _ => false) 0)) H' ∧ H' p = some (SetK P w p S n) ∧ n ≤ i ∧ ∀ k, S k = true → ∃ d ∈ ds.take i, k = Sum.inr d.1)
    ⟨none, fun _ => false, 0, rfl, fun b o _ z => z, upd_same, Nat.le_refl _, fun k e => by cases e⟩ (fun i σ' H' _ ⟨_, _, _, _, bt, _⟩ => mem i H' bt) ?_ ?_⟩
  · rintro i x σ' H' hx ⟨_, S, n, rfl, bt, hp, hn, hS⟩
    have sH : Same H H' := fun b o e => bt b o (ne_of_none e np) (s0 b o e)
    obtain ⟨d, hd, hxd⟩ := dps_get hxs hx
    obtain ⟨dd, hdd, rfl⟩ := get_mapA hd
    have hi : i < ds.length := (List.getElem?_eq_some_iff.mp hdd).1
    refine ⟨_, rfl, _, rfl, x, dd, c, rfl, dp_same sH hxd, ok dd (List.mem_of_getElem? hdd), fun H2 s2 => ⟨_, rfl, iteF ?_⟩⟩
    obtain ⟨t, y1, y2, y3, rfl, ht, e1, e2, e3⟩ := dp3 (dp_same (sH.trans s2) hxd)
    cases dp_str e1
    have hSf : S (Sum.inr dd.1) = false := by
      cases e : S (Sum.inr dd.1) with
      | false => rfl
      | true =>
        obtain ⟨d', hd', ed⟩ := hS _ e
        obtain ⟨j, hj, ej⟩ := List.mem_iff_getElem.mp hd'
        rw [List.length_take] at hj
        rw [List.getElem_take] at ej
        have n1 : (ds.map (·.1))[i]? = some dd.1 := by rw [List.getElem?_map, hdd]; rfl
        have n2 : (ds.map (·.1))[j]? = some dd.1 := by
          rw [List.getElem?_map, List.getElem?_eq_getElem (by omega : j < ds.length), ej]
          exact congrArg some (Sum.inr.inj ed).symm
        have := nd_ix nds n1 n2
        omega
    refine ⟨_, rfl, _, _, _, _, rfl, rfl, ht, at0, _, rfl, Sum.inr dd.1, p, S, n, rfl, rfl, s2 _ _ hp, _, rfl, ?_⟩
    rw [hSf]
    refine iteF ⟨_, rfl, ⟨p, S, n, rfl, s2 _ _ hp⟩, _, rfl, _, _, _, _, rfl, rfl, ht, at0, p, Sum.inr dd.1, S, n, rfl, rfl, s2 _ _ hp, (by show n + 1 < 4096; omega), ?_⟩
    refine ⟨_, _, _, rfl, fun b o hb z => ?_, upd_same, ?_, fun k e => ?_⟩
    · rw [upd_ne hb]
      exact s2 b o (bt b o hb z)
    · rw [hSf]
      show n + 1 ≤ i + 1
      omega
    · rw [take_more hdd]
      rcases Bool.or_eq_true_iff.mp e with h | h
      · obtain ⟨d', hd', e'⟩ := hS k h
        exact ⟨d', List.mem_append_left _ hd', e'⟩
      · exact ⟨dd, List.mem_append_right _ List.mem_cons_self, of_decide_eq_true h⟩
  · rintro σ' H' ⟨_, S, n, rfl, bt, hp, _⟩
    exact q H' fun b o e => bt b o (ne_of_none e np) (s0 b o e)
end

end M

set_option Elab.async false
set_option linter.all false
set_option maxRecDepth 100000
set_option maxHeartbeats 2000000
namespace M
open PySem PySem.Spec PyProof.Rows L2

/-! ### codes: no hole is left, their size -/
def FR.hd : FR → Option Str
  | .row r => some r.word
  | .unless _ _ => some "unless"
  | .on _ => some "on"
  | .rounds _ => some "rounds"
  | .round _ => some "round"
  | .hole => none
def FR.tl : FR → List PyData
  | .row r => r.prts.map Prt.d
  | .unless e p => [e.d, .int p]
  | .on p => [.int p]
  | .rounds e => [e.d]
  | .round p => [.int p]
  | .hole => []
theorem fr_d : ∀ {f : FR} {s : Str}, f.hd = some s → f.d = .tuple (.str s :: f.tl)
  | .row r, s, h => by
    cases (Option.some.inj h)
    exact row_d r
  | .hole, s, h => by cases h
  | .unless e p, s, h => by
    cases (Option.some.inj h)
    rfl
  | .on p, s, h => by
    cases (Option.some.inj h)
    rfl
  | .rounds e, s, h => by
    cases (Option.some.inj h)
    rfl
  | .round p, s, h => by
    cases (Option.some.inj h)
    rfl
/-- c' goes on from c, nothing new is a hole, n more at most -/
structure Goes (c c' : List FR) (n : Nat) : Prop where
  le : c.length ≤ c'.length
  old : ∀ i, i < c.length → c'[i]? = c[i]?
  new : ∀ i f, c.length ≤ i → c'[i]? = some f → f.hd ≠ none
  sz : c'.length ≤ c.length + n
theorem goes_one {c : List FR} {f : FR} {n : Nat} (h : f.hd ≠ none) (hn : 1 ≤ n) : Goes c (c ++ [f]) n := by
  refine ⟨by simp, fun i hi => List.getElem?_append_left hi, fun i g hi e => ?_, by simp; omega⟩
  rw [List.getElem?_append_right hi] at e
  cases q : i - c.length with
  | zero =>
    rw [q] at e
    cases (Option.some.inj e)
    exact h
  | succ m =>
    rw [q] at e
    simp at e
mutual
theorem putRow_goes : ∀ (r : Row) (c : List FR), Goes c (putRow r c) (3 * r.cl)
  | .read r k, c => goes_one (by simp [FR.hd]) (by simp [Row.cl])
  | .set k e, c => goes_one (by simp [FR.hd]) (by simp [Row.cl])
  | .swap r k e f, c => goes_one (by simp [FR.hd]) (by simp [Row.cl])
  | .keep r e, c => goes_one (by simp [FR.hd]) (by simp [Row.cl])
  | .coin r, c => goes_one (by simp [FR.hd]) (by simp [Row.cl])
  | .ans e, c => goes_one (by simp [FR.hd]) (by simp [Row.cl])
  | .iff e a b, c => by
    have g1 := putRows_goes a (c ++ [FR.hole])
    generalize h1 : putRows a (c ++ [FR.hole]) = c1 at g1
    have g2 := putRows_goes b ((c1 ++ [FR.hole]).set c.length (FR.unless e (c1.length + 1)))
    generalize h2 : putRows b ((c1 ++ [FR.hole]).set c.length (FR.unless e (c1.length + 1))) = c2 at g2
    have e0 : putRow (.iff e a b) c = c2.set c1.length (FR.on c2.length) := by
      show (putRows b (((putRows a (c ++ [FR.hole])) ++ [FR.hole]).set c.length (FR.unless e ((putRows a (c ++ [FR.hole])).length + 1)))).set (putRows a (c ++ [FR.hole])).length (FR.on (putRows b (((putRows a (c ++ [FR.hole])) ++ [FR.hole]).set c.length (FR.unless e ((putRows a (c ++ [FR.hole])).length + 1)))).length) = _
      rw [h1, h2]
    rw [e0]
    have l1 := g1.le
    have z1 := g1.sz
    have l2 := g2.le
    have z2 := g2.sz
    simp only [List.length_append, List.length_set, List.length_cons, List.length_nil] at l1 z1 l2 z2
    have ecl : Row.cl (.iff e a b) = 1 + (rowsCl a + rowsCl b) := rfl
    refine ⟨by rw [List.length_set]; omega, fun i hi => ?_, fun i f hi ef => ?_, by rw [List.length_set, ecl]; omega⟩
    · rw [List.getElem?_set_ne (by omega), g2.old i (by simp; omega), List.getElem?_set_ne (by omega), List.getElem?_append_left (by omega), g1.old i (by simp; omega), List.getElem?_append_left hi]
    · by_cases q : i = c1.length
      · subst q
        rw [List.getElem?_set_self (by omega)] at ef
        cases (Option.some.inj ef)
        simp [FR.hd]
      · rw [List.getElem?_set_ne (by omega)] at ef
        by_cases q2 : i < c1.length + 1
        · rw [g2.old i (by simp; omega)] at ef
          by_cases q3 : i = c.length
          · subst q3
            rw [List.getElem?_set_self (by simp; omega)] at ef
            cases (Option.some.inj ef)
            simp [FR.hd]
          · rw [List.getElem?_set_ne (by omega), List.getElem?_append_left (by omega)] at ef
            exact g1.new i f (by simp; omega) ef
        · exact g2.new i f (by simp; omega) ef
  | .times e a, c => by
    have g1 := putRows_goes a (c ++ [FR.rounds e, FR.hole])
    generalize h1 : putRows a (c ++ [FR.rounds e, FR.hole]) = c1 at g1
    have e0 : putRow (.times e a) c = (c1 ++ [FR.on (c.length + 1)]).set (c.length + 1) (FR.round (c1.length + 1)) := by
      show ((putRows a (c ++ [FR.rounds e, FR.hole])) ++ [FR.on (c.length + 1)]).set (c.length + 1) (FR.round ((putRows a (c ++ [FR.rounds e, FR.hole])).length + 1)) = _
      rw [h1]
    rw [e0]
    have l1 := g1.le
    have z1 := g1.sz
    simp only [List.length_append, List.length_set, List.length_cons, List.length_nil] at l1 z1
    have ecl : Row.cl (.times e a) = 1 + rowsCl a := rfl
    refine ⟨by simp; omega, fun i hi => ?_, fun i f hi ef => ?_, by simp [ecl]; omega⟩
    · rw [List.getElem?_set_ne (by omega), List.getElem?_append_left (by omega), g1.old i (by simp; omega), List.getElem?_append_left hi]
    · by_cases q : i = c.length + 1
      · subst q
        rw [List.getElem?_set_self (by simp; omega)] at ef
        cases (Option.some.inj ef)
        simp [FR.hd]
      · rw [List.getElem?_set_ne (by omega)] at ef
        by_cases q2 : i < c1.length
        · rw [List.getElem?_append_left q2] at ef
          by_cases q3 : i = c.length
          · subst q3
            rw [g1.old _ (by simp), List.getElem?_append_right (Nat.le_refl _), Nat.sub_self] at ef
            cases (Option.some.inj ef)
            simp [FR.hd]
          · exact g1.new i f (by simp; omega) ef
        · rw [List.getElem?_append_right (by omega)] at ef
          cases q4 : i - c1.length with
          | zero =>
            rw [q4] at ef
            cases (Option.some.inj ef)
            simp [FR.hd]
          | succ m =>
            rw [q4] at ef
            simp at ef
theorem putRows_goes : ∀ (rs : List Row) (c : List FR), Goes c (putRows rs c) (3 * rowsCl rs)
  | [], c => ⟨Nat.le_refl _, fun _ _ => rfl, fun i f hi e => by
    have := (List.getElem?_eq_some_iff.mp e).1
    change i < c.length at this
    omega, Nat.le_add_right _ _⟩
  | r :: rs, c => by
    have g1 := putRow_goes r c
    have g2 := putRows_goes rs (putRow r c)
    have ecl : rowsCl (r :: rs) = r.cl + rowsCl rs := rfl
    have l1 := g1.le
    have z1 := g1.sz
    have l2 := g2.le
    have z2 := g2.sz
    refine ⟨by show c.length ≤ (putRows rs (putRow r c)).length; omega, fun i hi => ?_, fun i f hi e => ?_, by show (putRows rs (putRow r c)).length ≤ _; rw [ecl]; omega⟩
    · show (putRows rs (putRow r c))[i]? = _
      rw [g2.old i (by omega), g1.old i hi]
    · change (putRows rs (putRow r c))[i]? = some f at e
      by_cases q : i < (putRow r c).length
      · rw [g2.old i q] at e
        exact g1.new i f hi e
      · exact g2.new i f (by omega) e
end
theorem code_hd {rows : List Row} {f : FR} (h : f ∈ codeOf rows) : ∃ s, f.hd = some s := by
  have g := putRows_goes rows []
  have : f.hd ≠ none := by
    rcases List.mem_append.mp h with h | h
    · obtain ⟨i, hi, e⟩ := List.mem_iff_getElem.mp h
      exact g.new i f (Nat.zero_le _) (by rw [List.getElem?_eq_getElem hi, e])
    · rw [List.mem_singleton.mp h]
      simp [FR.hd]
  cases q : f.hd with
  | none => exact absurd q this
  | some s => exact ⟨s, rfl⟩
theorem code_len (rows : List Row) : (codeOf rows).length ≤ 3 * rowsCl rows + 1 := by
  have g := (putRows_goes rows []).sz
  simp [codeOf] at g ⊢
  omega

end M

set_option Elab.async false
set_option linter.all false
set_option maxRecDepth 100000
set_option maxHeartbeats 2000000
namespace M
open PySem PySem.Spec PyProof.Rows L2

theorem putRows_snoc : ∀ (as : List Row) (r : Row) (c : List FR), putRows (as ++ [r]) c = putRow r (putRows as c)
  | [], r, c => rfl
  | a :: as, r, c => putRows_snoc as r (putRow a c)
theorem frs_noL (c : List FR) : ∀ d ∈ c.map FR.d, NoL d := fun d h => by
  obtain ⟨f, _, rfl⟩ := List.mem_map.mp h
  exact f.noL
theorem rowsCl_take {rs : List Row} {i : Nat} {r : Row} (h : rs[i]? = some r) : rowsCl (rs.take i) + r.cl ≤ rowsCl rs := by
  rw [rowsCl_sum, rowsCl_sum, List.map_take]
  have e : ((rs.map Row.cl)[i]?) = some r.cl := by rw [List.getElem?_map, h]; rfl
  have := sumN_take e
  have := sumN_le (rs.map Row.cl) (i + 1)
  omega
theorem word_if {r : Row} (h : r.word = "if") : ∃ e a b, r = .iff e a b := by
  cases r with
  | read r c => exact absurd (show ("read" : Str) = "if" from h) (by decide +kernel)
  | set c e => exact absurd (show ("set" : Str) = "if" from h) (by decide +kernel)
  | swap r c e f => exact absurd (show ("swap" : Str) = "if" from h) (by decide +kernel)
  | keep r e => exact absurd (show ("keep" : Str) = "if" from h) (by decide +kernel)
  | coin r => exact absurd (show ("coin" : Str) = "if" from h) (by decide +kernel)
  | iff e a b => exact ⟨e, a, b, rfl⟩
  | times e a => exact absurd (show ("times" : Str) = "if" from h) (by decide +kernel)
  | ans e => exact absurd (show ("answer" : Str) = "if" from h) (by decide +kernel)
theorem putRow_plain {r : Row} (c : List FR) (h1 : r.word ≠ "if") (h2 : r.word ≠ "times") : putRow r c = c ++ [.row r] := by
  cases r <;> first | rfl | exact absurd rfl h1 | exact absurd rfl h2
section
variable {P : Program} {w : World} {K : PySem.W.Frag} {mg : Str → Option Value} {base : Heap}
/-- what put_rows and its kin leave: the list goes on -/
abbrev PutQ (K : PySem.W.Frag) (H : Hp) (l : Addr) (c' : List FR) (Q : VK) : Prop := ∀ H' ys', But l H H' → H' l = some (.lst ys') → DpAll K H' ys' (c'.map FR.d) → Q .non H'
def spPuts (K : PySem.W.Frag) : Nat → Sp
  | 0 => fun _ _ _ _ => False
  | n + 1 => fun vs H Q _ => ∃ (l : Addr) (v : V) (ys : List V) (c : List FR) (rs : List Row) (k : Int) (deep loops : Nat), vs = [.ref l, v] ∧ H l = some (.lst ys) ∧ DpAll K H ys (c.map FR.d) ∧ Dp K H v (.tuple (rowsD rs)) ∧ rowsOk k deep loops rs ∧ 14 ≤ deep + (n + 1) ∧ c.length + 3 * rowsCl rs ≤ 90000 ∧ PutQ K H l (putRows rs c) Q
def spPut1 (K : PySem.W.Frag) (n : Nat) (wd : Str) : Sp := fun vs H Q _ => ∃ (l : Addr) (v : V) (ys : List V) (c : List FR) (r : Row) (k : Int) (deep loops : Nat), vs = [.ref l, v] ∧ H l = some (.lst ys) ∧ DpAll K H ys (c.map FR.d) ∧ Dp K H v r.d ∧ r.word = wd ∧ (r.ok k deep loops ∧ deep ≤ 12) ∧ 14 ≤ deep + (n + 1) ∧ c.length + 3 * r.cl ≤ 90000 ∧ PutQ K H l (putRow r c) Q
theorem ca_put_if {n : Nat} (R : Ca P w K mg base (2 * n + 1) "put_rows" (spPuts K n)) (T : Txt w K mg) : Ca P w K mg base (2 * n + 2) "put_if" (spPut1 K n "if") := by
    refine ca_of (N := ["code", "row", "test", "over"]) (ps := ["code", "row"]) T.f_put_if T.g_put_if ⟨rfl, rfl, rfl, by decide +kernel, rfl, by decide +kernel, by decide +kernel⟩ (fun _ _ _ _ _ _ us hl => match us, hl with | [_, _], _ => rfl)
      (fun vs H Q E h => by obtain ⟨l, v, ys, c, r, k, deep, loops, rfl, hl, hys, hv, hw, ⟨ok, hd⟩, hn, hz, q⟩ := h; rfl) (fun cdv A outer s H vs Q E hr h => ?_)
    have nd : (["code", "row", "test", "over"] : List Str).Nodup := by decide +kernel
    obtain ⟨l, v, ys, c, r, k, deep, loops, rfl, hl, hys, hv, hw, ⟨ok, hd⟩, hn, hz, q⟩ := h
    obtain ⟨e, a, b, rfl⟩ := word_if hw
    obtain ⟨m, rfl⟩ : ∃ m, n = m + 1 := ⟨n - 1, by omega⟩
    have ok : e.good ∧ rowsOk k (deep + 1) loops a ∧ rowsOk k (deep + 1) loops b := ok
    have hz : c.length + 3 * (1 + (rowsCl a + rowsCl b)) ≤ 90000 := hz
    have nl : NoL (Row.iff e a b).d := Row.noL _
    obtain ⟨ra, xs, rfl, hra, hxs⟩ := dp_tup hv
    obtain ⟨x0, x1, x2, x3, rfl, h0, h1, h2, h3⟩ : ∃ x0 x1 x2 x3, xs = [x0, x1, x2, x3] ∧ Dp K H x0 (.str "if") ∧ Dp K H x1 e.d ∧ Dp K H x2 (.tuple (rowsD a)) ∧ Dp K H x3 (.tuple (rowsD b)) := by
      cases hxs with | cons h0 hr => cases hr with | cons h1 hr => cases hr with | cons h2 hr => cases hr with | cons h3 hr => cases hr with | nil => exact ⟨_, _, _, _, rfl, h0, h1, h2, h3⟩
    refine ⟨_, (pss_cons (ps_set (i := 2) nd rfl (.inl rfl) (pe_callB call_len_seq (by rfl) T.b_len PySem.boot_len (pa_cons (pv 0) pa_nil)))
      (pss_cons (ps_expr (pe_bm PySem.F.plainAttrs_list PySem.F.slot_list_append PySem.F.type_list_append mt_append (pv 0) (pa_cons (pe_tup pa_nil) pa_nil)))
      (pss_cons (ps_expr (pe_ca R hr (pa_cons (pv 0) (pa_cons (pe_ix ix_tup (pv 1) pe_int (fun _ _ => rfl)) pa_nil)) (by omega)))
      (pss_cons (ps_set (i := 3) nd rfl (.inl rfl) (pe_callB call_len_seq (by rfl) T.b_len PySem.boot_len (pa_cons (pv 0) pa_nil)))
      (pss_cons (ps_expr (pe_bm PySem.F.plainAttrs_list PySem.F.slot_list_append PySem.F.type_list_append mt_append (pv 0) (pa_cons (pe_tup pa_nil) pa_nil)))
      (pss_cons (ps_asg (pe_tup (pa_cons pe_str (pa_cons (pe_ix ix_tup (pv 1) pe_int (fun _ _ => rfl)) (pa_cons (pe_callB call_len_seq (by rfl) T.b_len PySem.boot_len (pa_cons (pv 0) pa_nil)) pa_nil)))) (pg_sub (pv 0) (pv 2) set_list))
      (pss_cons (ps_expr (pe_ca R hr (pa_cons (pv 0) (pa_cons (pe_ix ix_tup (pv 1) pe_int (fun _ _ => rfl)) pa_nil)) (by omega)))
      (pss_one (ps_asg (pe_tup (pa_cons pe_str (pa_cons (pe_callB call_len_seq (by rfl) T.b_len PySem.boot_len (pa_cons (pv 0) pa_nil)) pa_nil))) (pg_sub (pv 0) (pv 3) set_list)))))))))), ?_⟩
    have lys : ys.length = c.length := by rw [dps_len hys, List.length_map]
    have g1 := putRows_goes a (c ++ [FR.hole])
    have z1 := g1.sz
    simp only [List.length_append, List.length_cons, List.length_nil] at z1
    -- test = len(code); code.append(())
    refine ⟨_, rfl, _, _, rfl, .inl (.of hl), _, rfl, .inl ⟨rfl, _, .of hl⟩, (by show 0 ≤ sizeLine; exact Nat.zero_le _), fun t nt => ?_⟩
    have nlt : l ≠ t := ne_of_none hl nt
    have s1 : Same H (upd H t (.tup [])) := same_new nt
    refine ⟨l, ys, _, rfl, rfl, s1 _ _ hl, by rw [sizeLine_eq]; omega, ?_⟩
    -- put_rows(code, row[2])
    have b1 : But l H (upd (upd H t (.tup [])) l (.lst (ys ++ [.ref t]))) := (same_but s1).trans But.upd
    have ch : Ch H l := .lst hl
    have d1 : DpAll K (upd (upd H t (.tup [])) l (.lst (ys ++ [.ref t]))) (ys ++ [.ref t]) ((c ++ [FR.hole]).map FR.d) := by
      rw [List.map_append]
      exact dps_app (dps_but ch b1 hys (frs_noL c)) (.cons (.tup (SqT.of (by rw [upd_ne (Ne.symm nlt), upd_same])) .nil) .nil)
    refine ⟨_, rfl, _, rfl, _, _, _, _, rfl, rfl, sqT_but ch b1 hra, at2, l, x2, _, c ++ [FR.hole], a, k, deep + 1, loops, rfl, upd_same, d1, dp_but ch b1 h2 (.tup (rows_noL a)), ok.2.1, by omega, by simp; omega, fun H2 y2 b2 hl2 d2 => ?_⟩
    generalize ec1 : putRows a (c ++ [FR.hole]) = c1 at g1 z1 d2
    have l1 := g1.le
    simp only [List.length_append, List.length_cons, List.length_nil] at l1
    have ly2 : y2.length = c1.length := by rw [dps_len d2, List.length_map]
    have b02 : But l H H2 := b1.trans b2
    -- over = len(code); code.append(())
    refine ⟨_, rfl, _, _, rfl, .inl (.of hl2), _, rfl, .inl ⟨rfl, _, .of hl2⟩, (by show 0 ≤ sizeLine; exact Nat.zero_le _), fun t2 nt2 => ?_⟩
    have nlt2 : l ≠ t2 := ne_of_none hl2 nt2
    have s3 : Same H2 (upd H2 t2 (.tup [])) := same_new nt2
    refine ⟨l, y2, _, rfl, rfl, s3 _ _ hl2, by rw [sizeLine_eq]; omega, ?_⟩
    have b3 : But l H2 (upd (upd H2 t2 (.tup [])) l (.lst (y2 ++ [.ref t2]))) := (same_but s3).trans But.upd
    have ch2 : Ch H2 l := .lst hl2
    have d3 : DpAll K (upd (upd H2 t2 (.tup [])) l (.lst (y2 ++ [.ref t2]))) (y2 ++ [.ref t2]) ((c1 ++ [FR.hole]).map FR.d) := by
      rw [List.map_append]
      exact dps_app (dps_but ch2 b3 d2 (frs_noL c1)) (.cons (.tup (SqT.of (by rw [upd_ne (Ne.symm nlt2), upd_same])) .nil) .nil)
    have b03 := b02.trans b3
    generalize eH3 : upd (upd H2 t2 (.tup [])) l (.lst (y2 ++ [.ref t2])) = H3 at b3 d3 b03
    have hl3 : H3 l = some (.lst (y2 ++ [.ref t2])) := by rw [← eH3, upd_same]
    -- code[test] = ("unless", row[1], len(code))
    refine ⟨_, rfl, _, _, _, _, rfl, rfl, sqT_but ch b03 hra, at1, _, rfl, _, _, rfl, .inl (.of hl3), (by show 3 ≤ sizeLine; decide), fun t4 nt4 => ?_⟩
    have nlt4 : l ≠ t4 := ne_of_none hl3 nt4
    have s4 : Same H3 (upd H3 t4 (.tup [.str "unless", x1, .int ((y2 ++ [V.ref t2]).length : Nat)])) := same_new nt4
    refine ⟨_, rfl, _, rfl, l, _, _, c.length, rfl, rfl, s4 _ _ hl3, by rw [lys]; exact Evl.ixN_nat (by simp; omega), ?_⟩
    have ch3 : Ch H3 l := .lst hl3
    have b4 := (same_but s4 (D := l)).trans (But.upd (H := upd H3 t4 (.tup [.str "unless", x1, .int ((y2 ++ [V.ref t2]).length : Nat)])) (o := .lst ((y2 ++ [V.ref t2]).set c.length (V.ref t4))))
    have d4 : DpAll K (upd (upd H3 t4 (.tup [.str "unless", x1, .int ((y2 ++ [V.ref t2]).length : Nat)])) l (.lst ((y2 ++ [V.ref t2]).set c.length (V.ref t4)))) ((y2 ++ [V.ref t2]).set c.length (V.ref t4)) (((c1 ++ [FR.hole]).set c.length (FR.unless e (c1.length + 1))).map FR.d) := by
      rw [List.map_set]
      refine dps_set (dps_but ch3 b4 d3 (frs_noL _)) (.tup (SqT.of (by rw [upd_ne (Ne.symm nlt4), upd_same])) (.cons (.str _) (.cons (dp_but ch (b03.trans b4) h1 e.noL) (.cons ?_ .nil))))
      rw [show ((y2 ++ [V.ref t2]).length : Nat) = c1.length + 1 from by simp [ly2]]
      exact .int _
    have b04 := b03.trans b4
    -- put_rows(code, row[3])
    have g2 := putRows_goes b ((c1 ++ [FR.hole]).set c.length (FR.unless e (c1.length + 1)))
    have z2 := g2.sz
    simp only [List.length_append, List.length_set, List.length_cons, List.length_nil] at z2
    refine ⟨_, rfl, _, rfl, _, _, _, _, rfl, rfl, sqT_but ch b04 hra, at3, l, x3, _, (c1 ++ [FR.hole]).set c.length (FR.unless e (c1.length + 1)), b, k, deep + 1, loops, rfl, upd_same, d4, dp_but ch b04 h3 (.tup (rows_noL b)), ok.2.2, by omega, by simp; omega, fun H5 y5 b5 hl5 d5 => ?_⟩
    generalize ec2 : putRows b ((c1 ++ [FR.hole]).set c.length (FR.unless e (c1.length + 1))) = c2 at g2 z2 d5
    have l2 := g2.le
    simp only [List.length_append, List.length_set, List.length_cons, List.length_nil] at l2
    have ly5 : y5.length = c2.length := by rw [dps_len d5, List.length_map]
    have b05 := b04.trans b5
    -- code[over] = ("on", len(code))
    refine ⟨_, rfl, _, _, rfl, .inl (.of hl5), (by show 2 ≤ sizeLine; decide), fun t6 nt6 => ?_⟩
    have nlt6 : l ≠ t6 := ne_of_none hl5 nt6
    have s6 : Same H5 (upd H5 t6 (.tup [.str "on", .int (y5.length : Nat)])) := same_new nt6
    refine ⟨_, rfl, _, rfl, l, _, _, c1.length, rfl, rfl, s6 _ _ hl5, by rw [ly2]; exact Evl.ixN_nat (by omega), ?_⟩
    have b6 := (same_but s6 (D := l)).trans (But.upd (H := upd H5 t6 (.tup [.str "on", .int (y5.length : Nat)])) (o := .lst (y5.set c1.length (.ref t6))))
    refine q _ _ (b05.trans b6) upd_same ?_
    have e0 : putRow (.iff e a b) c = c2.set c1.length (FR.on c2.length) := by
      show (putRows b (((putRows a (c ++ [FR.hole])) ++ [FR.hole]).set c.length (FR.unless e ((putRows a (c ++ [FR.hole])).length + 1)))).set (putRows a (c ++ [FR.hole])).length (FR.on (putRows b (((putRows a (c ++ [FR.hole])) ++ [FR.hole]).set c.length (FR.unless e ((putRows a (c ++ [FR.hole])).length + 1)))).length) = _
      rw [ec1, ec2]
    rw [e0, List.map_set]
    refine dps_set (dps_but (.lst hl5) b6 d5 (frs_noL _)) (.tup (SqT.of (by rw [upd_ne (Ne.symm nlt6), upd_same])) (.cons (.str _) (.cons ?_ .nil)))
    rw [ly5]
    exact .int _
end

end M

set_option Elab.async false
set_option linter.all false
set_option maxRecDepth 100000
set_option maxHeartbeats 2000000
namespace M
open PySem PySem.Spec PyProof.Rows L2

section
variable {P : Program} {w : World} {K : PySem.W.Frag} {mg : Str → Option Value} {base : Heap}
theorem ca_put_times {n : Nat} (R : Ca P w K mg base (2 * n + 1) "put_rows" (spPuts K n)) (T : Txt w K mg) : Ca P w K mg base (2 * n + 2) "put_times" (spPut1 K n "times") := by
    refine ca_of (N := ["code", "row", "top"]) (ps := ["code", "row"]) T.f_put_times T.g_put_times ⟨rfl, rfl, rfl, by decide +kernel, rfl, by decide +kernel, by decide +kernel⟩ (fun _ _ _ _ _ _ us hl => match us, hl with | [_, _], _ => rfl)
      (fun vs H Q E h => by obtain ⟨l, v, ys, c, r, k, deep, loops, rfl, hl, hys, hv, hw, ⟨ok, hd⟩, hn, hz, q⟩ := h; rfl) (fun cdv A outer s H vs Q E hr h => ?_)
    have nd : (["code", "row", "top"] : List Str).Nodup := by decide +kernel
    obtain ⟨l, v, ys, c, r, k, deep, loops, rfl, hl, hys, hv, hw, ⟨ok, hd⟩, hn, hz, q⟩ := h
    obtain ⟨e, a, rfl⟩ := word_times hw
    obtain ⟨m, rfl⟩ : ∃ m, n = m + 1 := ⟨n - 1, by omega⟩
    have ok : e.good ∧ loops < 2 ∧ rowsOk k (deep + 1) (loops + 1) a := ok
    have hz : c.length + 3 * (1 + rowsCl a) ≤ 90000 := hz
    obtain ⟨ra, x0, x1, x2, rfl, hra, h0, h1, h2⟩ := dp3 hv
    refine ⟨_, (pss_cons (ps_expr (pe_bm PySem.F.plainAttrs_list PySem.F.slot_list_append PySem.F.type_list_append mt_append (pv 0) (pa_cons (pe_tup (pa_cons pe_str (pa_cons (pe_ix ix_tup (pv 1) pe_int (fun _ _ => rfl)) pa_nil))) pa_nil)))
      (pss_cons (ps_set (i := 2) nd rfl (.inl rfl) (pe_callB call_len_seq (by rfl) T.b_len PySem.boot_len (pa_cons (pv 0) pa_nil)))
      (pss_cons (ps_expr (pe_bm PySem.F.plainAttrs_list PySem.F.slot_list_append PySem.F.type_list_append mt_append (pv 0) (pa_cons (pe_tup pa_nil) pa_nil)))
      (pss_cons (ps_expr (pe_ca R hr (pa_cons (pv 0) (pa_cons (pe_ix ix_tup (pv 1) pe_int (fun _ _ => rfl)) pa_nil)) (by omega)))
      (pss_cons (ps_expr (pe_bm PySem.F.plainAttrs_list PySem.F.slot_list_append PySem.F.type_list_append mt_append (pv 0) (pa_cons (pe_tup (pa_cons pe_str (pa_cons (pv 2) pa_nil))) pa_nil)))
      (pss_one (ps_asg (pe_tup (pa_cons pe_str (pa_cons (pe_callB call_len_seq (by rfl) T.b_len PySem.boot_len (pa_cons (pv 0) pa_nil)) pa_nil))) (pg_sub (pv 0) (pv 2) set_list)))))))), ?_⟩
    have lys : ys.length = c.length := by rw [dps_len hys, List.length_map]
    have g1 := putRows_goes a (c ++ [FR.rounds e, FR.hole])
    have z1 := g1.sz
    simp only [List.length_append, List.length_cons, List.length_nil] at z1
    have ch : Ch H l := .lst hl
    -- code.append(("rounds", row[1]))
    refine ⟨_, rfl, .inl ⟨rfl, _, .of hl⟩, _, rfl, _, _, _, _, rfl, rfl, hra, at1, (by show 2 ≤ sizeLine; decide), fun t nt => ?_⟩
    have nlt : l ≠ t := ne_of_none hl nt
    have s1 : Same H (upd H t (.tup [.str "rounds", x1])) := same_new nt
    refine ⟨l, ys, _, rfl, rfl, s1 _ _ hl, by rw [sizeLine_eq]; omega, ?_⟩
    have b1 := (same_but s1 (D := l)).trans (But.upd (H := upd H t (.tup [.str "rounds", x1])) (o := .lst (ys ++ [V.ref t])))
    have d1 : DpAll K (upd (upd H t (.tup [.str "rounds", x1])) l (.lst (ys ++ [V.ref t]))) (ys ++ [V.ref t]) ((c ++ [FR.rounds e]).map FR.d) := by
      rw [List.map_append]
      exact dps_app (dps_but ch b1 hys (frs_noL c)) (.cons (.tup (SqT.of (by rw [upd_ne (Ne.symm nlt), upd_same])) (.cons (.str _) (.cons (dp_but ch b1 h1 e.noL) .nil))) .nil)
    generalize eH1 : upd (upd H t (.tup [.str "rounds", x1])) l (.lst (ys ++ [V.ref t])) = H1 at b1 d1
    have hl1 : H1 l = some (.lst (ys ++ [V.ref t])) := by rw [← eH1, upd_same]
    -- top = len(code); code.append(())
    refine ⟨_, rfl, _, _, rfl, .inl (.of hl1), _, rfl, .inl ⟨rfl, _, .of hl1⟩, (by show 0 ≤ sizeLine; exact Nat.zero_le _), fun t2 nt2 => ?_⟩
    have nlt2 : l ≠ t2 := ne_of_none hl1 nt2
    have s2 : Same H1 (upd H1 t2 (.tup [])) := same_new nt2
    refine ⟨l, _, _, rfl, rfl, s2 _ _ hl1, by rw [sizeLine_eq]; simp; omega, ?_⟩
    have b2 := (same_but s2 (D := l)).trans (But.upd (H := upd H1 t2 (.tup [])) (o := .lst (ys ++ [V.ref t] ++ [V.ref t2])))
    have d2 : DpAll K (upd (upd H1 t2 (.tup [])) l (.lst (ys ++ [V.ref t] ++ [V.ref t2]))) (ys ++ [V.ref t] ++ [V.ref t2]) ((c ++ [FR.rounds e, FR.hole]).map FR.d) := by
      rw [show c ++ [FR.rounds e, FR.hole] = (c ++ [FR.rounds e]) ++ [FR.hole] from by simp, List.map_append]
      exact dps_app (dps_but (.lst hl1) b2 d1 (frs_noL _)) (.cons (.tup (SqT.of (by rw [upd_ne (Ne.symm nlt2), upd_same])) .nil) .nil)
    have b02 := b1.trans b2
    -- put_rows(code, row[2])
    refine ⟨_, rfl, _, rfl, _, _, _, _, rfl, rfl, sqT_but ch b02 hra, at2, l, x2, _, c ++ [FR.rounds e, FR.hole], a, k, deep + 1, loops + 1, rfl, upd_same, d2, dp_but ch b02 h2 (.tup (rows_noL a)), ok.2.2, by omega, by simp; omega, fun H3 y3 b3 hl3 d3 => ?_⟩
    generalize ec1 : putRows a (c ++ [FR.rounds e, FR.hole]) = c1 at g1 z1 d3
    have l1 := g1.le
    simp only [List.length_append, List.length_cons, List.length_nil] at l1
    have ly3 : y3.length = c1.length := by rw [dps_len d3, List.length_map]
    have b03 := b02.trans b3
    -- code.append(("on", top))
    refine ⟨_, rfl, .inl ⟨rfl, _, .of hl3⟩, _, rfl, (by show 2 ≤ sizeLine; decide), fun t4 nt4 => ?_⟩
    have nlt4 : l ≠ t4 := ne_of_none hl3 nt4
    have s4 : Same H3 (upd H3 t4 (.tup [.str "on", .int ((ys ++ [V.ref t]).length : Nat)])) := same_new nt4
    refine ⟨l, y3, _, rfl, rfl, s4 _ _ hl3, by rw [sizeLine_eq]; omega, ?_⟩
    have b4 := (same_but s4 (D := l)).trans (But.upd (H := upd H3 t4 (.tup [.str "on", .int ((ys ++ [V.ref t]).length : Nat)])) (o := .lst (y3 ++ [V.ref t4])))
    have d4 : DpAll K (upd (upd H3 t4 (.tup [.str "on", .int ((ys ++ [V.ref t]).length : Nat)])) l (.lst (y3 ++ [V.ref t4]))) (y3 ++ [V.ref t4]) ((c1 ++ [FR.on (c.length + 1)]).map FR.d) := by
      rw [List.map_append]
      refine dps_app (dps_but (.lst hl3) b4 d3 (frs_noL _)) (.cons (.tup (SqT.of (by rw [upd_ne (Ne.symm nlt4), upd_same])) (.cons (.str _) (.cons ?_ .nil))) .nil)
      rw [show ((ys ++ [V.ref t]).length : Nat) = c.length + 1 from by simp [lys]]
      exact .int _
    generalize eH4 : upd (upd H3 t4 (.tup [.str "on", .int ((ys ++ [V.ref t]).length : Nat)])) l (.lst (y3 ++ [V.ref t4])) = H4 at b4 d4
    have hl4 : H4 l = some (.lst (y3 ++ [V.ref t4])) := by rw [← eH4, upd_same]
    have b04 := b03.trans b4
    -- code[top] = ("round", len(code))
    refine ⟨_, rfl, _, _, rfl, .inl (.of hl4), (by show 2 ≤ sizeLine; decide), fun t6 nt6 => ?_⟩
    have nlt6 : l ≠ t6 := ne_of_none hl4 nt6
    have s6 : Same H4 (upd H4 t6 (.tup [.str "round", .int ((y3 ++ [V.ref t4]).length : Nat)])) := same_new nt6
    refine ⟨_, rfl, _, rfl, l, _, _, c.length + 1, rfl, rfl, s6 _ _ hl4, by rw [show ((ys ++ [V.ref t]).length : Nat) = c.length + 1 from by simp [lys]]; exact Evl.ixN_nat (by simp; omega), ?_⟩
    have b6 := (same_but s6 (D := l)).trans (But.upd (H := upd H4 t6 (.tup [.str "round", .int ((y3 ++ [V.ref t4]).length : Nat)])) (o := .lst ((y3 ++ [V.ref t4]).set (c.length + 1) (V.ref t6))))
    refine q _ _ (b04.trans b6) upd_same ?_
    have e0 : putRow (.times e a) c = (c1 ++ [FR.on (c.length + 1)]).set (c.length + 1) (FR.round (c1.length + 1)) := by
      show ((putRows a (c ++ [FR.rounds e, FR.hole])) ++ [FR.on (c.length + 1)]).set (c.length + 1) (FR.round ((putRows a (c ++ [FR.rounds e, FR.hole])).length + 1)) = _
      rw [ec1]
    rw [e0, List.map_set]
    refine dps_set (dps_but (.lst hl4) b6 d4 (frs_noL _)) (.tup (SqT.of (by rw [upd_ne (Ne.symm nlt6), upd_same])) (.cons (.str _) (.cons ?_ .nil)))
    rw [show ((y3 ++ [V.ref t4]).length : Nat) = c1.length + 1 from by simp [ly3]]
    exact .int _
theorem ca_put_rows1 {n : Nat} (RI : Ca P w K mg base (2 * n + 2) "put_if" (spPut1 K n "if")) (RT : Ca P w K mg base (2 * n + 2) "put_times" (spPut1 K n "times")) (T : Txt w K mg) : Ca P w K mg base (2 * n + 3) "put_rows" (spPuts K (n + 1)) := by
    refine ca_of (N := ["code", "rows", "row"]) (ps := ["code", "rows"]) T.f_put_rows T.g_put_rows ⟨rfl, rfl, rfl, by decide +kernel, rfl, by decide +kernel, by decide +kernel⟩ (fun _ _ _ _ _ _ us hl => match us, hl with | [_, _], _ => rfl)
      (fun vs H Q E h => by obtain ⟨l, v, ys, c, rs, k, deep, loops, rfl, hl, hys, hv, ok, hn, hz, q⟩ := h; rfl) (fun cdv A outer s H vs Q E hr h => ?_)
    have nd : (["code", "rows", "row"] : List Str).Nodup := by decide +kernel
    obtain ⟨l, v, ys, c, rs, k, deep, loops, rfl, hl, hys, hv, ok, hn, hz, q⟩ := h
    obtain ⟨a, xs, rfl, ha, hxs⟩ := dp_tup hv
    have lxs : xs.length = rs.length := by rw [dps_len hxs, rowsD_map, List.length_map]
    refine ⟨_, (pss_one (ps_for PassesOwn.never rfl (pi_tup (pv 1)) (pg_name (i := 2) nd rfl (.inl rfl)) (pss_one (ps_if (pt_cmpR op_eq (pe_ix ix_tup (pv 2) pe_int (fun _ _ => rfl)) pe_str (nomark _)) (pss_one (ps_expr (pe_ca RI hr (pa_cons (pv 0) (pa_cons (pv 2) pa_nil)) (by omega)))) (pss_one (ps_if (pt_cmpR op_eq (pe_ix ix_tup (pv 2) pe_int (fun _ _ => rfl)) pe_str (nomark _)) (pss_one (ps_expr (pe_ca RT hr (pa_cons (pv 0) (pa_cons (pv 2) pa_nil)) (by omega)))) (pss_one (ps_expr (pe_bm PySem.F.plainAttrs_list PySem.F.slot_list_append PySem.F.type_list_append mt_append (pv 0) (pa_cons (pv 2) pa_nil)))))))))), ?_⟩
    have ch : Ch H l := .lst hl
    refine ⟨_, rfl, a, rfl, ⟨_, ha⟩, for_tup (xs := xs) (fun i σ' H' => ∃ x y', σ' = [some (.ref l), some (.ref a), x] ∧ But l H H' ∧ H' l = some (.lst y') ∧ DpAll K H' y' ((putRows (rs.take i) c).map FR.d)) ⟨none, ys, rfl, fun b o _ z => z, hl, hys⟩ (fun i σ' H' _ ⟨_, _, _, bt, _⟩ => sqT_but ch bt ha) ?_ ?_⟩
    · rintro i x σ' H' hx ⟨_, y', rfl, bt, hl', hy'⟩
      obtain ⟨dd, hdd, hxd⟩ := dps_get hxs hx
      rw [rowsD_map] at hdd
      obtain ⟨r, hr', rfl⟩ := get_mapA hdd
      have okr := rowsOkAt ok r (List.mem_of_getElem? hr')
      have szt := rowsCl_take hr'
      have gz := (putRows_goes (rs.take i) c).sz
      have ly' : y'.length = (putRows (rs.take i) c).length := by rw [dps_len hy', List.length_map]
      have hx2 : Dp K H' x r.d := dp_but ch bt hxd r.noL
      have r1 : 1 ≤ r.cl := by rw [row_cl]; omega
      have nxt : ∀ H3 y3, But l H' H3 → H3 l = some (.lst y3) → DpAll K H3 y3 ((putRow r (putRows (rs.take i) c)).map FR.d) → ∃ x' y', [some (.ref l), some (.ref a), some x] = [some (.ref l), some (.ref a), x'] ∧ But l H H3 ∧ H3 l = some (.lst y') ∧ DpAll K H3 y' ((putRows (rs.take (i + 1)) c).map FR.d) := fun H3 y3 b3 h3 d3 => ⟨_, y3, rfl, bt.trans b3, h3, by rw [take_more hr', putRows_snoc]; exact d3⟩
      have hv' := hx2
      rw [row_d] at hx2
      obtain ⟨ra, zs, rfl, hra, hzs⟩ := dp_tup hx2
      obtain ⟨z0, zr, rfl, h0, hzr⟩ : ∃ y ys, zs = y :: ys ∧ Dp K H' y (.str r.word) ∧ DpAll K H' ys (r.prts.map Prt.d) := by
        cases hzs with | cons h1 h2 => exact ⟨_, _, rfl, h1, h2⟩
      cases dp_str h0
      refine ⟨_, rfl, _, _, _, _, rfl, rfl, hra, at0, rfl, _, rfl, ?_⟩
      by_cases e1 : r.word = "if"
      · rw [e1]
        exact iteT ⟨_, rfl, _, rfl, l, _, y', _, r, k, deep, loops, rfl, hl', hy', hv', e1, ⟨okr.2, okr.1⟩, hn, by omega, fun H3 y3 b3 h3 d3 => nxt H3 y3 b3 h3 d3⟩
      · rw [decide_eq_false (show ¬ V.str r.word = V.str "if" from fun z => e1 (V.str.inj z))]
        refine iteF ⟨_, rfl, _, _, _, _, rfl, rfl, hra, at0, rfl, _, rfl, ?_⟩
        by_cases e2 : r.word = "times"
        · rw [e2]
          exact iteT ⟨_, rfl, _, rfl, l, _, y', _, r, k, deep, loops, rfl, hl', hy', hv', e2, ⟨okr.2, okr.1⟩, hn, by omega, fun H3 y3 b3 h3 d3 => nxt H3 y3 b3 h3 d3⟩
        · rw [decide_eq_false (show ¬ V.str r.word = V.str "times" from fun z => e2 (V.str.inj z))]
          refine iteF ⟨_, rfl, .inl ⟨rfl, _, .of hl'⟩, _, rfl, l, y', _, rfl, rfl, hl', by rw [sizeLine_eq]; omega, ?_⟩
          refine nxt _ _ But.upd upd_same ?_
          rw [putRow_plain _ e1 e2, List.map_append]
          exact dps_app (dps_but (.lst hl') But.upd hy' (frs_noL _)) (.cons (dp_but (.lst hl') But.upd hv' r.noL) .nil)
    · rintro σ' H' ⟨_, y', rfl, bt, hl', hy'⟩
      rw [lxs, List.take_length] at hy'
      exact q H' y' bt hl' hy'
theorem ca_put_rows (T : Txt w K mg) : ∀ n, Ca P w K mg base (2 * n + 1) "put_rows" (spPuts K n)
  | 0 => ca_false (ps := ["code", "rows"]) T.f_put_rows T.g_put_rows (fun _ _ _ _ _ _ us hl => match us, hl with | [_, _], _ => rfl)
  | n + 1 => ca_put_rows1 (ca_put_if (ca_put_rows T n) T) (ca_put_times (ca_put_rows T n) T) T
def spCode (K : PySem.W.Frag) : Sp := fun vs H Q _ => ∃ (v : V) (rs : List Row) (k : Int), vs = [v] ∧ Dp K H v (.tuple (rowsD rs)) ∧ rowsOk k 1 0 rs ∧ rowsCl rs ≤ 2000 ∧ ∀ H' u, Same H H' → Dp K H' u (codeD rs) → Q u H'
theorem ca_code_of (T : Txt w K mg) : Ca P w K mg base 30 "code_of" (spCode K) := by
  refine ca_of (N := ["body", "code"]) (ps := ["body"]) T.f_code_of T.g_code_of ⟨rfl, rfl, rfl, by decide +kernel, rfl, by decide +kernel, by decide +kernel⟩ (fun _ _ _ _ _ _ us hl => match us, hl with | [_], _ => rfl)
    (fun vs H Q E h => by obtain ⟨v, rs, k, rfl, hv, ok, hc, q⟩ := h; rfl) (fun cdv A outer s H vs Q E hr h => ?_)
  have nd : (["body", "code"] : List Str).Nodup := by decide +kernel
  obtain ⟨v, rs, k, rfl, hv, ok, hc, q⟩ := h
  refine ⟨_, (pss_cons (ps_set (i := 1) nd rfl (.inl rfl) (pe_lst pa_nil))
      (pss_cons (ps_expr (pe_ca (ca_put_rows T 13) hr (pa_cons (pv 1) (pa_cons (pv 0) pa_nil))))
      (pss_cons (ps_expr (pe_bm PySem.F.plainAttrs_list PySem.F.slot_list_append PySem.F.type_list_append mt_append (pv 1) (pa_cons (pe_tup (pa_cons pe_str (pa_cons pe_int pa_nil))) pa_nil)))
      (pss_one (ps_ret (pe_tupleOf (by rfl) T.b_tuple (pv 1))))))), ?_⟩
  refine ⟨(by show 0 ≤ sizeLine; exact Nat.zero_le _), fun l nl => ?_⟩
  have s0 : Same H (upd H l (.lst [])) := same_new nl
  refine ⟨_, rfl, _, rfl, l, v, [], [], rs, k, 1, 0, rfl, upd_same, .nil, dp_same s0 hv, ok, (by decide), by simp; omega, fun H1 y1 b1 h1 d1 => ?_⟩
  have gz := (putRows_goes rs []).sz
  have ly : y1.length = (putRows rs []).length := by rw [dps_len d1, List.length_map]
  refine ⟨_, rfl, .inl ⟨rfl, _, .of h1⟩, (by show 2 ≤ sizeLine; decide), fun t nt => ?_⟩
  have nlt : l ≠ t := ne_of_none h1 nt
  have s1 : Same H1 (upd H1 t (.tup [.str "answer", .int 0])) := same_new nt
  refine ⟨l, y1, _, rfl, rfl, s1 _ _ h1, by rw [sizeLine_eq]; simp at gz; omega, ?_⟩
  have b2 := (same_but s1 (D := l)).trans (But.upd (H := upd H1 t (.tup [.str "answer", .int 0])) (o := .lst (y1 ++ [V.ref t])))
  have d2 : DpAll K (upd (upd H1 t (.tup [.str "answer", .int 0])) l (.lst (y1 ++ [V.ref t]))) (y1 ++ [V.ref t]) ((codeOf rs).map FR.d) := by
    show DpAll _ _ _ ((putRows rs [] ++ [FR.row (.ans (.num 0))]).map FR.d)
    rw [List.map_append]
    exact dps_app (dps_but (.lst h1) b2 d1 (frs_noL _)) (.cons (.tup (SqT.of (by rw [upd_ne (Ne.symm nlt), upd_same])) (.cons (.str _) (.cons (.int 0) .nil))) .nil)
  refine ⟨_, rfl, .inl ⟨l, _, rfl, .of upd_same, fun p np => ?_⟩⟩
  have s3 := same_new (o := .tup (y1 ++ [V.ref t])) np
  refine q _ _ (fun b o e => ?_) (.tup (SqT.of upd_same) (dps_same s3 d2))
  refine s3 b o ?_
  have hb := ne_of_none e nl
  exact b2 b o hb (b1 b o hb (s0 b o e))
end

end M

set_option Elab.async false
set_option linter.all false
set_option maxRecDepth 100000
set_option maxHeartbeats 2000000
namespace M
open PySem PySem.Spec PyProof.Rows L2

theorem upd_id {H : Hp} {d : Addr} {u : HO} (h : H d = some u) : upd H d u = H := by
  funext b
  by_cases e : b = d
  · rw [e, upd_same, h]
  · rw [upd_ne e]
theorem codes_but {K : PySem.W.Frag} {H H' : Hp} {D : Addr} (hD : Ch H D) (s : But D H H') : ∀ {kvs : List (Key × V)} {ds : List (Str × Int × List Row)}, CodesR K H kvs ds → CodesR K H' kvs ds
  | [], [], _ => trivial
  | (_, _) :: _, _ :: _, h => ⟨h.1, dp_but hD s h.2.1 (code_noL _), codes_but hD s h.2.2⟩
  | [], _ :: _, h => h.elim
  | _ :: _, [], h => h.elim
theorem codes_at {K : PySem.W.Frag} {H : Hp} : ∀ {kvs : List (Key × V)} {ds : List (Str × Int × List Row)} {i : Nat} {p : Key × V}, CodesR K H kvs ds → kvs[i]? = some p → ∃ d, ds[i]? = some d ∧ p.1 = Sum.inr d.1 ∧ Dp K H p.2 (codeD d.2.2)
  | [], [], i, p, _, e => by simp at e
  | (k, v) :: r, d :: ds, 0, p, h, e => by
    cases (Option.some.inj e)
    exact ⟨d, rfl, h.1, h.2.1⟩
  | (k, v) :: r, d :: ds, i + 1, p, h, e => codes_at (i := i) h.2.2 e
  | [], _ :: _, _, _, h, _ => h.elim
  | _ :: _, [], _, _, h, _ => h.elim
theorem codes_len {K : PySem.W.Frag} {H : Hp} : ∀ {kvs : List (Key × V)} {ds : List (Str × Int × List Row)}, CodesR K H kvs ds → kvs.length = ds.length
  | [], [], _ => rfl
  | (_, _) :: _, _ :: _, h => congrArg (· + 1) (codes_len h.2.2)
  | [], _ :: _, h => h.elim
  | _ :: _, [], h => h.elim
theorem codes_snoc {K : PySem.W.Frag} {H : Hp} {v : V} {d : Str × Int × List Row} (hv : Dp K H v (codeD d.2.2)) : ∀ {kvs : List (Key × V)} {ds : List (Str × Int × List Row)}, CodesR K H kvs ds → CodesR K H (kvs ++ [(Sum.inr d.1, v)]) (ds ++ [d])
  | [], [], _ => ⟨rfl, hv, trivial⟩
  | (_, _) :: _, _ :: _, h => ⟨h.1, h.2.1, codes_snoc hv h.2.2⟩
  | [], _ :: _, h => h.elim
  | _ :: _, [], h => h.elim
theorem codes_no {K : PySem.W.Frag} {H : Hp} {s : Str} : ∀ {kvs : List (Key × V)} {ds : List (Str × Int × List Row)}, CodesR K H kvs ds → s ∉ ds.map (·.1) → valV kvs (Sum.inr s : Key) = none
  | [], [], _, _ => rfl
  | (k, v) :: r, d :: ds, h, n => by
    obtain ⟨rfl, _, hr⟩ := h
    rw [List.map_cons, List.mem_cons, not_or] at n
    have := codes_no hr n.2
    unfold valV at this ⊢
    rw [List.find?_cons_of_neg (by simp; exact fun e => n.1 e.symm)]
    exact this
  | [], _ :: _, h, _ => h.elim
  | _ :: _, [], h, _ => h.elim
/-- whether a row with this word stands in one of the codes -/
def hasW (ds : List (Str × Int × List Row)) (s : Str) : Bool := ds.any fun d => (codeOf d.2.2).any fun f => decide (f.hd = some s)
section
variable {P : Program} {w : World} {K : PySem.W.Frag} {mg : Str → Option Value} {base : Heap}
def spHasRow (K : PySem.W.Frag) : Sp := fun vs H Q _ => ∃ (d : Addr) (kvs : List (Key × V)) (ds : List (Str × Int × List Row)) (s : Str), vs = [.ref d, .str s] ∧ H d = some (.dK kvs) ∧ CodesR K H kvs ds ∧ Q (.bl (hasW ds s)) H
theorem ca_has_row (T : Txt w K mg) : Ca P w K mg base 1 "has_row" (spHasRow K) := by
  refine ca_of (N := ["codes", "word", "code", "row"]) (ps := ["codes", "word"]) T.f_has_row T.g_has_row ⟨rfl, rfl, rfl, by decide +kernel, rfl, by decide +kernel, by decide +kernel⟩ (fun _ _ _ _ _ _ us hl => match us, hl with | [_, _], _ => rfl)
    (fun vs H Q E h => by obtain ⟨d, kvs, ds, s, rfl, hd, hc, q⟩ := h; rfl) (fun cdv A outer s H vs Q E hr h => ?_)
  have nd : (["codes", "word", "code", "row"] : List Str).Nodup := by decide +kernel
  obtain ⟨d, kvs, ds, s, rfl, hd, hc, q⟩ := h
  refine ⟨_, pss_cons (ps_lock (ps_for PassesOwn.never rfl (pi_values (pv 0)) (pg_name (i := 2) nd rfl (.inl rfl))
    (pss_one (ps_for PassesOwn.never rfl (pi_tup (pv 2)) (pg_name (i := 3) nd rfl (.inl rfl)) (pss_one (ps_if (pt_cmpR op_eq (pe_ix ix_tup (pv 3) pe_int (fun _ _ => rfl)) (pv 1) (nomark _)) (pss_one (ps_ret pe_bl)) pss_nil))))))
    (pss_one (ps_ret pe_bl)), ?_⟩
  refine ⟨d, _, hd, True.intro, fun od => ?_⟩
  have ch : Ch H d := .dK hd
  have hcf : CodesR K (upd H d (.frz od (.dK kvs))) kvs ds := codes_but ch But.upd hc
  have back : upd (upd H d (.frz od (.dK kvs))) d (.dK kvs) = H := by rw [upd_upd, upd_id hd]
  have ret : ∀ b, b = hasW ds s → Q (.bl b) (upd (upd H d (.frz od (.dK kvs))) d (.dK kvs)) := fun b e => by rw [back, e]; exact q
  refine ⟨_, rfl, d, od, kvs, rfl, upd_same, for_it (n := kvs.length) walk_values (fun i σ' H' => ∃ x y, σ' = [some (.ref d), some (.str s), x, y] ∧ H' = upd H d (.frz od (.dK kvs)) ∧ hasW (ds.take i) s = false) ⟨none, none, rfl, rfl, rfl⟩ (fun i σ' H' _ ⟨_, _, _, e, _⟩ => by rw [e, upd_same]) ?_ ?_⟩
  · rintro i x σ' H' H2 hi ⟨_, _, rfl, rfl, hw⟩ ⟨rfl, k, hk⟩
    obtain ⟨dd, hdd, _, hcode⟩ := codes_at hcf hk
    obtain ⟨ra, xs, e0, hra, hxs⟩ := dp_tup hcode
    have e0 : x = .ref ra := e0
    subst e0
    have hin : dd ∈ ds := List.mem_of_getElem? hdd
    refine ⟨_, rfl, ra, rfl, ⟨_, hra⟩, for_tup (xs := xs) (fun j σ' H' => ∃ y, σ' = [some (.ref d), some (.str s), some (.ref ra), y] ∧ H' = upd H d (.frz od (.dK kvs)) ∧ ((codeOf dd.2.2).take j).any (fun f => decide (f.hd = some s)) = false) ⟨_, rfl, rfl, rfl⟩ (fun j σ' H' _ ⟨_, _, e, _⟩ => by rw [e]; exact hra) ?_ ?_⟩
    · rintro j y σ' H' hy ⟨_, rfl, rfl, hf⟩
      obtain ⟨de, hde, hyd⟩ := dps_get hxs hy
      obtain ⟨f, hf', rfl⟩ := get_mapA hde
      obtain ⟨wd, hwd⟩ := code_hd (List.mem_of_getElem? hf')
      rw [fr_d hwd] at hyd
      obtain ⟨rb, zs, rfl, hrb, hzs⟩ := dp_tup hyd
      obtain ⟨z0, zr, rfl, hz0⟩ : ∃ z0 zr, zs = z0 :: zr ∧ Dp K (upd H d (.frz od (.dK kvs))) z0 (.str wd) := by
        cases hzs with | cons h1 h2 => exact ⟨_, _, rfl, h1⟩
      cases dp_str hz0
      refine ⟨_, rfl, _, _, _, _, rfl, rfl, hrb, at0, _, rfl, rfl, _, rfl, ?_⟩
      by_cases e : wd = s
      · rw [decide_eq_true (show V.str wd = V.str s from congrArg V.str e)]
        refine iteT ⟨upd_same, ret _ ?_⟩
        refine (List.any_eq_true.mpr ⟨dd, hin, List.any_eq_true.mpr ⟨f, List.mem_of_getElem? hf', ?_⟩⟩).symm
        rw [hwd, e]
        exact decide_eq_true rfl
      · rw [decide_eq_false (show ¬ V.str wd = V.str s from fun z => e (V.str.inj z))]
        refine iteF ⟨_, rfl, rfl, ?_⟩
        rw [take_more hf', List.any_append, hf]
        simp [hwd, e]
    · rintro σ' H' ⟨_, rfl, rfl, hf⟩
      refine ⟨_, _, rfl, rfl, ?_⟩
      have lx : xs.length = (codeOf dd.2.2).length := by rw [dps_len hxs, List.length_map]
      rw [lx, List.take_length] at hf
      rw [take_more hdd]
      unfold hasW at hw ⊢
      rw [List.any_append, hw]
      simp [hf]
  · rintro σ' H' ⟨_, _, rfl, rfl, hw⟩
    rw [codes_len hc, List.take_length] at hw
    exact ⟨upd_same, ret _ hw.symm⟩
end

end M

set_option Elab.async false
set_option linter.all false
set_option maxRecDepth 100000
set_option maxHeartbeats 2000000
namespace M
open PySem PySem.Spec PyProof.Rows L2

/-- what stands at D is no list -/
def NoLst (H : Hp) (D : Addr) : Prop := (∀ xs, H D ≠ some (.lst xs)) ∧ ∀ o u, H D ≠ some (.frz o u)
theorem NoLst.ins {H : Hp} {D C dx : Addr} {l : List (Str × V)} (h : H D = some (.ins C dx l)) : NoLst H D := ⟨fun _ e => (by rw [h] at e; cases e), fun _ _ e => (by rw [h] at e; cases e)⟩
theorem NoLst.dT {H : Hp} {D : Addr} {l : List (List Key × V)} (h : H D = some (.dT l)) : NoLst H D := ⟨fun _ e => (by rw [h] at e; cases e), fun _ _ e => (by rw [h] at e; cases e)⟩
theorem NoLst.dK {H : Hp} {D : Addr} {l : List (Key × V)} (h : H D = some (.dK l)) : NoLst H D := ⟨fun _ e => (by rw [h] at e; cases e), fun _ _ e => (by rw [h] at e; cases e)⟩
theorem sqL_but {K : PySem.W.Frag} {H H' : Hp} {D : Addr} (hD : NoLst H D) (s : But D H H') {a : Addr} {xs : List V} (h : SqL K H a xs) : SqL K H' a xs := by
  rcases h with (h | ⟨o, h⟩) | h
  · exact .inl (.inl (s _ _ (fun e => hD.1 _ (e ▸ h)) h))
  · exact .inl (.inr ⟨o, s _ _ (fun e => hD.2 _ _ (e ▸ h)) h⟩)
  · exact .inr h
theorem cells_but {K : PySem.W.Frag} {H H' : Hp} {D : Addr} (hD : Ch H D) (s : But D H H') {xs : List V} {cs : List (Int × Int)} (h : DpAll K H xs (cs.map cellD)) : DpAll K H' xs (cs.map cellD) :=
  dps_but hD s h fun d hd => by
    obtain ⟨c, _, rfl⟩ := List.mem_map.mp hd
    exact cell_noL c
theorem deeds_but {K : PySem.W.Frag} {H H' : Hp} {D : Addr} (hD : Ch H D) (s : But D H H') {xs : List V} {cs : List (Str × Int × List Row)} (h : DpAll K H xs (cs.map deedD)) : DpAll K H' xs (cs.map deedD) :=
  dps_but hD s h fun d hd => by
    obtain ⟨c, _, rfl⟩ := List.mem_map.mp hd
    exact deed_noL c
theorem vf_codes0 (a d c : Addr) : (putF "_codes" (V.ref c) (putF "_deeds" (.ref d) (putF "_cells" (.ref a) []))).lookup ("_codes" : Str) = some (.ref c) := by
  rw [lookup_putF, if_pos rfl]
section
variable {P : Program} {w : World} {K : PySem.W.Frag} {mg : Str → Option Value} {base : Heap}
def spVault (K : PySem.W.Frag) : Sp := fun vs H Q _ => ∃ (p dx a b : Addr) (xs ys : List V) (v : Vlt), vs = [.ref p, .ref a, .ref b] ∧ H p = some (.ins (He.ga K "Vault") dx []) ∧ SqL K H a xs ∧ DpAll K H xs (v.cells.map cellD) ∧ SqL K H b ys ∧ DpAll K H ys (v.deeds.map deedD) ∧ VGood v ∧ ∀ H', But p H H' → VaultAt K H' p v → Q .non H'
theorem ma_Vault (T : Txt w K mg) : Ma P w K mg base 53 "Vault" (He.ga K "Vault") (spVault K) := by
  refine ma_of (N := ["self", "cells", "deeds", "name", "_", "body"]) (ps := ["self", "cells", "deeds"]) T.f_Vault_init T.g_Vault T.k_Vault ⟨rfl, rfl, rfl, by decide +kernel, rfl, by decide +kernel, by decide +kernel⟩ (fun _ _ _ _ _ _ us hl => match us, hl with | [_, _, _], _ => rfl)
    (fun vs H Q E h => by obtain ⟨p, dx, a, b, xs, ys, v, rfl, hp, ha, hxs, hb, hys, g, q⟩ := h; rfl) (fun cdv A outer s H vs Q E hr h => ?_)
  have nd : (["self", "cells", "deeds", "name", "_", "body"] : List Str).Nodup := by decide +kernel
  obtain ⟨p, dx, a, b, xs, ys, v, rfl, hp, ha, hxs, hb, hys, g, q⟩ := h
  refine ⟨_, (pss_cons (ps_if (PW.pt (pw_or (pt_not (pt_val (pe_is .list T.b_isinstance (pv 1) T.b_list boot_list))) (pw_or1 (pt_not (pt_val (pe_ca (ca_are_cells T) hr (pa_cons (pv 1) pa_nil))))))) (pss_one ps_never) pss_nil)
      (pss_cons (ps_if (PW.pt (pw_or (pt_not (pt_val (pe_is .list T.b_isinstance (pv 2) T.b_list boot_list))) (pw_or1 (pt_not (pt_val (pe_ca (ca_are_deeds T) hr (pa_cons (pv 2) (pa_cons (pe_callB call_len_seq (by rfl) T.b_len PySem.boot_len (pa_cons (pv 1) pa_nil)) pa_nil)))))))) (pss_one ps_never) pss_nil)
      (pss_cons (ps_fld (pv 0) (pe_tupleOf (by rfl) T.b_tuple (pv 1)) rfl)
      (pss_cons (ps_fld (pv 0) (pe_tupleOf (by rfl) T.b_tuple (pv 2)) rfl)
      (pss_cons (ps_fld (pv 0) (pe_dc (own := [("name", 3), ("_", 4), ("body", 5)]) (tt := tYes) rfl nd (pi_list (pv 2)) (blkOk_by (N := ["self", "cells", "deeds", "name", "_", "body"]) (sc := defScope s_Vault_init) (by decide +kernel)) (fun _ _ _ _ _ => pg_three K 3 4 5 rfl rfl nd rfl rfl rfl (.inl rfl) (.inl rfl) (.inl rfl) (.inr rfl) (.inr rfl) (.inr rfl)) (fun _ _ _ _ _ => pts_nil) (fun _ _ _ _ _ => pv 3) (fun _ _ _ _ _ => pe_ca (ca_code_of T) hr (pa_cons (pv 5) pa_nil))) rfl)
      (pss_one (ps_fld (pv 0) (pe_ca (ca_has_row T) hr (pa_cons (pe_fld (pv 0) rfl) (pa_cons pe_str pa_nil))) rfl))))))), ?_⟩
  refine ⟨_, rfl, _, _, rfl, .list ha, _, rfl, iteF ?_⟩
  refine ⟨_, rfl, a, xs, v.cells, rfl, ha, hxs, g.c0, g.c1, g.cs, _, rfl, iteF ?_⟩
  refine ⟨_, rfl, _, _, rfl, .list hb, _, rfl, iteF ?_⟩
  have lx : xs.length = v.cells.length := by rw [dps_len hxs, List.length_map]
  have ly : ys.length = v.deeds.length := by rw [dps_len hys, List.length_map]
  refine ⟨_, rfl, _, rfl, _, _, rfl, .inl ha, b, ys, v.deeds, v.cells.length, by rw [lx]; rfl, hb, hys, g.d0, g.d1, g.ds, g.nd, fun H1 s1 => ⟨_, rfl, iteF ?_⟩⟩
  refine ⟨_, rfl, .inl ⟨a, xs, rfl, s1.seq ha, fun t1 nt1 => ?_⟩⟩
  have hp1 := s1 _ _ hp
  have nt1p : t1 ≠ p := fun e => by rw [e, hp1] at nt1; cases nt1
  have s2 : Same H (upd H1 t1 (.tup xs)) := s1.trans (same_new nt1)
  refine ⟨_, rfl, p, _, dx, _, rfl, s2 _ _ hp, T.c_Vault, T.n_Vault_cells, (by show 0 < 1000; decide), ?_⟩
  have np2 : NoLst (upd H1 t1 (.tup xs)) p := .ins (s2 _ _ hp)
  have cp2 : Ch (upd H1 t1 (.tup xs)) p := .ins (s2 _ _ hp)
  generalize eH2 : upd H1 t1 (.tup xs) = H2 at s2 np2 cp2
  have at2 : H2 t1 = some (.tup xs) := by rw [← eH2, upd_same]
  generalize eH3 : upd H2 p (.ins (He.ga K "Vault") dx (putF "_cells" (.ref t1) [])) = H3
  have b3 : But p H2 H3 := eH3 ▸ But.upd
  have hp3 : H3 p = some (.ins (He.ga K "Vault") dx (putF "_cells" (.ref t1) [])) := by rw [← eH3, upd_same]
  have hb3 : SqL K H3 b ys := sqL_but np2 b3 (s2.seq hb)
  refine ⟨_, rfl, .inl ⟨b, ys, rfl, hb3, fun t2 nt2 => ?_⟩⟩
  have s4 : Same H3 (upd H3 t2 (.tup ys)) := same_new nt2
  refine ⟨_, rfl, p, _, dx, _, rfl, s4 _ _ hp3, T.c_Vault, T.n_Vault_deeds, (by show 1 < 1000; decide), ?_⟩
  generalize eH4 : upd H3 t2 (.tup ys) = H4 at s4
  have at4 : H4 t2 = some (.tup ys) := by rw [← eH4, upd_same]
  have hp4 := s4 _ _ hp3
  have np4 : NoLst H4 p := .ins hp4
  have cp4 : Ch H4 p := .ins hp4
  generalize eH5 : upd H4 p (.ins (He.ga K "Vault") dx (putF "_deeds" (.ref t2) (putF "_cells" (.ref t1) []))) = H5
  have b5 : But p H4 H5 := eH5 ▸ But.upd
  have hp5 : H5 p = some (.ins (He.ga K "Vault") dx (putF "_deeds" (.ref t2) (putF "_cells" (.ref t1) []))) := by rw [← eH5, upd_same]
  have hb5 : SqL K H5 b ys := sqL_but np4 b5 (s4.seq hb3)
  have b25 : But p H2 H5 := (b3.trans (same_but s4)).trans b5
  have at5 : H5 t1 = some (.tup xs) := b25 _ _ nt1p at2
  have nt2p : t2 ≠ p := fun e => by rw [e, hp3] at nt2; cases nt2
  have at52 : H5 t2 = some (.tup ys) := b5 _ _ nt2p at4
  have hxs5 : DpAll K H5 xs (v.cells.map cellD) := cells_but cp2 b25 (dps_same s2 hxs)
  have hys5 : DpAll K H5 ys (v.deeds.map deedD) := deeds_but cp2 b25 (dps_same s2 hys)
  refine ⟨_, rfl, b, rfl, ⟨_, hb5⟩, fun D hD => ?_⟩
  refine it_any (n := ys.length) walk_list (fun i H' => ∃ kvs, Same H5 H' ∧ H' D = some (.dK kvs) ∧ CodesR K H' kvs (v.deeds.take i)) ⟨[], same_new hD, upd_same, trivial⟩ (fun i H' _ ⟨_, s, _⟩ => s.seq hb5) ?_ ?_
  · rintro i x H' H6 hi ⟨kvs, s, eD, hc⟩ ⟨rfl, ex⟩
    obtain ⟨dd, ed, hdd⟩ := dps_get hys5 ex
    obtain ⟨d, ec, rfl⟩ := get_mapA ed
    obtain ⟨t, x1, x2, x3, rfl, ht, e1, e2, e3⟩ := dp3 (dp_same s hdd)
    cases dp_str e1
    have ok := g.ds d (List.mem_of_getElem? ec)
    refine ⟨t, _, rfl, ht, rfl, _, _, rfl, _, _, rfl, _, _, rfl, rfl, rfl, ?_⟩
    refine ⟨_, rfl, _, rfl, x3, d.2.2, v.cells.length, rfl, e3, ok.2.2.1, ok.2.2.2.2, fun H7 u s7 hu => ?_⟩
    have nn : d.1 ∉ (v.deeds.take i).map (·.1) := fun hm => by
      obtain ⟨d', hd', ed'⟩ := List.mem_map.mp hm
      obtain ⟨j, hj, ej⟩ := List.mem_iff_getElem.mp hd'
      rw [List.length_take] at hj
      rw [List.getElem_take] at ej
      have n1 : (v.deeds.map (·.1))[i]? = some d.1 := by rw [List.getElem?_map, ec]; rfl
      have n2 : (v.deeds.map (·.1))[j]? = some d.1 := by
        rw [List.getElem?_map, List.getElem?_eq_getElem (by omega : j < v.deeds.length), ej]
        exact congrArg some ed'
      have := nd_ix g.nd n1 n2
      omega
    have hl : kvs.length = (v.deeds.take i).length := codes_len hc
    have hl8 : (v.deeds.take i).length ≤ 8 := by rw [List.length_take]; have := g.d1; omega
    refine ⟨kvs, Sum.inr d.1, rfl, s7 _ _ eD, by rw [sizeLine_eq]; omega, _, ?_, upd_same, ?_⟩
    · exact fun b' o e => by
        rw [upd_ne (ne_of_none e hD)]
        exact s7 _ _ (s _ _ e)
    · rw [putK_new u (codes_no hc nn), take_more ec]
      exact codes_snoc (dp_but (.dK (s7 _ _ eD)) But.upd hu (code_noL _)) (codes_but (.dK (s7 _ _ eD)) But.upd (codes_same s7 hc))
  · rintro H6 ⟨kvs, s6, eD, hc⟩
    rw [ly, List.take_length] at hc
    have hp6 := s6 _ _ hp5
    refine ⟨_, rfl, p, _, dx, _, rfl, hp6, T.c_Vault, T.n_Vault_codes, (by show 2 < 1000; decide), ?_⟩
    have cp6 : Ch H6 p := .ins hp6
    have nDp : D ≠ p := fun e => by rw [e, hp5] at hD; cases hD
    generalize eH7 : upd H6 p (.ins (He.ga K "Vault") dx (putF "_codes" (.ref D) (putF "_deeds" (.ref t2) (putF "_cells" (.ref t1) [])))) = H7
    have b7 : But p H6 H7 := eH7 ▸ But.upd
    have hp7 : H7 p = some (.ins (He.ga K "Vault") dx (putF "_codes" (.ref D) (putF "_deeds" (.ref t2) (putF "_cells" (.ref t1) [])))) := by rw [← eH7, upd_same]
    have eD7 := b7 _ _ nDp eD
    have hc7 := codes_but cp6 b7 hc
    refine ⟨_, rfl, p, _, dx, _, _, rfl, hp7, T.c_Vault, T.n_Vault_codes, vf_codes0 .., D, kvs, v.deeds, "coin", rfl, eD7, hc7, ?_⟩
    refine ⟨_, rfl, p, _, dx, _, rfl, hp7, T.c_Vault, T.n_Vault_coins, (by show 3 < 1000; decide), ?_⟩
    generalize eH8 : upd H7 p (.ins (He.ga K "Vault") dx (putF "_coins" (.bl (hasW v.deeds "coin")) (putF "_codes" (.ref D) (putF "_deeds" (.ref t2) (putF "_cells" (.ref t1) []))))) = H8
    have b8 : But p H7 H8 := eH8 ▸ But.upd
    have hp8 : H8 p = some (.ins (He.ga K "Vault") dx (putF "_coins" (.bl (hasW v.deeds "coin")) (putF "_codes" (.ref D) (putF "_deeds" (.ref t2) (putF "_cells" (.ref t1) []))))) := by rw [← eH8, upd_same]
    have b58 : But p H5 H8 := ((same_but s6).trans b7).trans b8
    have cp5 : Ch H5 p := .ins hp5
    refine q H8 ((same_but s2).trans (b25.trans b58)) ⟨dx, t1, t2, D, hasW v.deeds "coin", kvs, hp8, ?_, ?_, b8 _ _ nDp eD7, codes_but (.ins hp7) b8 hc7⟩
    · exact .tup (.of (b58 _ _ nt1p at5)) (cells_but cp5 b58 hxs5)
    · exact .tup (.of (b58 _ _ nt2p at52)) (deeds_but cp5 b58 hys5)
end

end M

set_option Elab.async false
set_option linter.all false
set_option maxRecDepth 100000
set_option maxHeartbeats 2000000
namespace M
open PySem PySem.Spec PyProof.Rows L2

/-! ### a dict comprehension whose keys are tuples -/
/-- the new pair is put -/
theorem set_t {X : Cx} {pins : List (Addr × Obj)} {σ : L2.St} {H : Hp} {s : Shared} {E : Value → Shared → Prop} {D b : Addr} {kvs : List (List Key × V)} {k : List Key} {v : V} {r : Value} {Q : Unit → Shared → Prop} (hu : X.A.units + 1 < cLine) (I : Inv X pins σ H s) (e : H D = some (.dT kvs)) (eb : H b = some (.tup (k.map kV))) (lt : kvs.length < sizeLine)
    (rv : RelV v r) (go : ∀ s', Inv X pins σ (upd H D (.dT (putK kvs k v))) s' → Q () s') : wpAny (model X.prog X.w) X.A (dictSet D (.ref b) r) Q E s := by
  obtain ⟨z0, nd, zs, kt, dd⟩ := dt_of I.hok e
  have zl : zs.length ≤ sizeLine := (Paired.length kt) ▸ z0
  refine wpAny_dictSet_heap (show X.A.units < cLine from by omega) (key_of I.hok eb) dd (fun g' ⟨u0, es, ep, g1, g2, g3, g4, _, g5⟩ same => go _ ?_) zl
  refine d_write I (by rw [e]; exact True.intro) same ⟨u0, g1⟩ ⟨by have := length_putK kvs k v; omega, nd, _, (kt.put k eb rv).keeps fun c ys ec => ?_, u0, es, ep, g1, g2, g3, g4, g5⟩
  rw [upd_ne (ne_of ec e (fun j => nomatch j))]; exact ec
/-- D the new dict, its keys tuples -/
def tDcT (wi : TI) (g : TG) (tk tv : TE) (vs : List Nat) : TE := fun σ H Q => wi σ H fun J H1 => ∀ D, H1 D = none → ∃ W : Nat → Nat → Hp → Prop, (∃ m, W 0 m (upd H1 D (.dT []))) ∧ ∀ i m H', W i m H' → (J.stop i H' ∧ Q (.ref D) H') ∨
  (J.go i H' ∧ ∃ Nx : Hp → Prop, (∀ G, Nx G → ∃ m', m' < m ∧ W (i + 1) m' G) ∧ ∀ x G, J.yld i H' x G → g x (wipe σ vs) G fun σ2 G2 => wipe σ2 vs = wipe σ vs ∧ tk σ2 G2 fun y G3 => tv σ2 G3 fun z G4 =>
    ∃ kvs k b, y = .ref b ∧ G4 b = some (.tup (List.map kV k)) ∧ G4 D = some (.dT kvs) ∧ kvs.length < sizeLine ∧ Nx (upd G4 D (.dT (putK kvs k z))))
theorem pe_dcT {X : Cx} {kx vx tg iter : Expr} {scope : Scope} {own : List (Str × Nat)} {pos : Pos} {wi : TI} {g : TG} {tk tv : TE} (hu : X.A.units + 1 < cLine) (calm : X.calm = true) (nd : X.N.Nodup) (pi : PI X tg iter wi) (bk : BlkOk X.N X.env.scope scope own)
    (fg : ∀ (s : Shared) (H : Hp) (C : Addr) (cl : List (Str × Addr)) (fp : List Addr), PG (X.blk s H scope (compEnvC scope cl C X.env) fp) tg g)
    (fk : ∀ (s : Shared) (H : Hp) (C : Addr) (cl : List (Str × Addr)) (fp : List Addr), PE (X.blk s H scope (compEnvC scope cl C X.env) fp) kx tk)
    (fv : ∀ (s : Shared) (H : Hp) (C : Addr) (cl : List (Str × Addr)) (fp : List Addr), PE (X.blk s H scope (compEnvC scope cl C X.env) fp) vx tv) (fs : ∀ x, foldedSetIterable iter X.env x = pure x := by intro _; rfl) :
    PE X (.DictComp kx vx [⟨tg, iter, [], 0⟩] scope pos) (tDcT wi g tk tv (own.map (·.2))) := by
  refine ⟨fun pins s σ H Q I h => ?_⟩
  rw [arm_eval_DictComp]
  have fr : ∀ y ∈ scope.names, y.2 = .free → ∃ c, X.env.cells.lookup y.1 = some c := fun y hy e =>
    (bk.free y hy e).elim (fun k => I.ok.has _ (.inl k)) (fun k => I.ok.has _ (.inr k))
  refine wpAny_comprehension_free rfl fs (closure_ok fr) bk.kind (fun y hy e => by rw [bk.uniq y hy, e]) (thn (pi.run pins s σ H _ I h) fun xv s1 hx => thn hx fun itv s2 r2 => ?_)
  obtain ⟨it, fp, tn, J, H2, rfl, I2, T, st2, f2, q⟩ := r2
  refine wpAny_newObj_type (newEnv_comp ?_)
  generalize eD : s2.heap.objs.size = D
  obtain ⟨W, ⟨m0, w0⟩, turn⟩ := q D (I2.hok.fresh (Nat.le_of_eq eD))
  generalize e3 : ({ s2 with heap := s2.heap.push { cls := .type "dict", data := .dict #[] } } : Shared) = s3
  have h3 : s3.heap = s2.heap.push { cls := .type "dict", data := .dict #[] } := e3 ▸ rfl
  have I3 : Inv X pins σ (upd H2 D (.dT [])) s3 := by
    rw [← e3]; exact I2.laid (t' := s2.toks) (fun b o e => Heap.get?_push_of_some _ e) (Nat.le_of_eq eD) (eD ▸ dt_empty s2.heap I2.big)
  have small : ∀ b ∈ fp, b < s2.heap.objs.size := fun b hb => Heap.lt_size (T.obj _ _ st2 b hb).choose_spec.1
  have f3 : ∀ b ∈ fp, FpOk X pins (upd H2 D (.dT [])) b ∧ b < s3.heap.objs.size := fun b hb => by
    have lt := small b hb
    exact ⟨⟨(upd_ne (eD ▸ Nat.ne_of_lt lt)).trans (f2 b hb).1, (f2 b hb).2⟩, by rw [h3, Heap.size_push]; exact Nat.lt_succ_of_lt lt⟩
  have st3 : tn 0 s3.heap := T.keep _ _ _ st2 fun b _ o e => h3 ▸ Heap.get?_push_of_some _ e
  have I4 := block_start I3 bk nd f3
  have a1 := fg s3 (upd H2 D (.dT [])) s3.heap.objs.size (cellsFrom (s3.heap.objs.size + 1) scope.names (cloFrom X.env.cells scope.names [])) fp
  have a2 := fk s3 (upd H2 D (.dT [])) s3.heap.objs.size (cellsFrom (s3.heap.objs.size + 1) scope.names (cloFrom X.env.cells scope.names [])) fp
  have a3 := fv s3 (upd H2 D (.dT [])) s3.heap.objs.size (cellsFrom (s3.heap.objs.size + 1) scope.names (cloFrom X.env.cells scope.names [])) fp
  have nf : ∀ b ∈ fp, (upd H2 D (.dT [])) b = none := fun b hb => (f3 b hb).1.1
  show codeAny _ _ (.compStart (.DictComp kx vx [⟨tg, iter, [], 0⟩] scope pos) 0 (.ref it) (.ref D) (compEnvC scope (cellsFrom (s3.heap.objs.size + 1) scope.names (cloFrom X.env.cells scope.names [])) s3.heap.objs.size X.env)) _ { s3 with heap := pushCells (s3.heap.push { cls := .type "dict", data := .dict #[] }) scope.names }
  generalize ec : compEnvC scope (cellsFrom (s3.heap.objs.size + 1) scope.names (cloFrom X.env.cells scope.names [])) s3.heap.objs.size X.env = ce at I4 a1 a2 a3 ⊢
  have cL : ce.locals = s3.heap.objs.size := ec ▸ rfl
  generalize eH : upd H2 D (.dT []) = H3 at I3 I4 a1 a2 a3 w0 nf f3
  generalize e4 : ({ s3 with heap := pushCells (s3.heap.push { cls := .type "dict", data := .dict #[] }) scope.names } : Shared) = s4 at I4 ⊢
  have st4 : tn 0 s4.heap := T.keep _ _ _ st3 fun b _ o e => e4 ▸ pushCells_keeps _ _ _ _ (Heap.get?_push_of_some _ e)
  have fpk : ∀ {σ' : L2.St} {H' : Hp} {s' : Shared}, Inv (X.blk s3 H3 scope ce fp) [] σ' H' s' → (∀ b ∈ fp, H' b = none) → ∀ b ∈ fp, FpOk (X.blk s3 H3 scope ce fp) [] H' b := fun I' hn b hb =>
    ⟨hn b hb, (I'.ok.exf b hb).1, I'.ok.exfs b hb, .inl hb, fun x c e => (I'.ok.exf b hb).2 x c e, fun p hp => nomatch (show p ∈ ([] : List (Addr × Obj)) from hp)⟩
  refine (fun lp => codeAny_compStart_dict lp (T.self X.A 0 _ _ _ st4 lp)) (compLoop_anyD (fun n s' => ∃ i H', Inv (X.blk s3 H3 scope ce fp) [] (wipe σ (own.map (·.2))) H' s' ∧ tn i s'.heap ∧ (∀ b ∈ fp, H' b = none) ∧ W i n H') ?_ m0 ⟨0, H3, I4, st4, nf, w0⟩)
  rintro n s5 ⟨i, H5, I5, st5, n5, w5⟩
  rcases turn i n H5 w5 with ⟨stop, qq⟩ | ⟨go, Nx, less, step⟩
  · refine thnF (T.done (X.blk s3 H3 scope ce fp) rfl rfl rfl calm i [] s5 _ H5 (fun _ _ => False) I5 (fpk I5 n5) st5 stop) fun r s6 ⟨hr, I6⟩ => ?_
    subst hr
    have I7 : Inv X pins σ H5 s6 := I3.call' (ch := fp) I6.os I6.base I6.hok I6.bare fun b hb => ⟨(f3 b hb).1.2.2.2.1, (f3 b hb).1.2.1, (f3 b hb).1.2.2.2.2.1, (f3 b hb).1.2.2.2.2.2⟩
    have nC : H5 s3.heap.objs.size = none := cL ▸ (show H5 ce.locals = none from I6.free)
    obtain ⟨m, hm, _⟩ := I6.loc
    refine ⟨m, cL ▸ (show s6.heap.Ns ce.locals m from hm), fun h'' sb => ?_⟩
    obtain ⟨p0, p1, p2, p3, p4, p5⟩ := I3.fpOk (Nat.le_refl _) nC
    exact ⟨.ref D, H5, I7.turned (t' := s6.toks) (fun b o hb e => (sb.2 b hb).trans e) p0 p1 p3 p4 p5, rfl, qq⟩
  · refine thnF (T.item (X.blk s3 H3 scope ce fp) rfl rfl rfl calm i [] s5 _ H5 (fun _ _ => False) I5 (fpk I5 n5) st5 go) fun r s6 ⟨u, hr, h6⟩ => ?_
    subst hr
    refine thnF h6 fun _ s7 ⟨x, H7, I7, r7, y7, st7, n7⟩ => thnF (a1.run _ s7 _ H7 x u _ (I7.pinned (fpk I7 n7) (T.obj _ _ st7)) r7 (step x H7 y7)) fun _ s8 ⟨σ8, H8, I8, hw8, q8⟩ => ?_
    refine wpAny_pure (show (if true = true then _ else _) from ?_)
    refine thnF (a2.run _ s8 σ8 H8 _ I8 q8) fun k10 s10 ⟨yk, H10, I10, r10, q10⟩ => thnF (a3.run _ s10 σ8 H10 _ I10 q10) fun z2 s11 ⟨yv, H11, I11, r11, kvs, k, b, ek, eb, eD1, lt, nx⟩ => ?_
    subst ek
    cases (show k10 = Value.ref b from r10)
    refine set_t (X := X.blk s3 H3 scope ce fp) hu I11 eD1 eb lt r11 fun s12 I12 => ?_
    obtain ⟨m', hm, w'⟩ := less _ nx
    have pk : ∀ b ∈ fp, ∀ o, s7.heap.get? b = some o → s12.heap.get? b = some o ∧ (upd H11 D (.dT (putK kvs k yv))) b = none := fun b hb o e =>
      have z := I12.pin (b, o) (List.mem_append_right _ (List.mem_append_right _ (mem_pinsAt hb e)))
      ⟨z.1, z.2.1⟩
    refine ⟨m', hm, i + 1, _, (I12.unpinned (pins := [])).weak (by rw [← hw8, wipe_length]) (fun j v e => (wipe_some (hw8 ▸ e)).1), T.keep _ _ _ st7 fun b hb o e => (pk b hb o e).1, fun b hb => ?_, w'⟩
    obtain ⟨o, e, _⟩ := T.obj _ _ st7 b hb
    exact (pk b hb o e).2

end M

set_option Elab.async false
set_option linter.all false
set_option maxRecDepth 100000
set_option maxHeartbeats 2000000
namespace M
open PySem PySem.Spec PyProof.Rows L2

/-- the def x of the module, its parameters told -/
structure Cf (P : Program) (w : World) (K : PySem.W.Frag) (mg : Str → Option Value) (base : Heap) (k : Nat) (x : Str) (ps : List Str) (sp : Sp) : Prop where
  ex : ∃ (fd : FuncData) (oc : Value) (od : Option Addr) (osl : Array (Option Value)), K.lookup (He.ga K x) = some ⟨oc, od, .func fd, osl⟩ ∧ FnOk P w K mg base CX0 k (He.ga K x) fd ps sp ∧ PySem.W.keepIn K (.ref (He.ga K x)) = true ∧ Binds K fd ps []
  g : mg x = some (.ref (He.ga K x))
theorem cf_of {P : Program} {w : World} {K : PySem.W.Frag} {mg : Str → Option Value} {base : Heap} {x : Str} {st : Stmt} {N ps : List Str} {k : Nat} {sp : Sp} (F : ∃ fd, FunD K x x (defArgs st) (defBody st) (defScope st) [] [] (He.fAd K (x, none)) fd) (g : mg x = some (.ref (He.ga K x))) (S : FnScope N ps (defScope st)) (hb : BindsH x x st ps)
    (len : ∀ vs H Q E, sp vs H Q E → vs.length = ps.length) (hbody : BodyH P w K mg base x st N k (He.fAd K (x, none)) sp) : Cf P w K mg base (k + 1) x ps sp := by
  obtain ⟨fd, F⟩ := F
  obtain ⟨oc, od, dV, kV, doc, pm, an, cdv, ct, osl, e, lk, _⟩ := F.ex
  exact ⟨⟨fd, oc, od, osl, lk, fn_d F S len hbody, F.kp, F.bindsN hb⟩, g⟩
theorem Cf.mono {P : Program} {w : World} {K : PySem.W.Frag} {mg : Str → Option Value} {base : Heap} {x : Str} {ps : List Str} {j k : Nat} {sp : Sp} (c : Cf P w K mg base j x ps sp) (h : j ≤ k) : Cf P w K mg base k x ps sp := by
  obtain ⟨fd, oc, od, osl, lk, F, r⟩ := c.ex
  exact ⟨⟨fd, oc, od, osl, lk, F.mono h, r⟩, c.g⟩
theorem ne_ho {H : Hp} {a b : Addr} {o p : HO} (ha : H a = some o) (hb : H b = some p) (n : o ≠ p) : a ≠ b := fun e => n (by rw [e, hb] at ha; exact (Option.some.inj ha).symm)
theorem getD_mem {l : List Int} {i : Nat} {d : Int} (h : i < l.length) : l.getD i d ∈ l := by
  rw [List.getD_eq_getElem?_getD, List.getElem?_eq_getElem h]
  exact List.getElem_mem h
theorem atK {l : List Int} {k : Int} {n : Nat} (h0 : 0 ≤ k) (hk : k < n) (hn : l.length = n) : atI (l.map V.int) k = some (.int (l.getD k.toNat 0)) := by
  have e : ((k.toNat : Nat) : Int) = k := Int.toNat_of_nonneg h0
  have hl : k.toNat < l.length := by omega
  have := atI_nat (xs := l.map V.int) (j := k.toNat) (v := .int (l.getD k.toNat 0)) (by
    rw [List.getElem?_map, List.getD_eq_getElem?_getD, List.getElem?_eq_getElem hl]
    rfl)
  rw [e] at this
  exact this
theorem none_of {H H' : Hp} {x : Addr} (s : Same H H') (h : H' x = none) : H x = none := by
  cases e : H x with
  | none => rfl
  | some o => rw [s _ _ e] at h; cases h
theorem boot_all : bootBuiltins "all" = some (.builtin "all") := by decide +kernel

end M

set_option Elab.async false
set_option linter.all false
set_option maxRecDepth 100000
set_option maxHeartbeats 2000000
namespace M
open PySem PySem.Spec PyProof.Rows L2

/-! ### an own error without arguments -/
section
variable {X : Cx} {C : Addr} {bmB : List Value} {B newId initId : String}
theorem pmk_own0 {x : Str} {p pos : Pos} (F : ExcBaseFacts B newId initId bmB) (q : PySem.W.excIn X.K C bmB newId = true) (gC : X.mg x = some (.ref C)) (kC : PySem.W.keepIn X.K (.ref C) = true) (r : Raises X (.ref C)) (hg : Gl X x := by rfl)
    (hdb : (x == ("__debug__" : Str)) = false := by decide) : PMk X (.Call (.Name x p) [] [] pos) (fun _ H Q => Q (.ref C) none H) := by
  intro pins s σ H Q I h
  refine wpAny_Call_Name_kw (ld_glob I hg gC ?_ hdb)
  refine PySem.W.callWith_K0 I.kIn kC ?_
  show wpAny _ _ (call (.ref C) []) _ _ _
  obtain ⟨bm, N, nm, qn, bs, hdct, sn, sub, ab, col, dd, k0, k1, k2, k3, k5, mN, hC, hN, hni, T⟩ := exc_obj I.kIn q
  refine wpAny_call_exc_subT F T hC hN hni (fun h' e hm => ?_) (Nat.zero_le _)
  exact mk_of I hm r h (I.hok.gone hm.new)
end
/-! ### defs that may raise -/
structure CaX (P : Program) (w : World) (K : PySem.W.Frag) (mg : Str → Option Value) (base : Heap) (k : Nat) (x : Str) (sp : Sp) : Prop where
  ex : ∃ (f : Addr) (fd : FuncData) (ps : List Str), FnOk P w K mg base (L2.CX P w) k f fd ps sp ∧ mg x = some (.ref f) ∧ PySem.W.keepIn K (.ref f) = true ∧ Binds K fd ps []
structure CfX (P : Program) (w : World) (K : PySem.W.Frag) (mg : Str → Option Value) (base : Heap) (k : Nat) (x : Str) (ps : List Str) (sp : Sp) : Prop where
  ex : ∃ (fd : FuncData) (oc : Value) (od : Option Addr) (osl : Array (Option Value)), K.lookup (He.ga K x) = some ⟨oc, od, .func fd, osl⟩ ∧ FnOk P w K mg base (L2.CX P w) k (He.ga K x) fd ps sp ∧ PySem.W.keepIn K (.ref (He.ga K x)) = true ∧ Binds K fd ps []
  g : mg x = some (.ref (He.ga K x))
section
variable {P : Program} {w : World} {K : PySem.W.Frag} {mg : Str → Option Value} {base : Heap} {x m q : Str} {st : Stmt} {N ps : List Str} {k : Nat} {sp : Sp} {C f : Addr}
abbrev BodyX (P : Program) (w : World) (K : PySem.W.Frag) (mg : Str → Option Value) (base : Heap) (q : Str) (st : Stmt) (N : List Str) (k : Nat) (f : Addr) (sp : Sp) : Prop := ∀ (cdv : Value) (A : Around) (outer : List Env) (s : Shared) (H : Hp) (vs : List V) (Q : VK) (E : XK), Room k (A.deeper (envOfC q (defScope st) s.heap.objs.size f cdv)) → sp vs H Q E →
      ∃ t, PSs (cxOf (L2.CX P w) P w K mg base N q (defScope st) f cdv A outer s H E) (defBody st) t ∧ t { nx := fun _ H' => Q .non H', rt := Q } (start N vs) H
theorem ca_ofX (F : ∃ fd, FunD K x x (defArgs st) (defBody st) (defScope st) [] [] (He.fAd K (x, none)) fd) (g : mg x = some (.ref (He.ga K x))) (S : FnScope N ps (defScope st)) (hb : BindsH x x st ps) (len : ∀ vs H Q E, sp vs H Q E → vs.length = ps.length)
    (hbody : BodyX P w K mg base x st N k (He.fAd K (x, none)) sp) : CaX P w K mg base (k + 1) x sp := by
  obtain ⟨fd, F⟩ := F
  exact ⟨_, fd, ps, F.ok S len hbody, g, F.kp, F.bindsN hb⟩
theorem cf_ofX (F : ∃ fd, FunD K x x (defArgs st) (defBody st) (defScope st) [] [] (He.fAd K (x, none)) fd) (g : mg x = some (.ref (He.ga K x))) (S : FnScope N ps (defScope st)) (hb : BindsH x x st ps) (len : ∀ vs H Q E, sp vs H Q E → vs.length = ps.length)
    (hbody : BodyX P w K mg base x st N k (He.fAd K (x, none)) sp) : CfX P w K mg base (k + 1) x ps sp := by
  obtain ⟨fd, F⟩ := F
  obtain ⟨oc, od, dV, kV, doc, pm, an, cdv, ct, osl, e, lk, _⟩ := F.ex
  exact ⟨⟨fd, oc, od, osl, lk, F.ok S len hbody, F.kp, F.bindsN hb⟩, g⟩
theorem CfX.mono {j : Nat} (c : CfX P w K mg base j x ps sp) (h : j ≤ k) : CfX P w K mg base k x ps sp := by
  obtain ⟨fd, oc, od, osl, lk, F, r⟩ := c.ex
  exact ⟨⟨fd, oc, od, osl, lk, F.mono h, r⟩, c.g⟩
/-- who raises nothing may stand among those who may -/
theorem fn_toX {fd : FuncData} (F : FnOk P w K mg base CX0 k f fd ps sp) : FnOk P w K mg base (L2.CX P w) k f fd ps sp :=
  ⟨F.len, fun A outer s H args us vs Q E hr he hb hv h => codeAny_mono (F.run A outer s H args us vs Q E hr he hb hv h) fun r s' hq => by
    cases r with
    | error e => exact hq.elim
    | ok fl => cases fl <;> exact hq⟩
theorem Cf.toX (c : Cf P w K mg base k x ps sp) : CfX P w K mg base k x ps sp := by
  obtain ⟨fd, oc, od, osl, lk, F, r⟩ := c.ex
  exact ⟨⟨fd, oc, od, osl, lk, fn_toX F, r⟩, c.g⟩
end
section
variable {X : Cx} {k j : Nat} {x : Str} {sp : Sp} {p pos : Pos} {e : Expr} {es : List Expr} {t : TA}
theorem pe_caX {W : WX} (c : CaX X.prog X.w X.K X.mg X.base k x sp) (hr : Room j X.A) (tk : Takes X W) (ha : PA X (e :: es) t) (hk : k ≤ j := by decide) (hg : Gl X x := by rfl)
    (hdb : (x == ("__debug__" : Str)) = false := by decide) (he : starEach (e :: es) X.env = (false, eval e X.env) :: starEach es X.env := by rfl) (hpl : (backTo pos (starEach es X.env)).any (·.1) = false := by rfl) :
    PE X (.Call (.Name x p) (e :: es) [] pos) (tCallS sp (WE W) t) := by
  obtain ⟨f, fd, ps, F, hm, kp, b⟩ := c.ex
  exact pe_callS F (hr.mono hk) hg hm kp b (fun σ => passAt tk σ) ha hdb he hpl
/-- of several defs that the slot may hold, such as may raise -/
structure HeldX (P : Program) (w : World) (K : PySem.W.Frag) (mg : Str → Option Value) (base : Heap) (k : Nat) (f : Addr) (sp : Sp) : Prop where
  ex : ∃ (fd : FuncData) (ps : List Str), FnOk P w K mg base (L2.CX P w) k f fd ps sp ∧ PySem.W.keepIn K (.ref f) = true ∧ Binds K fd ps []
def tCallAX (i : Nat) (S : Addr → Option Sp) (E : XK) (t : TA) : TE := fun σ H Q => ∃ f sp, σ[i]? = some (some (.ref f)) ∧ S f = some sp ∧ t σ H fun vs H1 => sp vs H1 Q E
theorem pe_callAX {i : Nat} {S : Addr → Option Sp} {E : XK} (A : ∀ f sp, S f = some sp → HeldX X.prog X.w X.K X.mg X.base k f sp) (hr : Room k X.A) (tk : Takes X (fun cls d _ H => E cls d H)) (hN : X.N[i]? = some x) (hv : Vis X.env.scope x) (ha : PA X (e :: es) t)
    (hdb : (x == ("__debug__" : Str)) = false := by decide) (hcd : (x == ("__classdict__" : Str)) = false := by decide)
    (he : starEach (e :: es) X.env = (false, eval e X.env) :: starEach es X.env := by rfl) (hpl : (backTo pos (starEach es X.env)).any (·.1) = false := by rfl) : PE X (.Call (.Name x p) (e :: es) [] pos) (tCallAX i S E t) := by
  refine ⟨fun pins s σ H Q I h => ?_⟩
  obtain ⟨f, sp, hs, hS, ht⟩ := h
  obtain ⟨fd, ps, F, hk, hb⟩ := (A f sp hS).ex
  refine (pe_callL (i := i) (f := f) (sp := sp) (dvs := []) (E := E) F hr hN hv hk hb .nil (fun pins σ H s e s' I c => passAt tk σ pins H s e s' I c) ha hdb hcd he hpl).run pins s σ H Q I ⟨hs, ?_⟩
  have e0 : (fun (vs : List V) (H1 : Hp) => sp (vs ++ []) H1 Q E) = fun vs H1 => sp vs H1 Q E := by
    funext vs H1
    rw [List.append_nil]
  show t σ H (fun vs H1 => sp (vs ++ []) H1 Q E)
  rw [e0]
  exact ht
end

end M

set_option Elab.async false
set_option linter.all false
set_option maxRecDepth 100000
set_option maxHeartbeats 2000000
namespace M
open PySem PySem.Spec PyProof.Rows L2

/-! ### try with clauses, each with a name or without -/
/-- an exception has come down to the clauses: it is at a; u is the state without it, s the state now -/
structure Came (X : Cx) (pins : List (Addr × Obj)) (G : Heap) (u s : Shared) (a : Addr) (σ : L2.St) (H : Hp) (cls : Value) (d : Option Addr) : Prop where
  inv : Inv X pins σ H u
  out : ∀ b o, u.heap.get? b = some o → b ∉ frs X.stack → G.get? b = some o
  up : u.heap.UpToSlots s.heap
  fly : HandSPX.FlyingZ G (X.env :: X.outer) a (Zc cls d) s.heap
  no : H a = none
  os : s.os = u.os
  bare : AllBare s.gens
section
variable {X : Cx} {pins : List (Addr × Obj)} {G : Heap} {u s : Shared} {a : Addr} {σ : L2.St} {H : Hp} {cls : Value} {d : Option Addr}
theorem Came.now (c : Came X pins G u s a σ H cls d) : Inv X pins σ H s := c.inv.landed c.out c.fly.1 c.up c.os c.bare
theorem Came.spot (c : Came X pins G u s a σ H cls d) (hf : X.env.frame = some X.env.locals) : ∃ oe, s.heap.get? a = some oe ∧ Zc cls d oe ∧ (∃ vs, oe.data = .fields vs) ∧ a ≠ X.env.locals ∧ a ∉ X.fs := by
  obtain ⟨oe, vs, e1, e2, e3⟩ := c.fly.there
  have away : ∀ env ∈ X.env :: X.outer, env.frame ≠ some a := by
    intro env hm z
    obtain ⟨_, o2, q1, q2⟩ := c.fly.2.2.1.mem (List.mem_filterMap.mpr ⟨env, hm, z⟩ : a ∈ frs (X.env :: X.outer))
    cases e1.symm.trans q1
    exact q2 _ e3
  refine ⟨oe, e1, e2, ⟨vs, e3⟩, ?_, ?_⟩
  · intro z
    exact away X.env List.mem_cons_self (hf.trans (congrArg some z.symm))
  · intro hm
    obtain ⟨env, h1, h2⟩ := List.mem_filterMap.mp hm
    exact away env (List.mem_cons_of_mem _ h1) h2
theorem Came.on (c : Came X pins G u s a σ H cls d) {h : Heap} (fl : HandSPX.FlyingZ G (X.env :: X.outer) a (Zc cls d) h) (up : s.heap.UpToSlots h) : Came X pins G u { s with heap := h } a σ H cls d :=
  ⟨c.inv, c.out, c.up.trans up, fl, c.no, c.os, c.bare⟩
end
/-- the clauses keep their wish -/
def Hands (X : Cx) (hds : List ExceptHandler) (wish : Ends → WX) : Prop := ∀ (pins : List (Addr × Obj)) (G : Heap) (u s : Shared) (a : Addr) (σ : L2.St) (H : Hp) (cls : Value) (d : Option Addr) (D : Ends), Came X pins G u s a σ H cls d → wish D cls d σ H →
  wpAny (model X.prog X.w) X.A (handleBy (.ref a) X.env hds) (SP X pins D) X.xe s
/-- a clause without a name, then the others -/
def wOne (K : PySem.W.Frag) (c : Value) (ts : Addr → Value → Option Addr → TS) (wish : Ends → WX) : Ends → WX := fun D cls d σ H =>
  ∃ b, PySem.W.exmOne K cls c = some b ∧ (b = true → ∀ a, H a = none → ts a cls d D σ H) ∧ (b = false → wish D cls d σ H)
/-- the ends of a suite whose clause keeps the exception at the slot i -/
def lets (i : Nat) (D : Ends) : Ends := ⟨fun σ H => D.nx (σ.set i none) H, D.rt, fun σ H => D.bk (σ.set i none) H, fun σ H => D.ct (σ.set i none) H⟩
/-- a clause with a name, its slot i, then the others -/
def wNmd (K : PySem.W.Frag) (c : Value) (i : Nat) (ts : Addr → Value → Option Addr → TS) (wish : Ends → WX) : Ends → WX := fun D cls d σ H =>
  ∃ b, PySem.W.exmOne K cls c = some b ∧ (b = true → ∀ a, H a = none → ts a cls d (lets i D) (σ.set i (some (.ref a))) H) ∧ (b = false → wish D cls d σ H)
section
variable {X : Cx} {x n : Str} {c : Value} {i : Nat} {b0 : Stmt} {bs body orelse : List Stmt} {hd : ExceptHandler} {hds : List ExceptHandler} {wish : Ends → WX} {ts : Addr → Value → Option Addr → TS} {np pos hpos : Pos} {Wout : WX} {tb : WX → TS} {te : TS}
theorem hands_nil (hs : X.stack = X.env :: X.outer) (hf : X.env.frame = some X.env.locals) (tk : Takes X Wout) : Hands X [] (fun _ => Wout) := by
  intro pins G u s a σ H cls d D c h
  apply wpAny_handleBy_nil
  obtain ⟨_, _, _, oe, vs, T, oT, tr, e1, e2, e3, e4, _⟩ := id c.fly
  unfold PySem.passOn
  apply wpAny_bind
  refine wpAny_field e1 e3 e4 ?_
  have ne : ¬ ((Value.ref T == Value.none) = true) := by simp
  have last : wpAny (model X.prog X.w) X.A (setFlight (.ref a) X.env.frame) (fun _ z => wpAny (model X.prog X.w) X.A (throw (.ref a) : Sem Flow) (SP X pins D) X.xe z) X.xe s := by
    rw [hf]
    apply HandSPX.setFlight_upZ c.fly
    intro h4 held up
    apply wpAny_throw
    apply tk
    refine ⟨a, G, u, pins, σ, H, cls, d, rfl, c.inv, c.out, c.up.trans up, Or.inr (Or.inr ?_), c.no, c.os, c.bare, h⟩
    rw [hs]
    exact held
  simp only [if_neg ne]
  first
    | exact wpAny_bind (wpAny_pure (wpAny_bind last))
    | exact wpAny_bind last
theorem came_test {pins : List (Addr × Obj)} {G : Heap} {u s : Shared} {a : Addr} {σ : L2.St} {H : Hp} {cls : Value} {d : Option Addr} {b : Bool} (hc : Names X x c) (hf : X.env.frame = some X.env.locals) (k : Came X pins G u s a σ H cls d) (hb : PySem.W.exmOne X.K cls c = some b)
    {E Z : Value → Shared → Prop} {Q : Bool → Shared → Prop} (q : Q b s) : wpAny (model X.prog X.w) (X.A.mark (some (.ref a))) (eval (.Name x np) X.env) (fun v s1 => wpAny (model X.prog X.w) (X.A.mark (some (.ref a))) (excMatches (.ref a) v) Q E s1) Z s := by
  obtain ⟨oe, e1, e2, ⟨vs, e3⟩, nL, nF⟩ := k.spot hf
  have J := k.now
  have S := J.suite e1 e3 k.no nL nF
  have LT : PySem.W.Looks (model X.prog X.w) s.heap (typeOf (.ref a)) cls := by
    intro A1 Q1 E1 s1 keep q1
    refine wpAny_typeOf_ref (keep _ _ e1) ?_
    rw [e2.1]
    exact q1
  have LM := PySem.W.exm_one (M := model X.prog X.w) J.kIn LT hb
  have q2 := LM.here (A := X.A.mark (some (.ref a))) (E := E) q
  obtain ⟨h1, h2, h3⟩ := hc
  rcases h3 with h3 | ⟨h3, h4, h5⟩
  · exact ld_glob (X := X.suite a ((a, oe) :: (X.pn ++ pins))) S h1 h3 q2 h2
  · exact ld_blt (X := X.suite a ((a, oe) :: (X.pn ++ pins))) S h1 h3 h4 q2 h5 h2
theorem hands_one (hc : Names X x c) (hf : X.env.frame = some X.env.locals)
    (su : ∀ (a : Addr) (oe : Obj) (cls : Value) (d : Option Addr) (pn : List (Addr × Obj)), Zc cls d oe → (∃ vs, oe.data = .fields vs) → PSs (X.suite a ((a, oe) :: pn)) (b0 :: bs) (ts a cls d)) (r : Hands X hds wish) :
    Hands X (.ExceptHandler (some (.Name x np)) none (b0 :: bs) hpos :: hds) (wOne X.K c ts wish) := by
  intro pins G u s a σ H cls d D k h
  obtain ⟨b, h1, h2, h3⟩ := h
  refine wpAny_handleBy_cons (codeAny_handlers_test ?_) (fun q => by cases q)
  refine came_test (d := d) hc hf k h1 ?_
  cases b
  · exact r pins G u s a σ H cls d D k (h3 rfl)
  · apply codeAny_handlers_suite
    apply HandSPX.lands_againZ k.fly
    intro h4 fl4 up4
    have k4 := k.on fl4 up4
    obtain ⟨oe, e1, e2, ⟨vs, e3⟩, nL, nF⟩ := k4.spot hf
    have S := k4.now.suite e1 e3 k4.no nL nF
    refine wpAny_mono ((su a oe cls d (X.pn ++ pins) e2 ⟨vs, e3⟩).run [] _ σ H D S (h2 rfl a k.no)) ?_ (fun _ _ z => z.elim)
    intro f s6 z
    have ok := k.inv.ok
    cases f with
    | ret v =>
      obtain ⟨v6, σ6, H6, S6, z1, z2⟩ := z
      exact ⟨v6, σ6, H6, S6.unsuite ok, z1, z2⟩
    | next => exact match z with | ⟨σ6, H6, S6, z1⟩ => ⟨σ6, H6, S6.unsuite ok, z1⟩
    | brk => exact match z with | ⟨σ6, H6, S6, z1⟩ => ⟨σ6, H6, S6.unsuite ok, z1⟩
    | cont => exact match z with | ⟨σ6, H6, S6, z1⟩ => ⟨σ6, H6, S6.unsuite ok, z1⟩
theorem hands_as (hc : Names X x c) (hf : X.env.frame = some X.env.locals) (hN : X.N.Nodup) (hi : X.N[i]? = some n) (hl : X.env.kindOf n = some .local)
    (su : ∀ (a : Addr) (oe : Obj) (cls : Value) (d : Option Addr) (pn : List (Addr × Obj)), Zc cls d oe → (∃ vs, oe.data = .fields vs) → PSs (X.suite a ((a, oe) :: pn)) (b0 :: bs) (ts a cls d)) (r : Hands X hds wish) :
    Hands X (.ExceptHandler (some (.Name x np)) (some n) (b0 :: bs) hpos :: hds) (wNmd X.K c i ts wish) := by
  intro pins G u s a σ H cls d D k h
  obtain ⟨b, h1, h2, h3⟩ := h
  refine wpAny_handleBy_cons (codeAny_handlers_test ?_) (fun q => by cases q)
  refine came_test (d := d) hc hf k h1 ?_
  cases b
  · exact r pins G u s a σ H cls d D k (h3 rfl)
  · apply codeAny_handlers_suite_as
    apply HandSPX.lands_againZ k.fly
    intro h4 fl4 up4
    have k4 := k.on fl4 up4
    obtain ⟨oe, e1, e2, ⟨vs, e3⟩, nL, nF⟩ := k4.spot hf
    have S := k4.now.suite e1 e3 k4.no nL nF
    refine store_ok (X := X.suite a ((a, oe) :: (X.pn ++ pins))) (v := .ref a) S hN hi (.inl hl) rfl ?_ (.inr hl)
    intro s5 S5
    refine wpAny_mono ((su a oe cls d (X.pn ++ pins) e2 ⟨vs, e3⟩).run [] s5 _ H (lets i D) S5 (h2 rfl a k.no)) ?_ (fun _ _ z => z.elim)
    intro f s6 z
    have ok := k.inv.ok
    cases f with
    | ret v =>
      obtain ⟨v6, σ6, H6, S6, z1, z2⟩ := z
      exact gone_ok (S6.unsuite ok) hN hi hl fun s7 J7 => ⟨v6, _, H6, J7, z1, z2⟩
    | next => exact match z with | ⟨σ6, H6, S6, z1⟩ => gone_ok (S6.unsuite ok) hN hi hl fun s7 J7 => ⟨_, H6, J7, z1⟩
    | brk => exact match z with | ⟨σ6, H6, S6, z1⟩ => gone_ok (S6.unsuite ok) hN hi hl fun s7 J7 => ⟨_, H6, J7, z1⟩
    | cont => exact match z with | ⟨σ6, H6, S6, z1⟩ => gone_ok (S6.unsuite ok) hN hi hl fun s7 J7 => ⟨_, H6, J7, z1⟩
/-- try: body, then clauses that keep their wish, and an else -/
theorem ps_tryH (hh : Hands X (hd :: hds) wish) (hs : X.stack = X.env :: X.outer) (hf : X.env.frame = some X.env.locals)
    (hb : ∀ (W : WX) (pn : List (Addr × Obj)) (xe : Value → Shared → Prop), Takes (X.tr pn xe) W → PassesOwn (model X.prog X.w) X.A X.env xe → PSs (X.tr pn xe) body (tb W)) (ho : PSs X orelse te) :
    PS X (.Try body (hd :: hds) orelse [] pos) (fun D σ H => tb (wish D) ⟨te D, D.rt, D.bk, D.ct⟩ σ H) := by
  refine ⟨?_⟩
  intro pins s σ H D I h
  have hfr : X.A.frames = some (X.env :: X.outer) := I.ok.frames.trans (congrArg some hs)
  let xe : Value → Shared → Prop := fun e z => wpAny (model X.prog X.w) X.A (noteFrame e X.env) (fun _ z2 => wpAny (model X.prog X.w) X.A (setFlight e none) (fun _ z3 => wpAny (model X.prog X.w) X.A (handleBy e X.env (hd :: hds)) (SP X pins D) X.xe z3) X.xe z2) X.xe z
  have catches : Takes (X.tr (X.pn ++ pins) xe) (wish D) := by
    intro e z w
    obtain ⟨a, G, z0, pins1, σ1, H1, cls, d, rfl, J, w1, w2, w3, w4, w5, w6, w7⟩ := w
    have w3 : Sky G X.stack a (Zc cls d) X.env.locals z.heap := w3
    rw [hs] at w3
    refine Sky.land (M := model X.prog X.w) (A := X.A) (E₁ := X.xe) Zc.steady hfr hf w3 ?_
    intro h3 fl up
    exact hh pins G z0 { z with heap := h3 } a σ1 H1 cls d D ⟨J.ofTry I.ok, w1, w2.trans up, fl, w4, w5, w6⟩ w7
  apply wpAny_Try_except
  refine wpAny_mono ((hb (wish D) (X.pn ++ pins) xe catches PassesOwn.looking).run [] s σ H _ (I.toTry _) h) ?_ (fun _ _ z => z)
  intro f s1 z
  cases f with
  | ret v => exact match z with | ⟨v1, σ1, H1, J, z1, z2⟩ => ⟨v1, σ1, H1, J.ofTry I.ok, z1, z2⟩
  | brk => exact match z with | ⟨σ1, H1, J, z1⟩ => ⟨σ1, H1, J.ofTry I.ok, z1⟩
  | cont => exact match z with | ⟨σ1, H1, J, z1⟩ => ⟨σ1, H1, J.ofTry I.ok, z1⟩
  | next =>
    obtain ⟨σ1, H1, J, z1⟩ := z
    exact ho.run pins s1 σ1 H1 D (J.ofTry I.ok) z1
end

end M

set_option Elab.async false
set_option linter.all false
set_option maxRecDepth 100000
set_option maxHeartbeats 2000000
namespace M
open PySem PySem.Spec PyProof.Rows L2

/-! ### errors with a field -/
theorem oexS_ok {K : PySem.W.Frag} {C : Addr} (h : oexS K C = true) : ∃ nm q N bs bm sn sub ab col dd k0 k1 k2 k3 k5, K.lookup C = some (excClassObj nm q C N bs bm true sn sub ab col dd k0 k1 k2 k3 k5 "ValueError.__new__") ∧ PySem.HandSPX.refsVE bm = true := by
  unfold oexS at h
  split at h
  · rename_i t dd cd sl hl
    split at h
    · rename_i D bm k0 k1 k2 k3 n k5 hm hs
      obtain ⟨h1, h⟩ := He.ba h
      obtain ⟨h2, h⟩ := He.ba h
      obtain ⟨h3, h⟩ := He.ba h
      obtain ⟨h4, h⟩ := He.ba h
      obtain ⟨h5, h6⟩ := He.ba h
      cases of_decide_eq_true h1
      cases of_decide_eq_true h2
      cases of_decide_eq_true h3
      obtain ⟨nm, bs, mr, ns, qn, hd, sn, sub, ab, col, de⟩ := cd
      dsimp only at hm h4 h5
      subst hm
      cases h4
      have h5 : de = false := by cases de <;> first | rfl | cases h5
      subst h5
      obtain ⟨sl⟩ := sl
      have hs : sl = [k0, k1, k2, k3, some (.builtin "ValueError.__new__"), k5] := hs
      subst hs
      exact ⟨nm, qn, ns, bs, bm, sn, sub, ab, col, dd, k0, k1, k2, k3, k5, hl, h6⟩
    · cases h
  · cases h
/-- the class x is an error class with an __init__ of its own, which keeps the field f -/
structure Xc (K : PySem.W.Frag) (x f : Str) : Prop where
  oex : OexC K (He.ga K x)
  xf : XfC K (He.ga K x)
  no : PySem.W.findIn K (.ref (He.ga K x)) f = some none
  ini : PySem.W.findIn K (.ref (He.ga K x)) "__init__" = some (some (.ref (He.ma K (He.ga K x) "__init__")))
  fn : PySem.W.typeIn K (.ref (He.ma K (He.ga K x) "__init__")) = some (.type "function")
theorem oexB_ok {K : PySem.W.Frag} {x f : Str} (h : oexB K x f = true) : Xc K x f := by
  obtain ⟨h1, h⟩ := He.ba h
  obtain ⟨h2, h⟩ := He.ba h
  obtain ⟨h3, h⟩ := He.ba h
  obtain ⟨h4, h⟩ := He.ba h
  obtain ⟨h5, h⟩ := He.ba h
  obtain ⟨h6, h⟩ := He.ba h
  obtain ⟨h7, h⟩ := He.ba h
  obtain ⟨h8, h9⟩ := He.ba h
  exact ⟨⟨oexS_ok h1, He.eqO_ok h2, of_decide_eq_true h3, of_decide_eq_true h4, h5⟩, xfB_ok h6, He.eqO_ok h7, He.eqO_ok h8, of_decide_eq_true h9⟩
section
variable {X : Cx} {x f : Str} {e : Expr} {es : List Expr} {ta : TA} {p1 p2 p pos : Pos}
/-- PastError.__init__(self, ..) -/
theorem pe_pinit {pl : Sem Bool} (hm : X.mg x = some (.ref (He.ga X.K x))) (pn : pinB X.K x = true) (ha : PA X (e :: es) ta) (hg : Gl X x := by rfl) (hdb : (x == ("__debug__" : Str)) = false := by decide)
    (hc : eval (.Call (.Attribute (.Name x p1) "__init__" p2) (e :: es) [] pos) X.env = (do
      let ov ← eval (.Name x p1) X.env
      standAt p2.atName
      let (f, first) ← holding [ov] (getMethod ov "__init__" pl)
      callWith pos f first (backTo pos (starEach (e :: es) X.env)) (backToKw pos (keywordEach [] X.env))) := by rfl)
    (he : starEach (e :: es) X.env = (false, eval e X.env) :: starEach es X.env := by rfl) (hpl : (backTo pos (starEach es X.env)).any (·.1) = false := by rfl) :
    PE X (.Call (.Attribute (.Name x p1) "__init__" p2) (e :: es) [] pos) (tVeI X.K ta) := by
  obtain ⟨h1, pn⟩ := He.ba pn
  obtain ⟨h2, h3⟩ := He.ba pn
  have h3 : PySem.W.findCls X.K (.ref (He.ga X.K x)) (.type "type") "__init__" = some (.val (.builtin "ValueError.__init__")) := by
    split at h3
    · rename_i i hi
      cases of_decide_eq_true h3
      exact hi
    · cases h3
  refine ⟨?_⟩
  intro pins s σ H Q I h
  refine PySem.W.methodCall_KW ?_ hc
  refine ld_glob I hg hm ?_ hdb
  refine PySem.W.method_cls I.kIn (of_decide_eq_true h2) ?_
  refine PySem.W.cls_value I.kIn h1 h3 (by decide +kernel) ?_
  refine PyProof.Rows.callWith_method1 (id := "ValueError.__init__") (thn (ha.run pos pins _ σ H _ (I.tok _) h) ?_) he hpl
  rintro us s1 ⟨vs, H1, I1, r1, a, C, ws, rfl, hl, T, ea, q⟩
  obtain ⟨u0, ur, rfl, ra, rw'⟩ : ∃ u0 ur, us = u0 :: ur ∧ RelV (.ref a) u0 ∧ Vals ws ur := by
    cases r1 with | cons z1 z2 => exact ⟨_, _, rfl, z1, z2⟩
  cases (ra : u0 = Value.ref a)
  refine oinit_ok T I1 ea ?_ fun s2 J => ⟨.non, H1, J, rfl, q⟩
  rw [sizeLine_eq, ← Paired.length rw']
  omega
end
/-- what such an __init__ does -/
def spXi (K : PySem.W.Frag) (x f : Str) : Sp := fun vs H Q _ => ∃ (a : Addr) (v : V), vs = [.ref a, v] ∧ H a = some (exo a (He.ga K x) none) ∧ ∀ dx, H dx = none → dx ≠ a → Q .non (upd (upd H dx (exd dx [(f, v)])) a (exo a (He.ga K x) (some dx)))
/-- the error class x, its __init__ known -/
structure Xi (P : Program) (w : World) (K : PySem.W.Frag) (mg : Str → Option Value) (base : Heap) (k : Nat) (x f : Str) : Prop where
  c : Xc K x f
  g : mg x = some (.ref (He.ga K x))
  ex : ∃ (fd : FuncData) (ps : List Str), FnOk P w K mg base CX0 k (He.ma K (He.ga K x) "__init__") fd ps (spXi K x f) ∧ Binds K fd ps []
section
variable {P : Program} {w : World} {K : PySem.W.Frag} {mg : Str → Option Value} {base : Heap} {x f q : Str} {st : Stmt} {N ps : List Str} {k : Nat}
theorem xi_of (F : ∃ fd, FunD K "__init__" q (defArgs st) (defBody st) (defScope st) [] [] (He.fAd K (x, some "__init__")) fd) (g : mg x = some (.ref (He.ga K x))) (o : oexB K x f = true) (S : FnScope N ps (defScope st)) (hb : BindsH "__init__" q st ps) (two : ps.length = 2)
    (hbody : BodyH P w K mg base q st N k (He.fAd K (x, some "__init__")) (spXi K x f)) : Xi P w K mg base (k + 1) x f := by
  obtain ⟨fd, F⟩ := F
  refine ⟨oexB_ok o, g, fd, ps, fn_d F S ?_ hbody, F.bindsN hb⟩
  rintro vs H Q E ⟨a, v, rfl, _⟩
  exact two.symm
end
/-- what such an __init__ keeps, where an error was just laid -/
theorem xi_made {K : PySem.W.Frag} {x f : Str} {H : Hp} {a : Addr} {v : V} {Q : VK} {E : XK} (g : ∀ d, H d = none → d ≠ a → Q .non (upd (upd H d (exd d [(f, v)])) a (exo a (He.ga K x) (some d)))) : spXi K x f [.ref a, v] (upd H a (exo a (He.ga K x) none)) Q E := by
  refine ⟨a, v, rfl, upd_same, ?_⟩
  intro d hd hne
  have hd2 : H d = none := by rwa [upd_ne hne] at hd
  have e : upd (upd (upd H a (exo a (He.ga K x) none)) d (exd d [(f, v)])) a (exo a (He.ga K x) (some d)) = upd (upd H d (exd d [(f, v)])) a (exo a (He.ga K x) (some d)) := by
    funext b
    by_cases hb : b = a
    · rw [hb, upd_same, upd_same]
    · rw [upd_ne hb, upd_ne hb]
      by_cases hc : b = d
      · rw [hc, upd_same, upd_same]
      · rw [upd_ne hc, upd_ne hc, upd_ne hb]
  rw [e]
  exact g d hd2 hne
/-! ### such an error, raised -/
section
variable {X : Cx} {k j : Nat} {x f : Str} {e : Expr} {te : TE} {p pos : Pos}
/-- raise x(e) -/
theorem pmk_x (c : Xi X.prog X.w X.K X.mg X.base k x f) (hr : Room j X.A) (he : PE X e te) (hs : starEach [e] X.env = (false, eval e X.env) :: starEach [] X.env := by rfl) (hpl : (backTo pos (starEach [] X.env)).any (·.1) = false := by rfl) (hk : k + 1 ≤ j := by decide) (hg : Gl X x := by rfl)
    (hdb : (x == ("__debug__" : Str)) = false := by decide) : PMk X (.Call (.Name x p) [e] [] pos) (tMkO (He.ga X.K x) (spXi X.K x f) [] (tCons te tNil)) := by
  obtain ⟨fd, ps, F, b⟩ := c.ex
  exact pmk_oex (CX := CX0) (p := p) (pos := pos) c.c.oex c.c.ini c.c.fn F (hr.mono hk) b .nil L2.pass0 hg c.g (pa_cons he pa_nil hs) hdb hs hpl
/-- raise x() -/
theorem ps_raise0 {W : WX} {rp : Pos} (K : PySem.W.Frag) (hK : X.K = K) {bmB : List Value} {B newId initId : String} (F : ExcBaseFacts B newId initId bmB) (c : PySem.W.excIn X.K (He.ga X.K x) bmB newId = true ∧ PySem.W.keepIn X.K (.ref (He.ga X.K x)) = true ∧ PySem.W.subIn X.K (.ref (He.ga X.K x)) (.type "BaseException") = some true ∧ PySem.W.typeIn X.K (.ref (He.ga X.K x)) = some (.type "type"))
    (g : X.mg x = some (.ref (He.ga X.K x))) (hc : X.calm = true) (tk : Takes X W) (hg : Gl X x := by rfl) (hdb : (x == ("__debug__" : Str)) = false := by decide) : PS X (.Raise (some (.Call (.Name x p) [] [] pos)) none rp) (fun _ σ H => W (.ref (He.ga K x)) none σ H) := by
  subst hK
  exact ps_raise hc tk (pmk_own0 F c.1 g c.2.1 (raises_own c.2.2.1 c.2.2.2) hg hdb)
/-- .. what is to be shown then -/
theorem xi_raised {K : PySem.W.Frag} {x f : Str} {H : Hp} {v : V} {Q : XK} (g : ∀ d, H d = none → Q (.ref (He.ga K x)) (some d) (upd H d (.xd [(f, v)]))) : [v].length ≤ 1000 ∧ ∀ a, H a = none → spXi K x f (.ref a :: ([v] ++ [])) (upd H a (exo a (He.ga K x) none))
    (fun u H2 => u = .non ∧ ∃ (d : Addr) (fs : List (Str × V)), H2 a = some (exo a (He.ga K x) (some d)) ∧ H2 d = some (exd d fs) ∧ H d = none ∧ Q (.ref (He.ga K x)) (some d) (upd (del H2 a) d (.xd fs))) (fun _ _ _ => False) := by
  refine ⟨by show 1 ≤ 1000; decide, ?_⟩
  intro a ha
  refine xi_made ?_
  intro d hd hne
  refine ⟨rfl, d, [(f, v)], upd_same, ?_, hd, ?_⟩
  · rw [upd_ne hne, upd_same]
  · have e : upd (del (upd (upd H d (exd d [(f, v)])) a (exo a (He.ga K x) (some d))) a) d (.xd [(f, v)]) = upd H d (.xd [(f, v)]) := by
      funext b
      by_cases hb : b = d
      · rw [hb, upd_same, upd_same]
      · rw [upd_ne hb, upd_ne hb]
        by_cases hc : b = a
        · rw [hc, del_same, ha]
        · rw [del_ne hc, upd_ne hc, upd_ne hb]
    rw [e]
    exact g d hd
/-- a reading may be weakened behind the expression -/
def tUp (te : TE) : TE := fun σ H Q => ∃ R : VK, te σ H R ∧ ∀ v H1, R v H1 → Q v H1
theorem pe_up (he : PE X e te) : PE X e (tUp te) := by
  refine ⟨?_⟩
  rintro pins s σ H Q I ⟨R, h, i⟩
  refine wpAny_mono (he.run pins s σ H R I h) ?_ (fun _ _ z => z)
  rintro u s1 ⟨v, H1, J, r, z⟩
  exact ⟨v, H1, J, r, i v H1 z⟩
theorem ps_raiseX {W : WX} {rp : Pos} (K : PySem.W.Frag) (hK : X.K = K) (c : Xi X.prog X.w X.K X.mg X.base k x f) (hc : X.calm = true) (tk : Takes X W) (hr : Room j X.A) (he : PE X e te) (hs : starEach [e] X.env = (false, eval e X.env) :: starEach [] X.env := by rfl) (hpl : (backTo pos (starEach [] X.env)).any (·.1) = false := by rfl) (hk : k + 1 ≤ j := by decide)
    (hg : Gl X x := by rfl) (hdb : (x == ("__debug__" : Str)) = false := by decide) : PS X (.Raise (some (.Call (.Name x p) [e] [] pos)) none rp) (fun _ σ H => te σ H fun v H1 => ∀ d, H1 d = none → W (.ref (He.ga K x)) (some d) σ (upd H1 d (.xd [(f, v)]))) := by
  subst hK
  have r := ps_raise (pos := rp) hc tk (pmk_x (p := p) (pos := pos) c hr (pe_up he) hs hpl hk hg hdb)
  refine ⟨?_⟩
  intro pins s σ H D I h
  refine r.run pins s σ H D I ⟨_, h, ?_⟩
  intro v H1 z
  exact xi_raised (Q := fun cls d H' => W cls d σ H') z
/-- x(e), as a value -/
theorem pe_x (c : Xi X.prog X.w X.K X.mg X.base k x f) (hr : Room j X.A) (he : PE X e te) (hs : starEach [e] X.env = (false, eval e X.env) :: starEach [] X.env := by rfl) (hpl : (backTo pos (starEach [] X.env)).any (·.1) = false := by rfl) (hk : k + 1 ≤ j := by decide) (hg : Gl X x := by rfl)
    (hdb : (x == ("__debug__" : Str)) = false := by decide) :
    PE X (.Call (.Name x p) [e] [] pos) (fun σ H Q => te σ H fun v H1 => ∀ a d, H1 a = none → H1 d = none → d ≠ a → Q (.ref a) (upd (upd H1 d (exd d [(f, v)])) a (exo a (He.ga X.K x) (some d)))) := by
  obtain ⟨fd, ps, F, bd⟩ := c.ex
  obtain ⟨nm, q, N, bs, bm, sn, sub, ab, col, dd, k0, k1, k2, k3, k5, hC, hbm⟩ := c.c.oex.cls
  refine ⟨?_⟩
  intro pins s σ H Q I h
  refine wpAny_Call_Name_kw (ld_glob I hg c.g ?_ hdb)
  refine PySem.W.callWith_K (h₀ := X.base) I.ok.mod.kin c.c.oex.kC ?_ hs hpl
  rw [hs]
  refine Calls.spliced_cons (thn (he.run pins s σ H _ I h) ?_)
  rintro u s1 ⟨v, H1, I1, r1, q1⟩
  refine Calls.spliced_nil ⟨I1.kIn, ?_⟩
  show wpAny _ _ (call (.ref (He.ga X.K x)) [u]) _ _ _
  obtain ⟨hp, g, dr, tk, os⟩ := s1
  let h2 := (hp.push (PySem.W.kdv_tup [u])).push (PySem.HandSPX.excO (He.ga X.K x) hp.objs.size)
  have le : hp.objs.size ≤ hp.objs.size + 1 := Nat.le_succ _
  have kk : ∀ b o, hp.get? b = some o → h2.get? b = some o := by
    intro b o e
    exact Heap.get?_push_of_some _ (Heap.get?_push_of_some _ e)
  have hget : h2.get? (hp.objs.size + 1) = some (PySem.HandSPX.excO (He.ga X.K x) hp.objs.size) := by
    show ((hp.push (PySem.W.kdv_tup [u])).push (PySem.HandSPX.excO (He.ga X.K x) hp.objs.size)).get? (hp.objs.size + 1) = _
    heap_get
  have I2 : Inv X pins σ (upd H1 (hp.objs.size + 1) (exo (hp.objs.size + 1) (He.ga X.K x) none)) ⟨h2, g, dr, tk, os⟩ := I1.laid (t' := tk) kk le (exo_ok hget)
  have rv : Vals [V.ref (hp.objs.size + 1), v] [Value.ref (hp.objs.size + 1), u] := .cons rfl (.cons r1 .nil)
  have want : spXi X.K x f [V.ref (hp.objs.size + 1), v] (upd H1 (hp.objs.size + 1) (exo (hp.objs.size + 1) (He.ga X.K x) none)) (fun z H2 => z = .non ∧ Q (.ref (hp.objs.size + 1)) H2) (fun _ _ _ => False) :=
    xi_made fun d hd hne => ⟨rfl, q1 _ d (I1.hok.fresh le) hd hne⟩
  have two : [Value.ref (hp.objs.size + 1), u].length = ps.length := by
    rw [← rv.length]
    exact F.len _ _ _ _ want
  have b2 := bd ⟨h2, g, dr, tk, os⟩ [Value.ref (hp.objs.size + 1), u] I2.kIn (by rw [List.append_nil]; exact two)
  rw [List.append_nil] at b2
  refine wpAny_call (PySem.HandSPX.call_own PySem.F.excBase_ValueError (fun Y => PySem.HandSPX.refsVE_contains Y bm hbm) (I1.kIn _ _ hC) (PySem.W.looks_findIn I1.kIn c.c.ini) (fun self => PySem.W.bind_fn I1.kIn self c.c.fn) (by rw [sizeLine_eq]; show 1 ≤ 16777216; decide) ?_)
  refine codeAny_mono (F.run _ X.stack _ _ ⟨[Value.ref (hp.objs.size + 1), u], []⟩ _ _ _ (fun _ _ _ => False) ((hr.mono hk).make (He.ga X.K x) [u] []) (I2.env0.make (He.ga X.K x) [u] []) b2 rv want) ?_
  intro r s3 z
  cases r with
  | error er => exact z.elim
  | ok fl =>
    cases fl with
    | ret y =>
      obtain ⟨v4, H4, J, r4, e4, q4⟩ := I2.after z
      subst e4
      cases (r4 : y = Value.none)
      exact ⟨rfl, .ref (hp.objs.size + 1), H4, J, rfl, q4⟩
    | next => exact z.elim
    | brk => exact z.elim
    | cont => exact z.elim
end

end M

set_option Elab.async false
set_option linter.all false
set_option maxRecDepth 100000
set_option maxHeartbeats 2000000
namespace M
open PySem PySem.Spec PyProof.Rows L2

/-! ### what the law draws -/
def PoolAt (H : Hp) (a : Addr) : Prop := ∃ g s n : Int, H a = some (.lst [.int g, .int s, .int n]) ∧ 0 ≤ g ∧ (0 ≤ s ∧ s < 1099511627776) ∧ 0 ≤ n
section
variable {P : Program} {w : World} {K : PySem.W.Frag} {mg : Str → Option Value} {base : Heap}
def spPool (K : PySem.W.Frag) : Sp := fun vs H Q _ => ∃ (a : Addr) (ns : List Int) (k : Int), vs = [.ref a, .int k] ∧ SqL K H a (ns.map .int) ∧ ns.length ≤ 63 ∧ (0 ≤ k ∧ k ≤ 63) ∧ ∀ (p : Addr) (H' : Hp), Same H H' → H p = none → PoolAt H' p → Q (.ref p) H'
theorem ca_l_pool (T : Txt w K mg) : Ca P w K mg base 1 "_law_pool" (spPool K) := by
  refine ca_of (N := ["_law_script", "_law_k", "_law_cell", "_law_seed"]) (ps := ["_law_script", "_law_k"]) T.f_l_pool T.g_law_pool ⟨rfl, rfl, rfl, by decide +kernel, rfl, by decide +kernel, by decide +kernel⟩ (fun _ _ _ _ _ _ us hl => match us, hl with | [_, _], _ => rfl)
    (fun vs H Q E h => by obtain ⟨a, ns, k, rfl, ha, hl, hk, q⟩ := h; rfl) (fun cdv A outer s H vs Q E hr h => ?_)
  have nd : (["_law_script", "_law_k", "_law_cell", "_law_seed"] : List Str).Nodup := by decide +kernel
  obtain ⟨a, ns, k, rfl, ha, hl, hk, q⟩ := h
  refine ⟨_, (pss_cons (ps_if (pt_cmpR op_eq (pe_callB call_len_seq (by rfl) T.b_len PySem.boot_len (pa_cons (pv 0) pa_nil)) pe_int (nomark _)) (pss_one (ps_ret (pe_lst (pa_cons pe_int (pa_cons (pe_op op_add pe_int (pe_op op_mul pe_int (pv 1))) (pa_cons pe_int pa_nil)))))) pss_nil)
      (pss_cons (ps_set (i := 2) nd rfl (.inl rfl) (pe_callB call_abs (by rfl) T.b_abs boot_abs (pa_cons (pe_ix ix_list (pv 0) (pe_op op_mod (pv 1) (pe_callB call_len_seq (by rfl) T.b_len PySem.boot_len (pa_cons (pv 0) pa_nil))) (fun _ _ => rfl)) pa_nil)))
      (pss_cons (ps_set (i := 3) nd rfl (.inl rfl) (pe_op op_add (pe_op op_add (pe_op op_mod (pe_callTy call_int1 (by rfl) T.b_int boot_int (pa_cons (pv 2) pa_nil)) pe_int) (pe_op op_mul pe_int (pv 1))) (pe_callTy call_int1 (by rfl) T.b_int boot_int (pa_cons (pe_cmpR op_lt (pe_ix ix_list (pv 0) (pe_op op_mod (pv 1) (pe_callB call_len_seq (by rfl) T.b_len PySem.boot_len (pa_cons (pv 0) pa_nil))) (fun _ _ => rfl)) pe_int (nomark _)) pa_nil))))
      (pss_cons (ps_if (PW.pt (pw_and (pt_cmpR op_lt (pv 1) (pe_callB call_len_seq (by rfl) T.b_len PySem.boot_len (pa_cons (pv 0) pa_nil)) (nomark _)) (pw_and1 (pt_cmpR op_ge (pv 2) (pe_op op_pow pe_int pe_int) (nomark _))))) (pss_one (ps_ret (pe_lst (pa_cons (pv 2) (pa_cons (pv 3) (pa_cons pe_int pa_nil)))))) pss_nil)
      (pss_one (ps_ret (pe_lst (pa_cons pe_int (pa_cons (pv 3) (pa_cons pe_int pa_nil)))))))))), ?_⟩
  refine ⟨_, rfl, _, _, rfl, .inl ha, rfl, _, rfl, ?_⟩
  by_cases c : ns.length = 0
  · rw [decide_eq_true (show V.int ((ns.map V.int).length : Nat) = V.int 0 from by rw [List.length_map, c]; rfl)]
    refine iteT ⟨_, rfl, _, _, rfl, rfl, .inl (by decide), _, _, rfl, rfl, (by show 3 ≤ sizeLine; decide), fun p np => ?_⟩
    exact q p _ (same_new np) np ⟨_, _, _, upd_same, by decide, by omega, by decide⟩
  · rw [decide_eq_false (show ¬ V.int ((ns.map V.int).length : Nat) = V.int 0 from fun z => c (by have := V.int.inj z; rw [List.length_map] at this; omega))]
    refine iteF ?_
    have hm0 := Int.emod_nonneg k (show ((ns.map V.int).length : Int) ≠ 0 by rw [List.length_map]; omega)
    have hm1 := Int.emod_lt_of_pos k (show (0 : Int) < ((ns.map V.int).length : Nat) by rw [List.length_map]; omega)
    have hat := atK (l := ns) hm0 hm1 (by rw [List.length_map])
    generalize ns.getD (k % ((ns.map V.int).length : Nat)).toNat 0 = x at hat
    have pos : (fun (_ j : Int) => 0 < j) k ((ns.map V.int).length : Nat) := by show (0 : Int) < ((ns.map V.int).length : Nat); rw [List.length_map]; omega
    refine ⟨_, rfl, _, rfl, _, rfl, _, _, rfl, .inl ha, _, _, rfl, rfl, pos, _, _, _, _, rfl, rfl, ha, hat, _, rfl, ?_⟩
    have hx : 0 ≤ (if x < 0 then -x else x) := by split <;> omega
    generalize (if x < 0 then -x else x) = z at hx
    refine ⟨_, rfl, .inl ⟨_, rfl, _, _, rfl, rfl, (by show (0 : Int) < 2147483629; decide), _, rfl, _, _, rfl, rfl, .inl (by decide), _, _, rfl, rfl, ?_⟩⟩
    refine ⟨_, rfl, _, rfl, _, rfl, _, _, rfl, .inl ha, _, _, rfl, rfl, pos, _, _, _, _, rfl, rfl, ha, hat, _, _, rfl, rfl, .inr ⟨_, rfl, _, _, rfl, rfl, ?_⟩⟩
    have s0 : 0 ≤ (if decide (x < 0) = true then (1 : Int) else 0) ∧ (if decide (x < 0) = true then (1 : Int) else 0) ≤ 1 := by split <;> omega
    have z0 := Int.emod_nonneg z (show (2147483629 : Int) ≠ 0 by decide)
    have z1 := Int.emod_lt_of_pos z (show (0 : Int) < 2147483629 by decide)
    have sb : 0 ≤ z % 2147483629 + 1009 * k + (if decide (x < 0) = true then (1 : Int) else 0) ∧ z % 2147483629 + 1009 * k + (if decide (x < 0) = true then (1 : Int) else 0) < 1099511627776 := by omega
    refine ⟨_, rfl, _, rfl, _, _, rfl, .inl ha, _, _, rfl, rfl, _, rfl, ?_⟩
    have no : ∀ p, H p = none → Q (.ref p) (upd H p (.lst [.int 0, .int (z % 2147483629 + 1009 * k + (if decide (x < 0) = true then (1 : Int) else 0)), .int 0])) := fun p np => q p _ (same_new np) np ⟨_, _, _, upd_same, by decide, sb, by decide⟩
    by_cases c1 : k < ((ns.map V.int).length : Nat)
    · rw [decide_eq_true c1]
      refine iteT ⟨_, rfl, _, _, rfl, rfl, ⟨by decide, by decide, by decide⟩, _, _, rfl, rfl, _, rfl, ?_⟩
      by_cases c2 : (10 ^ (18 : Int).toNat : Int) ≤ z
      · rw [decide_eq_true c2]
        refine iteT ⟨_, rfl, _, rfl, (by show 3 ≤ sizeLine; decide), fun p np => ?_⟩
        exact q p _ (same_new np) np ⟨_, _, _, upd_same, hx, sb, by decide⟩
      · rw [decide_eq_false c2]
        exact iteF ⟨_, rfl, (by show 3 ≤ sizeLine; decide), no⟩
    · rw [decide_eq_false c1]
      exact iteF ⟨_, rfl, (by show 3 ≤ sizeLine; decide), no⟩
def spDraw : Sp := fun vs H Q _ => ∃ (a : Addr) (m : Int), vs = [.ref a, .int m] ∧ PoolAt H a ∧ (1 ≤ m ∧ m ≤ 1000000000) ∧ ∀ (i : Int) (H' : Hp), But a H H' → PoolAt H' a → (0 ≤ i ∧ i < m) → Q (.int i) H'
theorem ca_l_draw (T : Txt w K mg) : Ca P w K mg base 1 "_law_draw" (spDraw) := by
  refine ca_of (N := ["_law_pool_here", "_law_many", "_law_digit", "_law_number"]) (ps := ["_law_pool_here", "_law_many"]) T.f_l_draw T.g_law_draw ⟨rfl, rfl, rfl, by decide +kernel, rfl, by decide +kernel, by decide +kernel⟩ (fun _ _ _ _ _ _ us hl => match us, hl with | [_, _], _ => rfl)
    (fun vs H Q E h => by obtain ⟨a, m, rfl, ⟨g, sd, n, hp, hg, hs, hn⟩, hm, q⟩ := h; rfl) (fun cdv A outer s H vs Q E hr h => ?_)
  have nd : (["_law_pool_here", "_law_many", "_law_digit", "_law_number"] : List Str).Nodup := by decide +kernel
  obtain ⟨a, m, rfl, ⟨g, sd, n, hp, hg, hs, hn⟩, hm, q⟩ := h
  refine ⟨_, (pss_cons (ps_if (pt_cmpR op_gt (pe_ix ix_list (pv 0) pe_int (fun _ _ => rfl)) pe_int (nomark _)) (pss_cons (ps_set (i := 2) nd rfl (.inl rfl) (pe_op op_mod (pe_callTy call_int1 (by rfl) T.b_int boot_int (pa_cons (pe_ix ix_list (pv 0) pe_int (fun _ _ => rfl)) pa_nil)) (pv 1)))
      (pss_cons (ps_asg (pe_op op_fdiv (pe_ix ix_list (pv 0) pe_int (fun _ _ => rfl)) (pv 1)) (pg_sub (pv 0) pe_int set_list))
      (pss_one (ps_ret (pv 2))))) pss_nil)
      (pss_cons (ps_asg (pe_op op_add (pe_ix ix_list (pv 0) pe_int (fun _ _ => rfl)) pe_int) (pg_sub (pv 0) pe_int set_list))
      (pss_cons (ps_set (i := 3) nd rfl (.inl rfl) (pe_op op_mod (pe_callTy call_int1 (by rfl) T.b_int boot_int (pa_cons (pe_op op_mul (pe_op op_add (pe_ix ix_list (pv 0) pe_int (fun _ _ => rfl)) pe_int) (pe_op op_add (pe_op op_mul pe_int (pe_ix ix_list (pv 0) pe_int (fun _ _ => rfl))) pe_int)) pa_nil)) pe_int))
      (pss_cons (ps_set (i := 3) nd rfl (.inl rfl) (pe_op op_mod (pe_callTy call_int1 (by rfl) T.b_int boot_int (pa_cons (pe_op op_mul (pv 3) (pe_op op_add (pe_op op_fdiv (pv 3) pe_int) pe_int)) pa_nil)) pe_int))
      (pss_cons (ps_set (i := 3) nd rfl (.inl rfl) (pe_op op_mod (pe_callTy call_int1 (by rfl) T.b_int boot_int (pa_cons (pe_op op_mul (pv 3) (pe_op op_add (pe_op op_fdiv (pv 3) pe_int) pe_int)) pa_nil)) pe_int))
      (pss_one (ps_ret (pe_op op_mod (pe_callTy call_int1 (by rfl) T.b_int boot_int (pa_cons (pe_op op_fdiv (pv 3) pe_int) pa_nil)) (pv 1))))))))), ?_⟩
  have hsq : SqL K H a [.int g, .int sd, .int n] := .of hp
  refine ⟨_, rfl, _, _, _, _, rfl, rfl, hsq, at0, _, _, rfl, rfl, _, rfl, ?_⟩
  by_cases c : (0 : Int) < g
  · rw [decide_eq_true c]
    refine iteT ?_
    refine ⟨_, rfl, _, _, _, _, rfl, rfl, hsq, at0, .inl ⟨_, rfl, _, rfl, _, _, rfl, rfl, (by show (0 : Int) < m; omega), ?_⟩⟩
    refine ⟨_, rfl, _, _, _, _, rfl, rfl, hsq, at0, _, rfl, _, _, rfl, rfl, ⟨(by show (0 : Int) < m; omega), (by show m < 1073741824; omega)⟩, ?_⟩
    refine ⟨_, rfl, a, _, _, 0, rfl, rfl, hp, rfl, ?_⟩
    refine ⟨_, rfl, q _ _ But.upd ⟨g / m, sd, n, upd_same, Int.ediv_nonneg (by omega) (by omega), hs, hn⟩ ⟨Int.emod_nonneg _ (by omega), Int.emod_lt_of_pos _ (by omega)⟩⟩
  · rw [decide_eq_false c]
    refine iteF ?_
    refine ⟨_, rfl, _, _, _, _, rfl, rfl, hsq, at2, _, _, rfl, rfl, _, rfl, a, _, _, 2, rfl, rfl, hp, rfl, ?_⟩
    have hp2 : upd H a (.lst (([.int g, .int sd, .int n] : List V).set 2 (.int (n + 1)))) a = some (.lst [.int g, .int sd, .int (n + 1)]) := upd_same
    have b2 : But a H (upd H a (.lst (([.int g, .int sd, .int n] : List V).set 2 (.int (n + 1))))) := But.upd
    have hsq2 : SqL K _ a [.int g, .int sd, .int (n + 1)] := .of hp2
    have md : ∀ (u : Int), (fun (_ j : Int) => 0 < j) u m := fun u => by show (0 : Int) < m; omega
    refine ⟨_, rfl, _, _, _, _, rfl, rfl, hsq2, at1, _, _, rfl, rfl, _, rfl, _, _, _, _, rfl, rfl, hsq2, at2, _, _, rfl, rfl, .inl (by decide), _, _, rfl, rfl, _, _, rfl, rfl, .inl ?_, .inl ⟨_, rfl, _, _, rfl, rfl, (by show (0 : Int) < 2147483647; decide), ?_⟩⟩
    · show -(2 ^ 64) < sd + 1 ∧ sd + 1 < 2 ^ 64
      omega
    have mb : ∀ u : Int, -(2 ^ 64) < u % 2147483647 ∧ u % 2147483647 < 2 ^ 64 := fun u => by
      have h0 := Int.emod_nonneg u (show (2147483647 : Int) ≠ 0 by decide)
      have h1 := Int.emod_lt_of_pos u (show (0 : Int) < 2147483647 by decide)
      omega
    refine ⟨_, rfl, _, rfl, _, _, rfl, rfl, ⟨(by show (0 : Int) < 1009; decide), (by show (1009 : Int) < 1073741824; decide)⟩, _, _, rfl, rfl, _, _, rfl, rfl, .inl (by constructor <;> omega), .inl ⟨_, rfl, _, _, rfl, rfl, (by show (0 : Int) < 2147483647; decide), ?_⟩⟩
    refine ⟨_, rfl, _, rfl, _, _, rfl, rfl, ⟨(by show (0 : Int) < 2003; decide), (by show (2003 : Int) < 1073741824; decide)⟩, _, _, rfl, rfl, _, _, rfl, rfl, .inl (by constructor <;> omega), .inl ⟨_, rfl, _, _, rfl, rfl, (by show (0 : Int) < 2147483399; decide), ?_⟩⟩
    refine ⟨_, rfl, _, _, rfl, rfl, ⟨(by show (0 : Int) < 16; decide), (by show (16 : Int) < 1073741824; decide)⟩, .inl ⟨_, rfl, _, rfl, _, _, rfl, rfl, (by show (0 : Int) < m; omega), ?_⟩⟩
    exact q _ _ b2 ⟨g, sd, n + 1, hp2, hg, hs, by omega⟩ ⟨Int.emod_nonneg _ (by omega), Int.emod_lt_of_pos _ (by omega)⟩
end

end M

set_option Elab.async false
set_option linter.all false
set_option maxRecDepth 100000
set_option maxHeartbeats 2000000
namespace M
open PySem PySem.Spec PyProof.Rows L2

theorem let5 {i : Int} (h : 0 ≤ i ∧ i < 5) : ∃ c, atI ("abcdx" : Str).cps.toList i = some c ∧ (⟨#[c]⟩ : Str) ∈ regs5 := by
  have : i = 0 ∨ i = 1 ∨ i = 2 ∨ i = 3 ∨ i = 4 := by omega
  rcases this with rfl | rfl | rfl | rfl | rfl
  · exact ⟨97, by decide +kernel, by decide +kernel⟩
  · exact ⟨98, by decide +kernel, by decide +kernel⟩
  · exact ⟨99, by decide +kernel, by decide +kernel⟩
  · exact ⟨100, by decide +kernel, by decide +kernel⟩
  · exact ⟨120, by decide +kernel, by decide +kernel⟩
theorem let4 {i : Int} (h : 0 ≤ i ∧ i < 4) : ∃ c, atI ("abcd" : Str).cps.toList i = some c ∧ (⟨#[c]⟩ : Str) ∈ regs4 := by
  have : i = 0 ∨ i = 1 ∨ i = 2 ∨ i = 3 := by omega
  rcases this with rfl | rfl | rfl | rfl
  · exact ⟨97, by decide +kernel, by decide +kernel⟩
  · exact ⟨98, by decide +kernel, by decide +kernel⟩
  · exact ⟨99, by decide +kernel, by decide +kernel⟩
  · exact ⟨100, by decide +kernel, by decide +kernel⟩
theorem sgn5 {i : Int} (h : 0 ≤ i ∧ i < 5) : ∃ c, atI ("+-*=<" : Str).cps.toList i = some c ∧ (⟨#[c]⟩ : Str) ∈ signs := by
  have : i = 0 ∨ i = 1 ∨ i = 2 ∨ i = 3 ∨ i = 4 := by omega
  rcases this with rfl | rfl | rfl | rfl | rfl
  · exact ⟨43, by decide +kernel, by decide +kernel⟩
  · exact ⟨45, by decide +kernel, by decide +kernel⟩
  · exact ⟨42, by decide +kernel, by decide +kernel⟩
  · exact ⟨61, by decide +kernel, by decide +kernel⟩
  · exact ⟨60, by decide +kernel, by decide +kernel⟩
theorem PoolAt.ch {H : Hp} {a : Addr} (h : PoolAt H a) : Ch H a := by
  obtain ⟨_, _, _, h, _⟩ := h
  exact .lst h
theorem PoolAt.same {H H' : Hp} {a : Addr} (s : Same H H') (h : PoolAt H a) : PoolAt H' a := by
  obtain ⟨_, _, _, h, r⟩ := h
  exact ⟨_, _, _, s _ _ h, r⟩
theorem PoolAt.at {H : Hp} {a : Addr} (h : PoolAt H a) : ∃ l, H a = some (.lst l) := by
  obtain ⟨_, _, _, h, _⟩ := h
  exact ⟨_, h⟩
section
variable {P : Program} {w : World} {K : PySem.W.Frag} {mg : Str → Option Value} {base : Heap}
def spLE (K : PySem.W.Frag) (n : Nat) : Sp := fun vs H Q _ => ∃ (a : Addr) (k : Nat), vs = [.ref a, .int (k : Int)] ∧ PoolAt H a ∧ k < n ∧ ∀ (v : V) (e : Exp) (H' : Hp), But a H H' → PoolAt H' a → e.ok → e.dep ≤ k → Dp K H' v e.d → Q v H'
theorem ca_l_e : ∀ (n : Nat) (T : Txt w K mg), Ca P w K mg base (n + 2) "_law_e" (spLE K n)
  | 0, T => by
    refine ca_of (N := ["_law_pool_here", "_law_depth", "_law_kind", "_law_sign", "_law_left"]) (ps := ["_law_pool_here", "_law_depth"]) T.f_l_e T.g_law_e ⟨rfl, rfl, rfl, by decide +kernel, rfl, by decide +kernel, by decide +kernel⟩ (fun _ _ _ _ _ _ us hl => match us, hl with | [_, _], _ => rfl)
      (fun vs H Q E h => by obtain ⟨a, k, rfl, hp, hk, q⟩ := h; rfl) (fun cdv A outer s H vs Q E hr h => ?_)
    have nd : (["_law_pool_here", "_law_depth", "_law_kind", "_law_sign", "_law_left"] : List Str).Nodup := by decide +kernel
    obtain ⟨a, k, rfl, hp, hk, q⟩ := h
    omega
  | n + 1, T => by
    refine ca_of (N := ["_law_pool_here", "_law_depth", "_law_kind", "_law_sign", "_law_left"]) (ps := ["_law_pool_here", "_law_depth"]) T.f_l_e T.g_law_e ⟨rfl, rfl, rfl, by decide +kernel, rfl, by decide +kernel, by decide +kernel⟩ (fun _ _ _ _ _ _ us hl => match us, hl with | [_, _], _ => rfl)
      (fun vs H Q E h => by obtain ⟨a, k, rfl, hp, hk, q⟩ := h; rfl) (fun cdv A outer s H vs Q E hr h => ?_)
    have nd : (["_law_pool_here", "_law_depth", "_law_kind", "_law_sign", "_law_left"] : List Str).Nodup := by decide +kernel
    obtain ⟨a, k, rfl, hp, hk, q⟩ := h
    refine ⟨_, (pss_cons (ps_set (i := 2) nd rfl (.inl rfl) (pe_ca (ca_l_draw T) hr (pa_cons (pv 0) (pa_cons pe_int pa_nil)) (by omega)))
      (pss_cons (ps_if (PW.pt (pw_or (pt_cmpR op_eq (pv 2) pe_int (nomark _)) (pw_or1 (PW.pt (pw_and (pt_cmpR op_eq (pv 2) pe_int (nomark _)) (pw_and1 (pt_cmpR op_eq (pv 1) pe_int (nomark _)))))))) (pss_one (ps_ret (pe_ca (ca_l_draw T) hr (pa_cons (pv 0) (pa_cons pe_int pa_nil)) (by omega)))) pss_nil)
      (pss_cons (ps_if (pt_cmpR op_lt (pv 2) pe_int (nomark _)) (pss_one (ps_ret (pe_ix ix_str pe_str (pe_ca (ca_l_draw T) hr (pa_cons (pv 0) (pa_cons pe_int pa_nil)) (by omega)) (fun _ _ => rfl)))) pss_nil)
      (pss_cons (ps_set (i := 3) nd rfl (.inl rfl) (pe_ix ix_str pe_str (pe_ca (ca_l_draw T) hr (pa_cons (pv 0) (pa_cons pe_int pa_nil)) (by omega)) (fun _ _ => rfl)))
      (pss_cons (ps_set (i := 4) nd rfl (.inl rfl) (pe_ca (ca_l_e n T) hr (pa_cons (pv 0) (pa_cons (pe_op op_sub (pv 1) pe_int) pa_nil)) (by omega)))
      (pss_one (ps_ret (pe_tup (pa_cons (pv 3) (pa_cons (pv 4) (pa_cons (pe_ca (ca_l_e n T) hr (pa_cons (pv 0) (pa_cons (pe_op op_sub (pv 1) pe_int) pa_nil)) (by omega)) pa_nil))))))))))), ?_⟩
    refine ⟨_, rfl, a, 4, rfl, hp, by omega, fun i H1 b1 p1 hi => ?_⟩
    have num : ∀ (j : Int) (H2 : Hp), But a H1 H2 → PoolAt H2 a → (0 ≤ j ∧ j < 10) → Q (.int j) H2 := fun j H2 b2 p2 hj => q _ (.num j) H2 (b1.trans b2) p2 (by show 0 ≤ j ∧ j ≤ 9; omega) (Nat.zero_le _) (.int j)
    refine ⟨_, rfl, rfl, _, rfl, ?_⟩
    by_cases c0 : i = 0
    · rw [decide_eq_true (show V.int i = V.int 0 from congrArg V.int c0)]
      exact iteT ⟨_, rfl, a, 10, rfl, p1, by omega, num⟩
    · rw [decide_eq_false (show ¬ V.int i = V.int 0 from fun z => c0 (V.int.inj z))]
      refine iteF ⟨_, rfl, rfl, _, rfl, ?_⟩
      by_cases c3 : i = 3
      · rw [decide_eq_true (show V.int i = V.int 3 from congrArg V.int c3)]
        refine iteT ⟨_, rfl, rfl, _, rfl, ?_⟩
        by_cases ck : k = 0
        · rw [decide_eq_true (show V.int (k : Int) = V.int 0 from by rw [ck]; rfl)]
          exact iteT ⟨_, rfl, a, 10, rfl, p1, by omega, num⟩
        · rw [decide_eq_false (show ¬ V.int (k : Int) = V.int 0 from fun z => ck (by have := V.int.inj z; omega))]
          refine iteF ⟨_, rfl, _, _, rfl, rfl, _, rfl, ?_⟩
          rw [decide_eq_false (show ¬ i < 3 by omega)]
          refine iteF ⟨_, rfl, a, 5, rfl, p1, by omega, fun j H2 b2 p2 hj => ?_⟩
          obtain ⟨cd, hcd, hsg⟩ := sgn5 hj
          refine ⟨_, j, cd, rfl, rfl, (by decide +kernel), hcd, ?_⟩
          have ek : ((k : Nat) : Int) - 1 = ((k - 1 : Nat) : Int) := by omega
          refine ⟨_, rfl, _, rfl, _, _, rfl, rfl, a, k - 1, by rw [← ek]; rfl, p2, by omega, fun v1 e1 H3 b3 p3 o1 d1 y1 => ?_⟩
          refine ⟨_, rfl, _, rfl, _, rfl, _, rfl, _, _, rfl, rfl, a, k - 1, by rw [← ek]; rfl, p3, by omega, fun v2 e2 H4 b4 p4 o2 d2 y2 => ?_⟩
          refine ⟨(by show 3 ≤ sizeLine; decide), fun t nt => ?_⟩
          have s5 : Same H4 (upd H4 t (.tup [.str ⟨#[cd]⟩, v1, v2])) := same_new nt
          refine q _ (.op ⟨#[cd]⟩ e1 e2) _ ((((b1.trans b2).trans b3).trans b4).trans (same_but s5)) (p4.same s5) ⟨hsg, o1, o2⟩ ?_ (.tup (.of upd_same) (.cons (.str _) (.cons (dp_same s5 (dp_but p3.ch b4 y1 e1.noL)) (.cons (dp_same s5 y2) .nil))))
          show Nat.max e1.dep e2.dep + 1 ≤ k
          have := Nat.max_le.mpr ⟨d1, d2⟩
          have : Nat.max e1.dep e2.dep ≤ k - 1 := this
          omega
      · rw [decide_eq_false (show ¬ V.int i = V.int 3 from fun z => c3 (V.int.inj z))]
        refine iteF ⟨_, rfl, _, _, rfl, rfl, _, rfl, ?_⟩
        rw [decide_eq_true (show i < 3 by omega)]
        refine iteT ⟨_, rfl, a, 5, rfl, p1, by omega, fun j H2 b2 p2 hj => ?_⟩
        obtain ⟨cd, hcd, hsg⟩ := let5 hj
        exact ⟨_, j, cd, rfl, rfl, (by decide +kernel), hcd, q _ (.reg ⟨#[cd]⟩) H2 (b1.trans b2) p2 hsg (Nat.zero_le _) (.str _)⟩
end

end M

set_option Elab.async false
set_option linter.all false
set_option maxRecDepth 100000
set_option maxHeartbeats 2000000
namespace M
open PySem PySem.Spec PyProof.Rows L2

section
variable {P : Program} {w : World} {K : PySem.W.Frag} {mg : Str → Option Value} {base : Heap}
def spShape (K : PySem.W.Frag) : Sp := fun vs H Q _ => ∃ (p : Addr) (v : Vlt), vs = [.ref p] ∧ VaultAt K H p v ∧ ∀ (t : Addr) (x d : V) (H' : Hp), Same H H' → H' t = some (.tup [x, d]) → Dp K H' x (.tuple (v.cells.map cellD)) → Dp K H' d (.tuple (v.deeds.map deedD)) → Q (.ref t) H'
theorem me_Vault_shape (T : Txt w K mg) : Me P w K mg base 1 (He.ga K "Vault") "shape" (spShape K) := by
  refine me_of (N := ["self"]) (ps := ["self"]) T.f_Vault_shape T.c_Vault T.m_Vault_shape ⟨rfl, rfl, rfl, by decide +kernel, rfl, by decide +kernel, by decide +kernel⟩ (fun _ _ _ _ _ _ us hl => match us, hl with | [_], _ => rfl)
    (fun vs H Q E h => by obtain ⟨p, v, rfl, hv, q⟩ := h; rfl) (fun cdv A outer s H vs Q E hr h => ?_)
  have nd : (["self"] : List Str).Nodup := by decide +kernel
  obtain ⟨p, v, rfl, hv, q⟩ := h
  obtain ⟨dx, a, d, c, b, kvs, h1, h2, h3, h4, h5⟩ := hv.ob
  refine ⟨_, pss_one (ps_ret (pe_tup (pa_cons (pe_fld (pv 0) rfl) (pa_cons (pe_fld (pv 0) rfl) pa_nil)))), ?_⟩
  refine ⟨_, rfl, p, _, _, _, _, rfl, h1, T.c_Vault, T.n_Vault_cells, vf_cells .., _, rfl, p, _, _, _, _, rfl, h1, T.c_Vault, T.n_Vault_deeds, vf_deeds .., (by show 2 ≤ sizeLine; decide), fun t nt => ?_⟩
  exact q t _ _ _ (same_new nt) upd_same (dp_same (same_new nt) h2) (dp_same (same_new nt) h3)
end

end M

set_option Elab.async false
set_option linter.all false
set_option maxRecDepth 100000
set_option maxHeartbeats 2000000
namespace M
open PySem PySem.Spec PyProof.Rows L2

/-- the vault's own word on coins -/
def FlagAt (K : PySem.W.Frag) (H : Hp) (p : Addr) (v : Vlt) : Prop := ∃ dx a d c : Addr, H p = some (.ins (He.ga K "Vault") dx (vflds a d c (hasW v.deeds "coin")))
theorem FlagAt.same {K : PySem.W.Frag} {H H' : Hp} {p : Addr} {v : Vlt} (s : Same H H') (h : FlagAt K H p v) : FlagAt K H' p v := by
  obtain ⟨dx, a, d, c, e⟩ := h
  exact ⟨dx, a, d, c, s _ _ e⟩
namespace F
section
variable {P : Program} {w : World} {K : PySem.W.Frag} {mg : Str → Option Value} {base : Heap}
def spVault (K : PySem.W.Frag) : Sp := fun vs H Q _ => ∃ (p dx a b : Addr) (xs ys : List V) (v : Vlt), vs = [.ref p, .ref a, .ref b] ∧ H p = some (.ins (He.ga K "Vault") dx []) ∧ SqL K H a xs ∧ DpAll K H xs (v.cells.map cellD) ∧ SqL K H b ys ∧ DpAll K H ys (v.deeds.map deedD) ∧ VGood v ∧ ∀ H', But p H H' → VaultAt K H' p v → FlagAt K H' p v → Q .non H'
theorem ma_Vault (T : Txt w K mg) : Ma P w K mg base 53 "Vault" (He.ga K "Vault") (spVault K) := by
  refine ma_of (N := ["self", "cells", "deeds", "name", "_", "body"]) (ps := ["self", "cells", "deeds"]) T.f_Vault_init T.g_Vault T.k_Vault ⟨rfl, rfl, rfl, by decide +kernel, rfl, by decide +kernel, by decide +kernel⟩ (fun _ _ _ _ _ _ us hl => match us, hl with | [_, _, _], _ => rfl)
    (fun vs H Q E h => by obtain ⟨p, dx, a, b, xs, ys, v, rfl, hp, ha, hxs, hb, hys, g, q⟩ := h; rfl) (fun cdv A outer s H vs Q E hr h => ?_)
  have nd : (["self", "cells", "deeds", "name", "_", "body"] : List Str).Nodup := by decide +kernel
  obtain ⟨p, dx, a, b, xs, ys, v, rfl, hp, ha, hxs, hb, hys, g, q⟩ := h
  refine ⟨_, (pss_cons (ps_if (PW.pt (pw_or (pt_not (pt_val (pe_is .list T.b_isinstance (pv 1) T.b_list boot_list))) (pw_or1 (pt_not (pt_val (pe_ca (ca_are_cells T) hr (pa_cons (pv 1) pa_nil))))))) (pss_one ps_never) pss_nil)
      (pss_cons (ps_if (PW.pt (pw_or (pt_not (pt_val (pe_is .list T.b_isinstance (pv 2) T.b_list boot_list))) (pw_or1 (pt_not (pt_val (pe_ca (ca_are_deeds T) hr (pa_cons (pv 2) (pa_cons (pe_callB call_len_seq (by rfl) T.b_len PySem.boot_len (pa_cons (pv 1) pa_nil)) pa_nil)))))))) (pss_one ps_never) pss_nil)
      (pss_cons (ps_fld (pv 0) (pe_tupleOf (by rfl) T.b_tuple (pv 1)) rfl)
      (pss_cons (ps_fld (pv 0) (pe_tupleOf (by rfl) T.b_tuple (pv 2)) rfl)
      (pss_cons (ps_fld (pv 0) (pe_dc (own := [("name", 3), ("_", 4), ("body", 5)]) (tt := tYes) rfl nd (pi_list (pv 2)) (blkOk_by (N := ["self", "cells", "deeds", "name", "_", "body"]) (sc := defScope s_Vault_init) (by decide +kernel)) (fun _ _ _ _ _ => pg_three K 3 4 5 rfl rfl nd rfl rfl rfl (.inl rfl) (.inl rfl) (.inl rfl) (.inr rfl) (.inr rfl) (.inr rfl)) (fun _ _ _ _ _ => pts_nil) (fun _ _ _ _ _ => pv 3) (fun _ _ _ _ _ => pe_ca (ca_code_of T) hr (pa_cons (pv 5) pa_nil))) rfl)
      (pss_one (ps_fld (pv 0) (pe_ca (ca_has_row T) hr (pa_cons (pe_fld (pv 0) rfl) (pa_cons pe_str pa_nil))) rfl))))))), ?_⟩
  refine ⟨_, rfl, _, _, rfl, .list ha, _, rfl, iteF ?_⟩
  refine ⟨_, rfl, a, xs, v.cells, rfl, ha, hxs, g.c0, g.c1, g.cs, _, rfl, iteF ?_⟩
  refine ⟨_, rfl, _, _, rfl, .list hb, _, rfl, iteF ?_⟩
  have lx : xs.length = v.cells.length := by rw [dps_len hxs, List.length_map]
  have ly : ys.length = v.deeds.length := by rw [dps_len hys, List.length_map]
  refine ⟨_, rfl, _, rfl, _, _, rfl, .inl ha, b, ys, v.deeds, v.cells.length, by rw [lx]; rfl, hb, hys, g.d0, g.d1, g.ds, g.nd, fun H1 s1 => ⟨_, rfl, iteF ?_⟩⟩
  refine ⟨_, rfl, .inl ⟨a, xs, rfl, s1.seq ha, fun t1 nt1 => ?_⟩⟩
  have hp1 := s1 _ _ hp
  have nt1p : t1 ≠ p := fun e => by rw [e, hp1] at nt1; cases nt1
  have s2 : Same H (upd H1 t1 (.tup xs)) := s1.trans (same_new nt1)
  refine ⟨_, rfl, p, _, dx, _, rfl, s2 _ _ hp, T.c_Vault, T.n_Vault_cells, (by show 0 < 1000; decide), ?_⟩
  have np2 : NoLst (upd H1 t1 (.tup xs)) p := .ins (s2 _ _ hp)
  have cp2 : Ch (upd H1 t1 (.tup xs)) p := .ins (s2 _ _ hp)
  generalize eH2 : upd H1 t1 (.tup xs) = H2 at s2 np2 cp2
  have at2 : H2 t1 = some (.tup xs) := by rw [← eH2, upd_same]
  generalize eH3 : upd H2 p (.ins (He.ga K "Vault") dx (putF "_cells" (.ref t1) [])) = H3
  have b3 : But p H2 H3 := eH3 ▸ But.upd
  have hp3 : H3 p = some (.ins (He.ga K "Vault") dx (putF "_cells" (.ref t1) [])) := by rw [← eH3, upd_same]
  have hb3 : SqL K H3 b ys := sqL_but np2 b3 (s2.seq hb)
  refine ⟨_, rfl, .inl ⟨b, ys, rfl, hb3, fun t2 nt2 => ?_⟩⟩
  have s4 : Same H3 (upd H3 t2 (.tup ys)) := same_new nt2
  refine ⟨_, rfl, p, _, dx, _, rfl, s4 _ _ hp3, T.c_Vault, T.n_Vault_deeds, (by show 1 < 1000; decide), ?_⟩
  generalize eH4 : upd H3 t2 (.tup ys) = H4 at s4
  have at4 : H4 t2 = some (.tup ys) := by rw [← eH4, upd_same]
  have hp4 := s4 _ _ hp3
  have np4 : NoLst H4 p := .ins hp4
  have cp4 : Ch H4 p := .ins hp4
  generalize eH5 : upd H4 p (.ins (He.ga K "Vault") dx (putF "_deeds" (.ref t2) (putF "_cells" (.ref t1) []))) = H5
  have b5 : But p H4 H5 := eH5 ▸ But.upd
  have hp5 : H5 p = some (.ins (He.ga K "Vault") dx (putF "_deeds" (.ref t2) (putF "_cells" (.ref t1) []))) := by rw [← eH5, upd_same]
  have hb5 : SqL K H5 b ys := sqL_but np4 b5 (s4.seq hb3)
  have b25 : But p H2 H5 := (b3.trans (same_but s4)).trans b5
  have at5 : H5 t1 = some (.tup xs) := b25 _ _ nt1p at2
  have nt2p : t2 ≠ p := fun e => by rw [e, hp3] at nt2; cases nt2
  have at52 : H5 t2 = some (.tup ys) := b5 _ _ nt2p at4
  have hxs5 : DpAll K H5 xs (v.cells.map cellD) := cells_but cp2 b25 (dps_same s2 hxs)
  have hys5 : DpAll K H5 ys (v.deeds.map deedD) := deeds_but cp2 b25 (dps_same s2 hys)
  refine ⟨_, rfl, b, rfl, ⟨_, hb5⟩, fun D hD => ?_⟩
  refine it_any (n := ys.length) walk_list (fun i H' => ∃ kvs, Same H5 H' ∧ H' D = some (.dK kvs) ∧ CodesR K H' kvs (v.deeds.take i)) ⟨[], same_new hD, upd_same, trivial⟩ (fun i H' _ ⟨_, s, _⟩ => s.seq hb5) ?_ ?_
  · rintro i x H' H6 hi ⟨kvs, s, eD, hc⟩ ⟨rfl, ex⟩
    obtain ⟨dd, ed, hdd⟩ := dps_get hys5 ex
    obtain ⟨d, ec, rfl⟩ := get_mapA ed
    obtain ⟨t, x1, x2, x3, rfl, ht, e1, e2, e3⟩ := dp3 (dp_same s hdd)
    cases dp_str e1
    have ok := g.ds d (List.mem_of_getElem? ec)
    refine ⟨t, _, rfl, ht, rfl, _, _, rfl, _, _, rfl, _, _, rfl, rfl, rfl, ?_⟩
    refine ⟨_, rfl, _, rfl, x3, d.2.2, v.cells.length, rfl, e3, ok.2.2.1, ok.2.2.2.2, fun H7 u s7 hu => ?_⟩
    have nn : d.1 ∉ (v.deeds.take i).map (·.1) := fun hm => by
      obtain ⟨d', hd', ed'⟩ := List.mem_map.mp hm
      obtain ⟨j, hj, ej⟩ := List.mem_iff_getElem.mp hd'
      rw [List.length_take] at hj
      rw [List.getElem_take] at ej
      have n1 : (v.deeds.map (·.1))[i]? = some d.1 := by rw [List.getElem?_map, ec]; rfl
      have n2 : (v.deeds.map (·.1))[j]? = some d.1 := by
        rw [List.getElem?_map, List.getElem?_eq_getElem (by omega : j < v.deeds.length), ej]
        exact congrArg some ed'
      have := nd_ix g.nd n1 n2
      omega
    have hl : kvs.length = (v.deeds.take i).length := codes_len hc
    have hl8 : (v.deeds.take i).length ≤ 8 := by rw [List.length_take]; have := g.d1; omega
    refine ⟨kvs, Sum.inr d.1, rfl, s7 _ _ eD, by rw [sizeLine_eq]; omega, _, ?_, upd_same, ?_⟩
    · exact fun b' o e => by
        rw [upd_ne (ne_of_none e hD)]
        exact s7 _ _ (s _ _ e)
    · rw [putK_new u (codes_no hc nn), take_more ec]
      exact codes_snoc (dp_but (.dK (s7 _ _ eD)) But.upd hu (code_noL _)) (codes_but (.dK (s7 _ _ eD)) But.upd (codes_same s7 hc))
  · rintro H6 ⟨kvs, s6, eD, hc⟩
    rw [ly, List.take_length] at hc
    have hp6 := s6 _ _ hp5
    refine ⟨_, rfl, p, _, dx, _, rfl, hp6, T.c_Vault, T.n_Vault_codes, (by show 2 < 1000; decide), ?_⟩
    have cp6 : Ch H6 p := .ins hp6
    have nDp : D ≠ p := fun e => by rw [e, hp5] at hD; cases hD
    generalize eH7 : upd H6 p (.ins (He.ga K "Vault") dx (putF "_codes" (.ref D) (putF "_deeds" (.ref t2) (putF "_cells" (.ref t1) [])))) = H7
    have b7 : But p H6 H7 := eH7 ▸ But.upd
    have hp7 : H7 p = some (.ins (He.ga K "Vault") dx (putF "_codes" (.ref D) (putF "_deeds" (.ref t2) (putF "_cells" (.ref t1) [])))) := by rw [← eH7, upd_same]
    have eD7 := b7 _ _ nDp eD
    have hc7 := codes_but cp6 b7 hc
    refine ⟨_, rfl, p, _, dx, _, _, rfl, hp7, T.c_Vault, T.n_Vault_codes, vf_codes0 .., D, kvs, v.deeds, "coin", rfl, eD7, hc7, ?_⟩
    refine ⟨_, rfl, p, _, dx, _, rfl, hp7, T.c_Vault, T.n_Vault_coins, (by show 3 < 1000; decide), ?_⟩
    generalize eH8 : upd H7 p (.ins (He.ga K "Vault") dx (putF "_coins" (.bl (hasW v.deeds "coin")) (putF "_codes" (.ref D) (putF "_deeds" (.ref t2) (putF "_cells" (.ref t1) []))))) = H8
    have b8 : But p H7 H8 := eH8 ▸ But.upd
    have hp8 : H8 p = some (.ins (He.ga K "Vault") dx (putF "_coins" (.bl (hasW v.deeds "coin")) (putF "_codes" (.ref D) (putF "_deeds" (.ref t2) (putF "_cells" (.ref t1) []))))) := by rw [← eH8, upd_same]
    have b58 : But p H5 H8 := ((same_but s6).trans b7).trans b8
    have cp5 : Ch H5 p := .ins hp5
    refine q H8 ((same_but s2).trans (b25.trans b58)) ⟨dx, t1, t2, D, hasW v.deeds "coin", kvs, hp8, ?_, ?_, b8 _ _ nDp eD7, codes_but (.ins hp7) b8 hc7⟩ ⟨dx, t1, t2, D, hp8⟩
    · exact .tup (.of (b58 _ _ nt1p at5)) (cells_but cp5 b58 hxs5)
    · exact .tup (.of (b58 _ _ nt2p at52)) (deeds_but cp5 b58 hys5)
end
end F
section
variable {P : Program} {w : World} {K : PySem.W.Frag} {mg : Str → Option Value} {base : Heap}
def spHasCoins (K : PySem.W.Frag) : Sp := fun vs H Q _ => ∃ (p : Addr) (v : Vlt), vs = [.ref p] ∧ FlagAt K H p v ∧ Q (.bl (hasW v.deeds "coin")) H
theorem me_Vault_has_coins (T : Txt w K mg) : Me P w K mg base 1 (He.ga K "Vault") "has_coins" (spHasCoins K) := by
  refine me_of (N := ["self"]) (ps := ["self"]) T.f_Vault_has_coins T.c_Vault T.m_Vault_has_coins ⟨rfl, rfl, rfl, by decide +kernel, rfl, by decide +kernel, by decide +kernel⟩ (fun _ _ _ _ _ _ us hl => match us, hl with | [_], _ => rfl)
    (fun vs H Q E h => by obtain ⟨p, v, rfl, hf, q⟩ := h; rfl) (fun cdv A outer s H vs Q E hr h => ?_)
  have nd : (["self"] : List Str).Nodup := by decide +kernel
  obtain ⟨p, v, rfl, hf, q⟩ := h
  obtain ⟨dx, a, d, c, e⟩ := hf
  refine ⟨_, pss_one (ps_ret (pe_fld (pv 0) rfl)), ?_⟩
  exact ⟨_, rfl, p, _, _, _, _, rfl, e, T.c_Vault, T.n_Vault_coins, vf_coins .., q⟩
end

end M

set_option Elab.async false
set_option linter.all false
set_option maxRecDepth 100000
set_option maxHeartbeats 2000000
namespace M
open PySem PySem.Spec PyProof.Rows L2

/-! ### data of a known size and depth -/
def atomOk : PyData → Prop
  | .str s => s.length ≤ 1000000 ∧ PyData.strOk s = true
  | .none => True
  | .bool _ => True
  | .int _ => True
  | _ => False
def fit : Nat → PyData → Prop
  | 0, d => atomOk d
  | n + 1, .list ds => ds.length ≤ 100000 ∧ ∀ d ∈ ds, fit n d
  | n + 1, .tuple ds => ds.length ≤ 100000 ∧ ∀ d ∈ ds, fit n d
  | _ + 1, d => atomOk d
theorem atom_lay : ∀ {d : PyData}, atomOk d → d.canLay0 = true ∧ d.depth = 0 ∧ PyData.eqv d d = true
  | .str s, h => ⟨by rw [PyData.canLay0]; exact h.2, by rw [PyData.depth], by simp [PyData.eqv]⟩
  | .none, _ => ⟨by rw [PyData.canLay0], by rw [PyData.depth], by rw [PyData.eqv]⟩
  | .bool _, _ => ⟨by rw [PyData.canLay0], by rw [PyData.depth], by simp [PyData.eqv]⟩
  | .int _, _ => ⟨by rw [PyData.canLay0], by rw [PyData.depth], by simp [PyData.eqv]⟩
theorem fit_lay : ∀ {n : Nat} {d : PyData}, fit n d → d.canLay0 = true ∧ d.depth ≤ n ∧ PyData.eqv d d = true := by
  intro n
  induction n with
  | zero =>
    intro d h
    obtain ⟨a, b, c⟩ := atom_lay h
    exact ⟨a, by omega, c⟩
  | succ n ih =>
    intro d h
    have z : ∀ ds : List PyData, (∀ d ∈ ds, fit n d) → PyData.canLayAll0 ds = true ∧ PyData.depthAll ds ≤ n ∧ PyData.eqvAll ds ds = true := by
      intro ds
      induction ds with
      | nil => exact fun _ => ⟨by rw [PyData.canLayAll0], by rw [PyData.depthAll]; exact Nat.zero_le _, by rw [PyData.eqvAll]⟩
      | cons d r ih2 =>
        intro h
        obtain ⟨a1, a2, a3⟩ := ih (h d List.mem_cons_self)
        obtain ⟨b1, b2, b3⟩ := ih2 fun x hx => h x (List.mem_cons_of_mem _ hx)
        exact ⟨by rw [PyData.canLayAll0, a1, b1]; rfl, by rw [PyData.depthAll]; exact Nat.max_le.mpr ⟨a2, b2⟩, by rw [PyData.eqvAll, a3, b3]; rfl⟩
    cases d with
    | list ds =>
      obtain ⟨a, b, c⟩ := z ds h.2
      exact ⟨by rw [PyData.canLay0]; exact a, by rw [PyData.depth]; omega, by rw [PyData.eqv]; exact c⟩
    | tuple ds =>
      obtain ⟨a, b, c⟩ := z ds h.2
      exact ⟨by rw [PyData.canLay0]; exact a, by rw [PyData.depth]; omega, by rw [PyData.eqv]; exact c⟩
    | dict _ => exact h.elim
    | str s =>
      obtain ⟨a, b, c⟩ := atom_lay (d := .str s) h
      exact ⟨a, by omega, c⟩
    | none =>
      obtain ⟨a, b, c⟩ := atom_lay (d := .none) h
      exact ⟨a, by omega, c⟩
    | bool y =>
      obtain ⟨a, b, c⟩ := atom_lay (d := .bool y) h
      exact ⟨a, by omega, c⟩
    | int y =>
      obtain ⟨a, b, c⟩ := atom_lay (d := .int y) h
      exact ⟨a, by omega, c⟩
theorem fit_shaped {n : Nat} {d : PyData} (hn : n ≤ 60) (h : fit n d) : SeqAt.shaped d = true := by
  obtain ⟨a, b, _⟩ := fit_lay h
  unfold SeqAt.shaped
  rw [Bool.and_eq_true]
  exact ⟨a, decide_eq_true (by omega)⟩
theorem fit_str {n : Nat} {s : Str} (h : fit n (.str s)) : s.length ≤ 1000000 ∧ PyData.strOk s = true := by
  cases n <;> exact h
theorem atom_fit : ∀ {n : Nat} {d : PyData}, atomOk d → fit n d
  | 0, _, h => h
  | _ + 1, .str _, h => h
  | _ + 1, .none, _ => trivial
  | _ + 1, .bool _, _ => trivial
  | _ + 1, .int _, _ => trivial
theorem fit_up : ∀ {n m : Nat} {d : PyData}, fit n d → n ≤ m → fit m d
  | 0, _, _, h, _ => atom_fit h
  | n + 1, 0, _, _, l => absurd l (Nat.not_succ_le_zero n)
  | n + 1, m + 1, .list ds, h, l => ⟨h.1, fun d hd => fit_up (h.2 d hd) (Nat.le_of_succ_le_succ l)⟩
  | n + 1, m + 1, .tuple ds, h, l => ⟨h.1, fun d hd => fit_up (h.2 d hd) (Nat.le_of_succ_le_succ l)⟩
  | _ + 1, _ + 1, .str _, h, _ => h
  | _ + 1, _ + 1, .none, _, _ => trivial
  | _ + 1, _ + 1, .bool _, _, _ => trivial
  | _ + 1, _ + 1, .int _, _, _ => trivial
theorem fit_i {n : Nat} {i : Int} : fit n (.int i) := atom_fit trivial
theorem mem_fit {l : List Str} {n : Nat} {s : Str} (h : s ∈ l) (k : l.all (fun s => decide (s.length ≤ 1000000) && PyData.strOk s) = true) : fit n (.str s) := atom_fit (d := .str s) (by
  have := List.all_eq_true.mp k s h
  exact ⟨of_decide_eq_true (He.ba this).1, (He.ba this).2⟩)
theorem fit_reg {n : Nat} {s : Str} (h : s ∈ regs4) : fit n (.str s) := mem_fit h (by decide +kernel)
theorem fit_exp : ∀ {e : Exp} {n : Nat}, e.ok → e.dep ≤ n → fit n e.d
  | .num i, _, _, _ => fit_i
  | .reg r, _, h, _ => mem_fit (l := regs5) h (by decide +kernel)
  | .op s a b, 0, _, l => absurd l (Nat.not_succ_le_zero _)
  | .op s a b, n + 1, h, l => by
    have l : Nat.max a.dep b.dep + 1 ≤ n + 1 := l
    have la : a.dep ≤ Nat.max a.dep b.dep := Nat.le_max_left ..
    have lb : b.dep ≤ Nat.max a.dep b.dep := Nat.le_max_right ..
    refine ⟨by show 3 ≤ 100000; decide, fun d hd => ?_⟩
    simp only [List.mem_cons, List.not_mem_nil, or_false] at hd
    rcases hd with rfl | rfl | rfl
    · exact mem_fit (l := signs) h.1 (by decide +kernel)
    · exact fit_exp h.2.1 (by omega)
    · exact fit_exp h.2.2 (by omega)
theorem fit_good {e : Exp} {n : Nat} (h : e.good) (l : 6 ≤ n) : fit n e.d := fit_exp h.1 (Nat.le_trans h.2 l)
def wordsR : List Str := ["read", "set", "swap", "keep", "coin", "if", "times", "answer"]
theorem fit_word {n : Nat} {s : Str} (h : s ∈ wordsR) : fit n (.str s) := mem_fit h (by decide +kernel)
theorem row_cl1 (r : Row) : 1 ≤ r.cl := by cases r <;> simp [Row.cl]
theorem rows_len : ∀ rs : List Row, rs.length ≤ rowsCl rs
  | [] => Nat.le_refl 0
  | r :: rs => by
    have := rows_len rs
    have := row_cl1 r
    show rs.length + 1 ≤ r.cl + rowsCl rs
    omega
mutual
theorem row_fit {c : Int} : ∀ {r : Row} {deep loops : Nat}, r.ok c deep loops → deep ≤ 12 → r.cl ≤ 100000 → fit (2 * (13 - deep) + 8) r.d
  | .read r k, _, _, h, _, _ => ⟨by show 3 ≤ 100000; decide, fun d hd => by
      simp only [List.mem_cons, List.not_mem_nil, or_false] at hd
      rcases hd with rfl | rfl | rfl
      · exact fit_word (by decide +kernel)
      · exact fit_reg h.1
      · exact fit_i⟩
  | .set k e, _, _, h, _, _ => ⟨by show 3 ≤ 100000; decide, fun d hd => by
      simp only [List.mem_cons, List.not_mem_nil, or_false] at hd
      rcases hd with rfl | rfl | rfl
      · exact fit_word (by decide +kernel)
      · exact fit_i
      · exact fit_good h.2 (by omega)⟩
  | .swap r k e f, _, _, h, _, _ => ⟨by show 5 ≤ 100000; decide, fun d hd => by
      simp only [List.mem_cons, List.not_mem_nil, or_false] at hd
      rcases hd with rfl | rfl | rfl | rfl | rfl
      · exact fit_word (by decide +kernel)
      · exact fit_reg h.1
      · exact fit_i
      · exact fit_good h.2.2.1 (by omega)
      · exact fit_good h.2.2.2 (by omega)⟩
  | .keep r e, _, _, h, _, _ => ⟨by show 3 ≤ 100000; decide, fun d hd => by
      simp only [List.mem_cons, List.not_mem_nil, or_false] at hd
      rcases hd with rfl | rfl | rfl
      · exact fit_word (by decide +kernel)
      · exact fit_reg h.1
      · exact fit_good h.2 (by omega)⟩
  | .coin r, _, _, h, _, _ => ⟨by show 2 ≤ 100000; decide, fun d hd => by
      simp only [List.mem_cons, List.not_mem_nil, or_false] at hd
      rcases hd with rfl | rfl
      · exact fit_word (by decide +kernel)
      · exact fit_reg h.1⟩
  | .ans e, _, _, h, _, _ => ⟨by show 2 ≤ 100000; decide, fun d hd => by
      have h : e.good := h
      simp only [List.mem_cons, List.not_mem_nil, or_false] at hd
      rcases hd with rfl | rfl
      · exact fit_word (by decide +kernel)
      · exact fit_good h (by omega)⟩
  | .iff e a b, deep, _, h, l, cl => ⟨by show 4 ≤ 100000; decide, fun d hd => by
      have cl : 1 + (rowsCl a + rowsCl b) ≤ 100000 := cl
      simp only [List.mem_cons, List.not_mem_nil, or_false] at hd
      rcases hd with rfl | rfl | rfl | rfl
      · exact fit_word (by decide +kernel)
      · exact fit_good h.1 (by omega)
      · exact fit_up (rows_fit h.2.1 (by omega) (by omega)) (by omega)
      · exact fit_up (rows_fit h.2.2 (by omega) (by omega)) (by omega)⟩
  | .times e a, deep, _, h, l, cl => ⟨by show 3 ≤ 100000; decide, fun d hd => by
      have cl : 1 + rowsCl a ≤ 100000 := cl
      simp only [List.mem_cons, List.not_mem_nil, or_false] at hd
      rcases hd with rfl | rfl | rfl
      · exact fit_word (by decide +kernel)
      · exact fit_good h.1 (by omega)
      · exact fit_up (rows_fit h.2.2 (by omega) (by omega)) (by omega)⟩
theorem rows_fit {c : Int} : ∀ {rs : List Row} {deep loops : Nat}, rowsOk c deep loops rs → deep ≤ 13 → rowsCl rs ≤ 100000 → fit (2 * (13 - deep) + 9) (.tuple (rowsD rs))
  | rs, deep, loops, h, l, cl => ⟨by
      have := rows_len rs
      rw [rowsD_map, List.length_map]
      omega, rows_each h l cl⟩
theorem rows_each {c : Int} : ∀ {rs : List Row} {deep loops : Nat}, rowsOk c deep loops rs → deep ≤ 13 → rowsCl rs ≤ 100000 → ∀ d ∈ rowsD rs, fit (2 * (13 - deep) + 8) d
  | [], _, _, _, _, _, d, hd => nomatch hd
  | r :: rs, deep, loops, h, l, cl, d, hd => by
    have cl : r.cl + rowsCl rs ≤ 100000 := cl
    rcases List.mem_cons.mp hd with rfl | hd
    · exact row_fit h.2.1 h.1 (by omega)
    · exact rows_each h.2.2 l (by omega) d hd
end
theorem name_fit {n : Nat} {s : Str} (h : NameOk s) : fit n (.str s) := atom_fit (d := .str s) ⟨by have := h.2.1; omega, by
  unfold PyData.strOk
  rw [Array.all_eq_true']
  intro x hx
  have := h.2.2 x (by simpa using hx)
  exact decide_eq_true (by omega)⟩
theorem deed_fit {c : Int} {d : Str × Int × List Row} (h : DeedOk c d) : fit 40 (deedD d) := ⟨by show 3 ≤ 100000; decide, fun x hx => by
  simp only [List.mem_cons, List.not_mem_nil, or_false] at hx
  rcases hx with rfl | rfl | rfl
  · exact name_fit h.1
  · exact fit_i
  · exact fit_up (rows_fit h.2.2.1 (by decide) (by have := h.2.2.2.2; omega)) (by decide)⟩
theorem deeds_fit {v : Vlt} (g : VGood v) : fit 41 (.tuple (v.deeds.map deedD)) := ⟨by rw [List.length_map]; have := g.d1; omega, fun x hx => by
  obtain ⟨d, hd, rfl⟩ := List.mem_map.mp hx
  exact deed_fit (g.ds d hd)⟩
theorem ints_fit {n : Nat} (l : List Int) (h : l.length ≤ 100000) : fit (n + 1) (.tuple (l.map PyData.int)) := ⟨by rw [List.length_map]; exact h, fun x hx => by
  obtain ⟨i, _, rfl⟩ := List.mem_map.mp hx
  exact fit_i⟩
theorem cells_fit {v : Vlt} (g : VGood v) : fit 2 (.tuple (v.cells.map cellD)) := ⟨by rw [List.length_map]; have := g.c1; omega, fun x hx => by
  obtain ⟨d, hd, rfl⟩ := List.mem_map.mp hx
  exact ints_fit [d.1, d.2] (by show 2 ≤ 100000; decide)⟩
theorem shaped_str {s : Str} (h : NameOk s) : SeqAt.shaped (.str s) = true := fit_shaped (n := 0) (by decide) (name_fit h)

end M

set_option Elab.async false
set_option linter.all false
set_option maxRecDepth 100000
set_option maxHeartbeats 2000000
namespace M
open PySem PySem.Spec PyProof.Rows L2

/-! ### a text == something else -/
open PySem.SeqAt PySem.Calls in
theorem str_eq_declines_dict (b : Str) (u : Tok) (l : Addr) (c : Value) (es : Array DictEntry) (n : Nat) (dd : Option Addr) (sl : Array (Option Value)) :
    Meets (Builtin.«str.__eq__» ⟨[.str b u, .ref l], []⟩) (fun _ R s => s.heap.get? l = some { cls := c, dict := dd, data := .dict es n, slots := sl } ∧ R (.ok (.ret .notImplemented)) s) :=
  .of_wp fun prog w A R s h => by obtain ⟨hp, g, d, tk, os⟩ := s; obtain ⟨hl, h⟩ := h; wp_walk using AutoSeq1.wpAny_loadPart' hl, wpAny_load hl; exact ⟨_, rfl, h⟩
open PySem.SeqAt PySem.Calls in
theorem str_eq_declines_ins (b : Str) (u : Tok) (l : Addr) (c : Value) (dd : Option Addr) (sl : Array (Option Value)) :
    Meets (Builtin.«str.__eq__» ⟨[.str b u, .ref l], []⟩) (fun _ R s => s.heap.get? l = some { cls := c, dict := dd, data := .plain, slots := sl } ∧ R (.ok (.ret .notImplemented)) s) :=
  .of_wp fun prog w A R s h => by obtain ⟨hp, g, d, tk, os⟩ := s; obtain ⟨hl, h⟩ := h; wp_walk using AutoSeq1.wpAny_loadPart' hl, wpAny_load hl; exact ⟨_, rfl, h⟩
open PySem.SeqAt PySem.Calls in
theorem dict_eq_declines_str (l : Addr) (es : Array DictEntry) (n : Nat) (dd : Option Addr) (sl : Array (Option Value)) (b : Str) (u : Tok) :
    Meets (Builtin.«dict.__eq__» ⟨[.ref l, .str b u], []⟩) (fun _ R s => s.heap.get? l = some { cls := .type "dict", dict := dd, data := .dict es n, slots := sl } ∧ R (.ok (.ret .notImplemented)) s) :=
  .of_wp fun prog w A R s h => by obtain ⟨hp, g, d, tk, os⟩ := s; obtain ⟨hl, h⟩ := h; have f1 := PySem.F.sub_str_dict; wp_walk using AutoSeq1.wpAny_loadPart' hl; exact ⟨_, rfl, h⟩
section
open PySem.SeqAt PySem.Calls
variable {A : Around} {s : Shared}
theorem rc_str_dict {l : Addr} {o : Obj} {es : Array DictEntry} {n : Nat} (b : Str) (u : Tok) (ho : s.heap.get? l = some o) (hc : o.cls = .type "dict") (hd : o.data = .dict es n) (hu : A.units < cLine) : RcAt A s (.str b u) (.ref l) false := fun prog w E Q h => by
  obtain ⟨cls, dd, data, sl⟩ := o
  simp only at hc hd
  subst hc hd
  exact rc_eq_decline_or (k := false) (typeIs_str s b u) ⟨_, ho, rfl⟩ (by decide) PySem.F.sub_dict_str PySem.F.slot_str_eq PySem.F.slot_dict_eq_refl
    (fun _ hq => call_meets PySem.F.slot_str_eq (typeIs_str s b u) PySem.F.entry_str_eq (PySem.F.args_str_eq_2 _ _) (str_eq_declines_dict b u l (.type "dict") es n dd sl) ⟨ho, hq⟩)
    (fun _ hq => call_meets PySem.F.slot_dict_eq_refl ⟨_, ho, rfl⟩ PySem.F.entry_dict_eq (PySem.F.args_dict_eq_2 _ _) (dict_eq_declines_str l es n dd sl b u) ⟨ho, hq⟩)
    (fun _ hq => wpAny_of_eq (rfl : isSame (.str b u) (.ref l) = pure false) hq) (.inr hu) h
end
section
open PySem.W PySem.SeqAt PySem.Calls
variable {prog : Program} {w : World} {A : Around} {E : Value → Shared → Prop} {s : Shared} {K : PySem.W.Frag} {x f C : Addr} {ox : Obj} {od : Option Obj}
/-- a text == an instance with its own == -/
theorem rc_str_ins {b : Str} {u : Tok} {Q : Value → Shared → Prop} (hu : A.units < cLine) (X : K.In s.heap) (I : InstAt s.heap x ox C od) (ho : ox = ⟨.ref C, ox.dict, .plain, ox.slots⟩) (hsub : PySem.W.subIn K (.ref C) (.type "str") = some false)
    (hs : PySem.W.findIn K (.ref C) "__eq__" = some (some (.ref f))) (hf : PySem.W.isFn K (.ref f) = true)
    (h : wpAny (model prog w) A (call (.ref f) [.ref x, .str b u]) (PySem.W.CmpBack Q) E s) : wpAny (model prog w) A (richCompare .Eq (.str b u) (.ref x)) Q E s := by
  have ha := typeIs_str s b u
  have one : wpAny (model prog w) A (tryCompare (.ref x) "__eq__" (.str b u)) (fun r s' => ∃ v, r = some v ∧ Q v s') E s := by
    unfold tryCompare
    refine wpAny_bind (ifBound_K X I hs hf (wpAny_mono h (fun v s' hv => ?_) fun _ _ e => e))
    cases v <;> first | exact hv.elim | exact wpAny_pure ⟨_, rfl, hv⟩
  have e0 : s.heap.get? x = some { cls := .ref C, dict := ox.dict, data := .plain, slots := ox.slots } := by
    have := I.1
    rw [ho] at this
    exact this
  have h1 : Slot "str" "__eq__" "str.__eq__" := PySem.F.slot_str_eq
  have hi : cmpInfo CmpOp.Eq = (("==", "__eq__", "__eq__") : String × Str × Str) := rfl
  simp only [richCompare, hi, ha.oneThing_none]
  refine wpAny_holding ?_
  refine wpAny_bind (wpAny_cRoomFor hu ?_)
  refine wpAny_bind (wpAny_typeOf ha (wpAny_bind (I.type.here ?_)))
  have hne : (Value.type "str" != Value.ref C) = true := rfl
  simp only [hne, if_true]
  refine wpAny_bind ((looks_subIn X hsub).here ?_)
  simp only [Bool.false_eq_true, if_false, Bool.not_false, if_true]
  refine wpAny_bind (m := tryCompare (.str b u) _ (.ref x)) (wpAny_tryCompare_declines ha h1 (call_meets PySem.F.slot_str_eq ha PySem.F.entry_str_eq (PySem.F.args_str_eq_2 _ _) (str_eq_declines_ins b u x (.ref C) ox.dict ox.slots) ⟨e0, rfl, ?_⟩))
  refine wpAny_bind (wpAny_mono one (fun r s' z => ?_) fun _ _ e => e)
  obtain ⟨v, rfl, hq⟩ := z
  exact wpAny_pure hq
end
/-- what == and isinstance ask of the class x, which has its own == -/
structure Own (K : PySem.W.Frag) (x : Str) : Prop where
  ha : PySem.W.findIn K (.ref (He.ga K x)) "__class__" = some (some (.builtin "object.__class__"))
  hn : PySem.W.specialIn K (.builtin "object.__class__") "__get__" = some (some (.builtin "getset_descriptor.__get__"))
  tk : PySem.W.takesIn K (.builtin "object.__class__") = some true
  mo : PySem.W.mroIn K (He.ga K x) (.type "object") = some true
  me : PySem.W.kitOne K (.ref (He.ga K x)) (.ref (He.ga K x)) = some true
  un : ∀ k : Kd, k ≠ .obj → PySem.W.kitOne K (.type k.name) (.ref (He.ga K x)) = some false
  no : ∀ k : Kd, k ≠ .obj → PySem.W.kitOne K (.ref (He.ga K x)) (.type k.name) = some false
  su : PySem.W.subIn K (.ref (He.ga K x)) (.type "str") = some false
  eq : PySem.W.findIn K (.ref (He.ga K x)) "__eq__" = some (some (.ref (He.ma K (He.ga K x) "__eq__")))
  fn : PySem.W.isFn K (.ref (He.ma K (He.ga K x) "__eq__")) = true
  nf : PySem.W.notFirst K (He.ga K x) (.ref (He.ga K x)) = true
theorem own_ok {K : PySem.W.Frag} {x : Str} (h : ownB K x = true) : Own K x := by
  unfold ownB at h
  obtain ⟨h1, h⟩ := He.ba h
  obtain ⟨h2, h⟩ := He.ba h
  obtain ⟨h3, h⟩ := He.ba h
  obtain ⟨h4, h⟩ := He.ba h
  obtain ⟨h5, h⟩ := He.ba h
  obtain ⟨h6, h⟩ := He.ba h
  obtain ⟨h7, h⟩ := He.ba h
  obtain ⟨h8, h9⟩ := He.ba h
  have g := fun t ht => List.all_eq_true.mp h6 t ht
  refine ⟨He.eqO_ok h1, He.eqO_ok h2, of_decide_eq_true h3, of_decide_eq_true h4, of_decide_eq_true h5, fun k hk => ?_, fun k hk => ?_, of_decide_eq_true h7, He.eqO_ok (He.ba h8).1, (He.ba h8).2, h9⟩
  · cases k <;> first | exact absurd rfl hk | exact of_decide_eq_true (He.ba (g _ (by simp [Kd.name]))).1
  · cases k <;> first | exact absurd rfl hk | exact of_decide_eq_true (He.ba (g _ (by simp [Kd.name]))).2
theorem ins_spot {X : Cx} {pins : List (Addr × Obj)} {σ : L2.St} {H : Hp} {s : Shared} {a C dx : Addr} {fs : List (Str × V)} (I : Inv X pins σ H s) (ha : H a = some (.ins C dx fs)) : ∃ od, PySem.W.InstAt s.heap a (PySem.W.instObj C dx) C od := by
  obtain ⟨mA, J, _⟩ := ins_get I.hok ha
  obtain ⟨od, J, _⟩ := J.look
  exact ⟨od, J⟩
section
variable {X : Cx} {n : Nat} {x : Str} {fd : FuncData} {ps : List Str} {sp : Sp}
/-- what the own == of the class x promises -/
structure Eqs (P : Program) (w : World) (K : PySem.W.Frag) (mg : Str → Option Value) (base : Heap) (n : Nat) (x : Str) (sp : Sp) : Prop where
  o : Own K x
  ex : ∃ (fd : FuncData) (ps : List Str), FnOk P w K mg base CX0 n (He.ma K (He.ga K x) "__eq__") fd ps sp ∧ Binds K fd ps []
theorem eqs_call {pins : List (Addr × Obj)} {σ : L2.St} {H : Hp} {s : Shared} {vs : List V} {us : List Value} {Q : VK} (c : Eqs X.prog X.w X.K X.mg X.base n x sp) (hr : Room n X.A) (I : Inv X pins σ H s) (r : Vals vs us) (h : sp vs H (fun v H' => (∃ b, v = .bl b) ∧ Q v H') E0) :
    wpAny (model X.prog X.w) X.A (call (.ref (He.ma X.K (He.ga X.K x) "__eq__")) us) (PySem.W.CmpBack (EP X pins σ Q)) X.xe s := by
  obtain ⟨fd, ps, F, hb⟩ := c.ex
  have hl := F.len _ _ _ _ h
  refine wpAny_call (codeAny_mono (F.run X.A X.stack s H ⟨us, []⟩ us vs _ E0 hr I.env0 (by
    have := hb s us I.kIn (by rw [List.append_nil, ← r.length]; exact hl)
    rw [List.append_nil] at this
    exact this) r h) fun r s' hq => ?_)
  cases r with
  | error e => exact hq.elim
  | ok fl =>
    cases fl with
    | ret w =>
      obtain ⟨z, H', I', rz, ⟨b, eb⟩, q⟩ := I.after hq
      subst eb
      cases (rz : w = Value.bool b)
      exact ⟨.bl b, H', I', rfl, q⟩
    | next => exact False.elim hq
    | brk => exact False.elim hq
    | cont => exact False.elim hq
/-- == of two instances -/
theorem op_eqI (c : Eqs X.prog X.w X.K X.mg X.base n x sp) (hr : Room n X.A) : OpR X (compareOp .Eq) (fun v u H Q => ∃ (a b dx dy : Addr) (fs gs : List (Str × V)), v = .ref a ∧ u = .ref b ∧ H a = some (.ins (He.ga X.K x) dx fs) ∧ H b = some (.ins (He.ga X.K x) dy gs) ∧ sp [.ref a, .ref b] H (fun v H' => (∃ b, v = .bl b) ∧ Q v H') E0) := by
  intro pins s σ H v u va ua Q I rv ru h
  obtain ⟨a, b, dx, dy, fs, gs, rfl, rfl, ha, hb, hs⟩ := h
  cases (show va = Value.ref a from rv)
  cases (show ua = Value.ref b from ru)
  show wpAny _ _ (richCompare .Eq (.ref a) (.ref b)) _ _ _
  obtain ⟨od, J⟩ := ins_spot I ha
  obtain ⟨od', J'⟩ := ins_spot I hb
  obtain ⟨m, hF⟩ := I.fr
  exact PySem.W.cmp_K (op := .Eq) (tb := .ref (He.ga X.K x)) hr.units0 hF I.ok.mod.kin J J'.type c.o.nf c.o.eq c.o.fn (eqs_call c hr I (show Vals [V.ref a, V.ref b] [Value.ref a, Value.ref b] from .cons rfl (.cons rfl .nil)) hs)
/-- a text == data, a dict, a list of anything, an instance of x -/
def rEqS (K : PySem.W.Frag) (x : Str) (sp : Sp) : R2 := fun v u H Q => ∃ t : Str, v = .str t ∧
  ((∃ s : Str, u = .str s ∧ Q (.bl (decide (V.str t = V.str s))) H) ∨ (∃ d, Dp K H u d ∧ SeqAt.shaped d = true ∧ SeqAt.shaped (.str t) = true ∧ Q (.bl (PyData.eqv (.str t) d)) H) ∨ (∃ a kvs, u = .ref a ∧ H a = some (.dK kvs) ∧ Q (.bl false) H) ∨ (∃ a xs, u = .ref a ∧ SqL K H a xs ∧ Q (.bl false) H) ∨
   (∃ a dx fs, u = .ref a ∧ H a = some (.ins (He.ga K x) dx fs) ∧ sp [.ref a, .str t] H (fun v H' => (∃ b, v = .bl b) ∧ Q v H') E0))
theorem op_eqS (c : Eqs X.prog X.w X.K X.mg X.base n x sp) (hr : Room n X.A) : OpR X (compareOp .Eq) (rEqS X.K x sp) := by
  intro pins s σ H v u va ua Q I rv ru h
  obtain ⟨t, rfl, h⟩ := h
  obtain ⟨tk, rfl⟩ := rv
  rcases h with ⟨s2, rfl, q⟩ | ⟨d, h1, h2, h3, q⟩ | ⟨a, kvs, rfl, h1, q⟩ | ⟨a, xs, rfl, h1, q⟩ | ⟨a, dx, fs, rfl, h1, q⟩
  · exact op_eq pins s σ H (.str t) (.str s2) _ ua Q I ⟨tk, rfl⟩ ru ⟨rfl, q⟩
  · exact op_eqD hr.units pins s σ H (.str t) u _ ua Q I ⟨tk, rfl⟩ ru ⟨.str t, d, .str t, h1, h3, h2, q⟩
  · cases (show ua = Value.ref a from ru)
    obtain ⟨_, _, vs, _, o, es, ep, g1, g2, g3, _⟩ := (show ObjOk X.prog X.w H s.heap a (.dK kvs) from I.hok a _ h1)
    exact rc_str_dict t tk g1 g2.1 g3 hr.units0 X.prog X.w X.xe _ ⟨.bl false, H, I, rfl, q⟩
  · cases (show ua = Value.ref a from ru)
    obtain ⟨its, r, pl, hz⟩ := I.list h1
    exact SeqAt.RcAt.str_list t tk pl.isList hr.units0 X.prog X.w X.xe _ ⟨.bl false, H, I, rfl, q⟩
  · cases (show ua = Value.ref a from ru)
    obtain ⟨od, J⟩ := ins_spot I h1
    show wpAny _ _ (richCompare .Eq (.str t tk) (.ref a)) _ _ _
    exact rc_str_ins hr.units0 I.kIn J rfl c.o.su c.o.eq c.o.fn (eqs_call c hr I (show Vals [V.ref a, V.str t] [Value.ref a, Value.str t tk] from .cons rfl (.cons ⟨tk, rfl⟩ .nil)) q)
/-- isinstance(v, x) -/
theorem call_isO (o : Own X.K x) (cl : Cls X.K (He.ga X.K x)) : CallR X (.builtin "isinstance") (fun vs H Q => ∃ v, vs = [v, .ref (He.ga X.K x)] ∧ ((∃ a dx fs, v = .ref a ∧ H a = some (.ins (He.ga X.K x) dx fs) ∧ Q (.bl true) H) ∨ ∃ k, Of X.K H v k ∧ k ≠ .obj ∧ Q (.bl false) H)) :=
  callR_imp call_isi fun vs H Q ⟨v, e, h⟩ => by
    subst e
    rcases h with ⟨a, dx, fs, rfl, ha, q⟩ | ⟨k, hk, nk, q⟩
    · exact ⟨_, _, _, _, true, rfl, .own _, .base (.ins ha cl o.ha o.hn o.tk o.mo), o.me, q⟩
    · have ty : TyX X.K H v (.type k.name) := by
        cases hk with
        | non => exact .base .non
        | bl b => exact .base (.bl b)
        | int b => exact .base (.int b)
        | str b => exact .base (.str b)
        | list b => exact ty_sqL b
        | tuple b => exact ty_sqT b
        | dict b => exact b
        | obj b _ => exact absurd rfl nk
      exact ⟨_, _, _, _, false, rfl, .own _, ty, o.un k nk, q⟩
/-- an instance of x is of no built-in kind -/
theorem own_kd {K : PySem.W.Frag} {H : Hp} {a dx : Addr} {fs : List (Str × V)} (o : Own K x) (cl : Cls K (He.ga K x)) (h : H a = some (.ins (He.ga K x) dx fs)) : Of K H (.ref a) .obj := .obj (.base (.ins h cl o.ha o.hn o.tk o.mo)) o.no
end

end M

set_option Elab.async false
set_option linter.all false
set_option maxRecDepth 100000
set_option maxHeartbeats 2000000
namespace M
open PySem PySem.Spec PyProof.Rows L2

/-! ### methods that may raise -/
structure MeX (P : Program) (w : World) (K : PySem.W.Frag) (mg : Str → Option Value) (base : Heap) (k : Nat) (C : Addr) (m : Str) (sp : Sp) : Prop where
  ex : ∃ (f : Addr) (fd : FuncData) (ps : List Str), Cls K C ∧ Meth K C m f ∧ FnOk P w K mg base (L2.CX P w) k f fd ps sp ∧ Binds K fd ps []
section
variable {P : Program} {w : World} {K : PySem.W.Frag} {mg : Str → Option Value} {base : Heap} {x m q : Str} {st : Stmt} {N ps : List Str} {k : Nat} {sp : Sp} {C f : Addr}
theorem me_ofX {C : Str} (F : ∃ fd, FunD K m q (defArgs st) (defBody st) (defScope st) [] [] (He.fAd K (C, some m)) fd) (c : Cls K (He.ga K C)) (g : Meth K (He.ga K C) m (He.ma K (He.ga K C) m)) (S : FnScope N ps (defScope st)) (hb : BindsH m q st ps) (len : ∀ vs H Q E, sp vs H Q E → vs.length = ps.length)
    (hbody : BodyX P w K mg base q st N k (He.fAd K (C, some m)) sp) : MeX P w K mg base (k + 1) (He.ga K C) m sp := by
  obtain ⟨fd, F⟩ := F
  exact ⟨_, fd, ps, c, g, F.ok S len hbody, F.bindsN hb⟩
theorem eqs_of (F : ∃ fd, FunD K "__eq__" q (defArgs st) (defBody st) (defScope st) [] [] (He.fAd K (x, some "__eq__")) fd) (o : Own K x) (S : FnScope N ps (defScope st)) (hb : BindsH "__eq__" q st ps) (len : ∀ vs H Q E, sp vs H Q E → vs.length = ps.length)
    (hbody : BodyH P w K mg base q st N k (He.fAd K (x, some "__eq__")) sp) : Eqs P w K mg base (k + 1) x sp := by
  obtain ⟨fd, F⟩ := F
  exact ⟨o, fd, ps, fn_d F S len hbody, F.bindsN hb⟩
end
section
variable {X : Cx} {k j : Nat} {x m : Str} {sp : Sp} {C : Addr} {p pos apos : Pos} {e o : Expr} {es : List Expr} {t : TA} {ta : TE}
theorem pe_meX {pl : Sem Bool} {W : WX} (c : MeX X.prog X.w X.K X.mg X.base k C m sp) (hr : Room j X.A) (tk : Takes X W) (he : PE X o ta) (ha : PA X (e :: es) t) (hk : k ≤ j := by decide)
    (hst : starEach (e :: es) X.env = (false, eval e X.env) :: starEach es X.env := by rfl) (hpl : (backTo pos (starEach es X.env)).any (·.1) = false := by rfl)
    (ht : eval (.Call (.Attribute o m apos) (e :: es) [] pos) X.env = (do
      let ov ← eval o X.env
      standAt apos.atName
      let (f, first) ← holding [ov] (getMethod ov m pl)
      callWith pos f first (backTo pos (starEach (e :: es) X.env)) (backToKw pos (keywordEach [] X.env))) := by rfl) :
    PE X (.Call (.Attribute o m apos) (e :: es) [] pos) (fun σ H Q => ta σ H fun x H1 => ∃ a dx fs, x = .ref a ∧ H1 a = some (.ins C dx fs) ∧ fs.lookup m = none ∧ t σ H1 fun vs H2 => sp (x :: vs) H2 Q (WE W σ)) := by
  obtain ⟨f, fd, ps, hc, hm, F, b⟩ := c.ex
  refine ⟨fun pins s σ H Q I h => ?_⟩
  refine PySem.W.methodCall_KW (pl := pl) (thn (he.run pins s σ H _ I h) fun u s1 ⟨x, H1, I1, rx, a, dx, fs, ex, ea, l, q⟩ => ?_) ht
  subst ex
  obtain rfl : u = Value.ref a := rx
  refine getmeth_ok I1 ea hc hm l ?_
  refine PySem.W.callWith_K (first := [.ref a]) (h₀ := X.base) I.ok.mod.kin hm.kp (thn (ha.run pos pins s1 σ H1 _ I1 q) fun us s2 ⟨vs, H2, I2, r, q2⟩ => ⟨I2.kIn, ?_⟩) hst hpl
  exact run_fnS (E := WE W) (us := .ref a :: us) (vs := .ref a :: vs) F (hr.mono hk) b (passAt tk σ) I2 (.cons rfl r) q2
end
/-! ### what the own == of a vault says -/
def vEq (v u : Vlt) : Bool := PyData.eqv (.tuple (v.cells.map cellD)) (.tuple (u.cells.map cellD)) && PyData.eqv (.tuple (v.deeds.map deedD)) (.tuple (u.deeds.map deedD))
theorem vat_ins {K : PySem.W.Frag} {H : Hp} {p : Addr} {v : Vlt} (h : VaultAt K H p v) : ∃ dx fs, H p = some (.ins (He.ga K "Vault") dx fs) := by
  obtain ⟨dx, a, d, c, b, kvs, e, _⟩ := h.ob
  exact ⟨dx, _, e⟩
theorem vat_me {K : PySem.W.Frag} {H : Hp} {p : Addr} {v : Vlt} (h : VaultAt K H p v) (m : Str) (h1 : ¬ m = "_cells" := by decide +kernel) (h2 : ¬ m = "_deeds" := by decide +kernel) (h3 : ¬ m = "_codes" := by decide +kernel) (h4 : ¬ m = "_coins" := by decide +kernel) :
    ∃ dx fs, H p = some (.ins (He.ga K "Vault") dx fs) ∧ fs.lookup m = none := by
  obtain ⟨dx, a, d, c, b, kvs, e1, _⟩ := h.ob
  exact ⟨dx, _, e1, vf_no a d c b h1 h2 h3 h4⟩
namespace J
section
variable {P : Program} {w : World} {K : PySem.W.Frag} {mg : Str → Option Value} {base : Heap}
def spVEq (K : PySem.W.Frag) : Sp := fun vs H Q _ => ∃ (p : Addr) (v : Vlt) (y : V), vs = [.ref p, y] ∧ VaultAt K H p v ∧ VGood v ∧ ((∃ s, y = .str s ∧ Q (.bl false) H) ∨ ∃ p2 u, y = .ref p2 ∧ VaultAt K H p2 u ∧ VGood u ∧ Q (.bl (vEq v u)) H)
theorem eq_Vault (T : Txt w K mg) : Eqs P w K mg base 1 "Vault" (spVEq K) := by
  refine eqs_of (N := ["self", "other"]) (ps := ["self", "other"]) T.f_Vault_eq (own_ok T.e_own_Vault) ⟨rfl, rfl, rfl, by decide +kernel, rfl, by decide +kernel, by decide +kernel⟩ (fun _ _ _ _ _ _ us hl => match us, hl with | [_, _], _ => rfl)
    (fun vs H Q E h => by obtain ⟨p, v, y, rfl, hv, gv, h⟩ := h; rfl) (fun cdv A outer s H vs Q E hr h => ?_)
  have nd : (["self", "other"] : List Str).Nodup := by decide +kernel
  obtain ⟨p, v, y, rfl, hv, gv, h⟩ := h
  refine ⟨_, (pss_one (ps_ret (pe_and (pe_callB (call_isO (own_ok T.e_own_Vault) T.c_Vault) (by rfl) T.b_isinstance boot_isinstance (pa_cons (pv 1) (pa_cons (pe_gr T.g_Vault) pa_nil))) (pe_and (pe_cmpR (op_eqD hr.units) (pe_fld (pv 0) rfl) (pe_fld (pv 1) rfl) (nomark _)) (pe_one (pe_cmpR (op_eqD hr.units) (pe_fld (pv 0) rfl) (pe_fld (pv 1) rfl) (nomark _))))))), ?_⟩
  rcases h with ⟨s, rfl, q⟩ | ⟨p2, u, rfl, hu, gu, q⟩
  · exact ⟨_, rfl, _, rfl, .inr ⟨.str, .str s, by decide, _, rfl, iteF q⟩⟩
  · obtain ⟨dx, a, d, c, b, kvs, h1, h2, h3, _⟩ := hv.ob
    obtain ⟨dx2, a2, d2, c2, b2, kvs2, k1, k2, k3, _⟩ := hu.ob
    refine ⟨_, rfl, _, rfl, .inl ⟨p2, _, _, rfl, k1, _, rfl, iteT ?_⟩⟩
    refine ⟨_, rfl, p, _, _, _, _, rfl, h1, T.c_Vault, T.n_Vault_cells, vf_cells .., _, rfl, p2, _, _, _, _, rfl, k1, T.c_Vault, T.n_Vault_cells, vf_cells .., _, _, h2, k2, fit_shaped (by decide) (cells_fit gv), fit_shaped (by decide) (cells_fit gu), _, rfl, ?_⟩
    unfold vEq at q
    cases e : PyData.eqv (.tuple (v.cells.map cellD)) (.tuple (u.cells.map cellD)) with
    | false =>
      rw [e] at q
      exact iteF q
    | true =>
      rw [e] at q
      exact iteT ⟨_, rfl, p, _, _, _, _, rfl, h1, T.c_Vault, T.n_Vault_deeds, vf_deeds .., _, rfl, p2, _, _, _, _, rfl, k1, T.c_Vault, T.n_Vault_deeds, vf_deeds .., _, _, h3, k3, fit_shaped (by decide) (deeds_fit gv), fit_shaped (by decide) (deeds_fit gu), q⟩
end
end J

end M

set_option Elab.async false
set_option linter.all false
set_option maxRecDepth 100000
set_option maxHeartbeats 2000000
namespace M
open PySem PySem.Spec PyProof.Rows L2

/-! ### out of S4, M3 to M5 -/
mutual
theorem cc_loop {c : Int} : ∀ {r : Row} {deep loops : Nat}, r.ok c deep loops → 0 < loops → r.cc = 0
  | .read .., _, _, _, _ => rfl
  | .set .., _, _, _, _ => rfl
  | .swap .., _, _, _, _ => rfl
  | .keep .., _, _, _, _ => rfl
  | .ans .., _, _, _, _ => rfl
  | .coin .., _, _, h, l => by have := h.2; omega
  | .iff e a b, _, _, h, l => by
    show rowsCc a + rowsCc b = 0
    rw [ccs_loop h.2.1 l, ccs_loop h.2.2 l]
  | .times e a, _, loops, h, l => ccs_loop (rs := a) h.2.2 (Nat.succ_pos loops)
theorem ccs_loop {c : Int} : ∀ {rs : List Row} {deep loops : Nat}, rowsOk c deep loops rs → 0 < loops → rowsCc rs = 0
  | [], _, _, _, _ => rfl
  | r :: rs, _, _, h, l => by
    show r.cc + rowsCc rs = 0
    rw [cc_loop h.2.1 l, ccs_loop h.2.2 l]
end

theorem PoolAt.but {H H' : Hp} {a D : Addr} (ne : a ≠ D) (b : But D H H') (h : PoolAt H a) : PoolAt H' a := by
  obtain ⟨_, _, _, h, r⟩ := h
  exact ⟨_, _, _, b _ _ ne h, r⟩
theorem rows_noL' {rs : List Row} : ∀ d ∈ rs.map Row.d, NoL d := fun d hd => by
  obtain ⟨r, _, rfl⟩ := List.mem_map.mp hd
  exact r.noL
def But2 (p b : Addr) (H H' : Hp) : Prop := ∀ a o, a ≠ p → a ≠ b → H a = some o → H' a = some o
theorem But2.refl (p b : Addr) (H : Hp) : But2 p b H H := fun _ _ _ _ e => e
theorem But2.trans {p b : Addr} {H1 H2 H3 : Hp} (s : But2 p b H1 H2) (t : But2 p b H2 H3) : But2 p b H1 H3 := fun a o h1 h2 e => t a o h1 h2 (s a o h1 h2 e)
theorem But2.l {p b : Addr} {H H' : Hp} (s : But p H H') : But2 p b H H' := fun a o h _ e => s a o h e
theorem But2.r {p b : Addr} {H H' : Hp} (s : But b H H') : But2 p b H H' := fun a o _ h e => s a o h e
theorem But2.same {p b : Addr} {H H' : Hp} (s : Same H H') : But2 p b H H' := fun a o _ _ e => s a o e
theorem sqT_b2 {K : PySem.W.Frag} {p b : Addr} {H H' : Hp} (c1 : Ch H p) (c2 : Ch H b) (s : But2 p b H H') {a : Addr} {xs : List V} (h : SqT K H a xs) : SqT K H' a xs := by
  rcases h with (h | ⟨o, h⟩) | h
  · exact .inl (.inl (s _ _ (fun e => c1.1 _ (e ▸ h)) (fun e => c2.1 _ (e ▸ h)) h))
  · exact .inl (.inr ⟨o, s _ _ (fun e => c1.2 _ _ (e ▸ h)) (fun e => c2.2 _ _ (e ▸ h)) h⟩)
  · exact .inr h
section
variable {K : PySem.W.Frag} {H H' : Hp} {p b : Addr}
mutual
theorem dp_b2 (c1 : Ch H p) (c2 : Ch H b) (s : But2 p b H H') : ∀ {v : V} {d : PyData}, Dp K H v d → NoL d → Dp K H' v d
  | _, _, .non, _ => .non
  | _, _, .bl b, _ => .bl b
  | _, _, .int i, _ => .int i
  | _, _, .str x, _ => .str x
  | _, _, .lst _ _, n => nomatch n
  | _, _, .tup h r, n => .tup (sqT_b2 c1 c2 s h) (dps_b2 c1 c2 s r (by cases n with | tup h => exact h))
theorem dps_b2 (c1 : Ch H p) (c2 : Ch H b) (s : But2 p b H H') : ∀ {vs : List V} {ds : List PyData}, DpAll K H vs ds → (∀ d ∈ ds, NoL d) → DpAll K H' vs ds
  | _, _, .nil, _ => .nil
  | _, _, .cons h r, n => .cons (dp_b2 c1 c2 s h (n _ List.mem_cons_self)) (dps_b2 c1 c2 s r fun d hd => n d (List.mem_cons_of_mem _ hd))
end
end
theorem cl_app : ∀ (as bs : List Row), rowsCl (as ++ bs) = rowsCl as + rowsCl bs
  | [], bs => (Nat.zero_add _).symm
  | a :: as, bs => by
    show a.cl + rowsCl (as ++ bs) = a.cl + rowsCl as + rowsCl bs
    rw [cl_app as bs, Nat.add_assoc]
theorem cc_app : ∀ (as bs : List Row), rowsCc (as ++ bs) = rowsCc as + rowsCc bs
  | [], bs => (Nat.zero_add _).symm
  | a :: as, bs => by
    show a.cc + rowsCc (as ++ bs) = a.cc + rowsCc as + rowsCc bs
    rw [cc_app as bs, Nat.add_assoc]
theorem ok_app {c : Int} {deep loops : Nat} : ∀ {as bs : List Row}, rowsOk c deep loops as → rowsOk c deep loops bs → rowsOk c deep loops (as ++ bs)
  | [], bs, _, h => h
  | a :: as, bs, h, k => ⟨h.1, h.2.1, ok_app h.2.2 k⟩
theorem in_x : ("x" : Str) ∈ regs5 := by decide +kernel
theorem let26 {i : Int} (h : 0 ≤ i ∧ i < 26) : atI ("abcdefghijklmnopqrstuvwxyz" : Str).cps.toList i = some (97 + i.toNat) := by
  obtain ⟨k, rfl⟩ : ∃ k : _root_.Fin 26, i = ((k.val : Nat) : Int) := ⟨⟨i.toNat, by omega⟩, by show i = ((i.toNat : Nat) : Int); omega⟩
  revert k
  decide +kernel
theorem cells_noL (cs : List (Int × Int)) : ∀ d ∈ cs.map cellD, NoL d := fun d h => by
  obtain ⟨c, _, rfl⟩ := List.mem_map.mp h
  exact cell_noL c
theorem pool_ne {H : Hp} {p b : Addr} (h : PoolAt H p) (nb : H b = none) : p ≠ b := fun e => by
  obtain ⟨_, _, _, h, _⟩ := h
  rw [e, nb] at h
  cases h
theorem joinL_nil : ∀ ps : List (List Nat), TL.joinL [] ps = ps.flatten
  | [] => rfl
  | [p] => by show p = p ++ []; rw [List.append_nil]
  | p :: q :: r => by
    show p ++ ([] ++ TL.joinL [] (q :: r)) = p ++ (q :: r).flatten
    rw [List.nil_append, joinL_nil (q :: r)]
/-- texts of one letter each, joined -/
theorem join_letters {ss : List Str} (h : ∀ s ∈ ss, ∃ c, s = ⟨#[c]⟩ ∧ 97 ≤ c ∧ c ≤ 122) : (Txt.join ("" : Str) ss).cps.toList.length = ss.length ∧ ∀ c ∈ (Txt.join ("" : Str) ss).cps.toList, 97 ≤ c ∧ c ≤ 122 := by
  have e : (Txt.join ("" : Str) ss).cps.toList = (ss.map TL.tl).flatten := by
    have := TL.tl_join ("" : Str) ss
    rw [← TL.join_eq] at this
    rw [← joinL_nil]
    exact this
  rw [e]
  clear e
  induction ss with
  | nil => exact ⟨rfl, fun c hc => by cases hc⟩
  | cons s r ih =>
    obtain ⟨c, rfl, h1, h2⟩ := h s List.mem_cons_self
    obtain ⟨i1, i2⟩ := ih fun x hx => h x (List.mem_cons_of_mem _ hx)
    have et : TL.tl (⟨#[c]⟩ : Str) = [c] := rfl
    rw [List.map_cons, List.flatten_cons, et]
    refine ⟨by rw [List.length_append, i1]; simp; omega, fun d hd => ?_⟩
    rcases List.mem_append.mp hd with hd | hd
    · rw [List.mem_singleton.mp hd]
      exact ⟨h1, h2⟩
    · exact i2 d hd
theorem str_len (s : Str) : s.length = s.cps.toList.length := by rw [Array.length_toList]; rfl
theorem deeds_noL (ds : List (Str × Int × List Row)) : ∀ d ∈ ds.map deedD, NoL d := fun d h => by
  obtain ⟨c, _, rfl⟩ := List.mem_map.mp h
  exact deed_noL c
theorem pool_nl {H : Hp} {p l : Addr} (h : PoolAt H p) (nb : H l = none) : l ≠ p := fun e => (pool_ne h nb) e.symm
/-! ### out of Q1, W0 to W3 -/
theorem ix_tupK {X : Cx} (K : PySem.W.Frag) (hK : X.K = K) : IxR X (rIxT K) := hK ▸ ix_tup
/-- a number of one digit -/
def dg (i : Int) : Str := ⟨#[48 + i.toNat]⟩
theorem dig_str {i : Int} (h : 0 ≤ i ∧ i ≤ 9) : Str.ofString (toString i) = dg i := by
  obtain ⟨k, rfl⟩ : ∃ k : _root_.Fin 10, i = ((k.val : Nat) : Int) := ⟨⟨i.toNat, by omega⟩, by show i = ((i.toNat : Nat) : Int); omega⟩
  revert k
  decide +kernel
theorem dig_log {i : Int} (h : 0 ≤ i ∧ i ≤ 9) : i.natAbs.log2 < 1920 := by
  obtain ⟨k, rfl⟩ : ∃ k : _root_.Fin 10, i = ((k.val : Nat) : Int) := ⟨⟨i.toNat, by omega⟩, by show i = ((i.toNat : Nat) : Int); omega⟩
  revert k
  decide +kernel
theorem dig_int {i : Int} (h : 0 ≤ i ∧ i ≤ 9) : PySem.intText? (dg i) = some i := by
  obtain ⟨k, rfl⟩ : ∃ k : _root_.Fin 10, i = ((k.val : Nat) : Int) := ⟨⟨i.toNat, by omega⟩, by show i = ((i.toNat : Nat) : Int); omega⟩
  revert k
  decide +kernel
theorem tl_dg (i : Int) : TL.tl (dg i) = [48 + i.toNat] := rfl
theorem len_dg (i : Int) : (dg i).length = 1 := rfl
theorem tl_len (s : Str) : s.length = (TL.tl s).length := TL.len_tl s
theorem len_app (a b : Str) : (a ++ b).length = a.length + b.length := by rw [tl_len, TL.tl_append, List.length_append, ← tl_len, ← tl_len]
theorem tl_sp : TL.tl (" " : Str) = [32] := by decide +kernel
theorem tl_nl : TL.tl ("\n" : Str) = [10] := by decide +kernel
theorem empty_app (a : Str) : Str.empty ++ a = a := TL.ext_tl (by rw [TL.tl_append]; rfl)
theorem name_free {s : Str} (h : NameOk s) {x : Nat} (hx : x < 97) : x ∉ TL.tl s := fun hm => by
  have := h.2.2 x hm
  omega
theorem dg_free {i : Int} (h : 0 ≤ i ∧ i ≤ 8) {x : Nat} (hx : x < 48) : x ∉ TL.tl (dg i) := fun hm => by
  rw [tl_dg, List.mem_singleton] at hm
  omega
theorem sp_all : (" " : Str).cps.all (· < 256) = true := by decide +kernel
theorem nl_all : ("\n" : Str).cps.all (· < 256) = true := by decide +kernel
/-! ### a text cut at one sign -/
theorem spl1_ne (c : Nat) : ∀ (l acc : List Nat), TL.spl [c] 0 acc l ≠ []
  | [], acc => by
    rw [TL.spl_nil]
    exact List.cons_ne_nil _ _
  | x :: r, acc => by
    by_cases e : x = c
    · subst e
      rw [TL.spl_hit (by simp [TL.pre])]
      exact List.cons_ne_nil _ _
    · rw [TL.spl_miss (TL.pre_of_head [] r e)]
      exact spl1_ne c r _
theorem joinL_cons {s p : List Nat} {ps : List (List Nat)} (h : ps ≠ []) : TL.joinL s (p :: ps) = p ++ (s ++ TL.joinL s ps) := by
  cases ps with
  | nil => exact absurd rfl h
  | cons q r => rfl
theorem spl1_join (c : Nat) : ∀ (l acc : List Nat), TL.joinL [c] (TL.spl [c] 0 acc l) = acc ++ l
  | [], acc => by
    rw [TL.spl_nil, List.append_nil]
    rfl
  | x :: r, acc => by
    by_cases e : x = c
    · subst e
      rw [TL.spl_hit (by simp [TL.pre]), show ([x] : List Nat).length - 1 = 0 from rfl, joinL_cons (spl1_ne _ _ _), spl1_join x r []]
      rfl
    · rw [TL.spl_miss (TL.pre_of_head [] r e), spl1_join c r, List.append_assoc]
      rfl
theorem spl1_free (c : Nat) : ∀ (l acc : List Nat), c ∉ acc → ∀ p ∈ TL.spl [c] 0 acc l, c ∉ p
  | [], acc, h, p, hp => by
    rw [TL.spl_nil, List.mem_singleton] at hp
    rwa [hp]
  | x :: r, acc, h, p, hp => by
    by_cases e : x = c
    · subst e
      rw [TL.spl_hit (by simp [TL.pre])] at hp
      rcases List.mem_cons.mp hp with hp | hp
      · rwa [hp]
      · exact spl1_free x r [] (fun z => nomatch z) p hp
    · rw [TL.spl_miss (TL.pre_of_head [] r e)] at hp
      refine spl1_free c r _ (fun z => ?_) p hp
      rcases List.mem_append.mp z with z | z
      · exact h z
      · exact e (List.mem_singleton.mp z).symm
theorem spl1_sub (c : Nat) : ∀ (l acc : List Nat), ∀ p ∈ TL.spl [c] 0 acc l, p.length ≤ acc.length + l.length ∧ ∀ x ∈ p, x ∈ acc ∨ x ∈ l
  | [], acc, p, hp => by
    rw [TL.spl_nil, List.mem_singleton] at hp
    subst hp
    exact ⟨Nat.le_refl _, fun x hx => .inl hx⟩
  | y :: r, acc, p, hp => by
    by_cases e : y = c
    · subst e
      rw [TL.spl_hit (by simp [TL.pre])] at hp
      rcases List.mem_cons.mp hp with hp | hp
      · subst hp
        exact ⟨Nat.le_add_right _ _, fun x hx => .inl hx⟩
      · obtain ⟨h1, h2⟩ := spl1_sub y r [] p hp
        rw [List.length_nil] at h1
        refine ⟨by rw [List.length_cons]; omega, fun x hx => ?_⟩
        rcases h2 x hx with z | z
        · cases z
        · exact .inr (List.mem_cons_of_mem _ z)
    · rw [TL.spl_miss (TL.pre_of_head [] r e)] at hp
      obtain ⟨h1, h2⟩ := spl1_sub c r _ p hp
      rw [List.length_append, List.length_singleton] at h1
      refine ⟨by rw [List.length_cons]; omega, fun x hx => ?_⟩
      rcases h2 x hx with z | z
      · rcases List.mem_append.mp z with z | z
        · exact .inl z
        · exact .inr (by rw [List.mem_singleton.mp z]; exact List.mem_cons_self)
      · exact .inr (List.mem_cons_of_mem _ z)
theorem spl1_len (c : Nat) : ∀ (l acc : List Nat), (TL.spl [c] 0 acc l).length ≤ l.length + 1
  | [], acc => by
    rw [TL.spl_nil]
    exact Nat.le_refl _
  | y :: r, acc => by
    by_cases e : y = c
    · subst e
      rw [TL.spl_hit (by simp [TL.pre]), List.length_cons, List.length_cons]
      exact Nat.succ_le_succ (spl1_len y r [])
    · rw [TL.spl_miss (TL.pre_of_head [] r e), List.length_cons]
      exact Nat.le_succ_of_le (spl1_len c r _)
/-- a text cut at the one sign of y -/
theorem split_one {x y : Str} {c : Nat} (hy : TL.tl y = [c]) (h : y.cps.all (· < 256) = true) : (Txt.split x y).map TL.tl = TL.spl [c] 0 [] (TL.tl x) := by
  have e := TL.split_spl x y (by rw [hy]; exact List.cons_ne_nil _ _) (TL.kind_ok h)
  rwa [hy] at e
theorem split_back {x y : Str} {c : Nat} (hy : TL.tl y = [c]) (h : y.cps.all (· < 256) = true) : Txt.join y (Txt.split x y) = x := by
  refine TL.ext_tl ?_
  rw [TL.join_eq, TL.tl_join, split_one hy h, hy, spl1_join]
  rfl
theorem split_free {x y : Str} {c : Nat} (hy : TL.tl y = [c]) (h : y.cps.all (· < 256) = true) {p : Str} (hp : p ∈ Txt.split x y) : c ∉ TL.tl p ∧ p.length ≤ x.length ∧ ∀ z ∈ TL.tl p, z ∈ TL.tl x := by
  have m : TL.tl p ∈ TL.spl [c] 0 [] (TL.tl x) := by
    rw [← split_one hy h]
    exact List.mem_map_of_mem hp
  obtain ⟨h1, h2⟩ := spl1_sub c (TL.tl x) [] _ m
  refine ⟨spl1_free c _ [] (fun z => nomatch z) _ m, by rw [tl_len, tl_len x]; rw [List.length_nil] at h1; omega, fun z hz => ?_⟩
  rcases h2 z hz with q | q
  · cases q
  · exact q
theorem split_many {x y : Str} {c : Nat} (hy : TL.tl y = [c]) (h : y.cps.all (· < 256) = true) : 1 ≤ (Txt.split x y).length ∧ (Txt.split x y).length ≤ x.length + 1 := by
  have e : (Txt.split x y).length = (TL.spl [c] 0 [] (TL.tl x)).length := by rw [← split_one hy h, List.length_map]
  rw [e, tl_len]
  exact ⟨List.length_pos_iff.mpr (spl1_ne _ _ _), spl1_len _ _ _⟩
theorem sign_gt {a c : Nat} (h : c < a) : (!decide (([c] : List Nat) < [a])) = false := by
  have : ([c] : List Nat) < [a] := by
    rw [List.cons_lt_cons_iff]
    exact .inl h
  rw [decide_eq_true this]
  rfl
theorem if_gt_of {c : Bool} {A B : Prop} (hc : c = false) (h : A) : if (!c) = true then A else B := by
  rw [hc]
  exact iteT h
theorem if_gt2_of {c : Bool} {A B : Prop} (hc : c = false) (h : B) : if c = true then A else B := by
  rw [hc]
  exact iteF h
def digI (w : Str) : Option Int := match TL.tl w with
  | [c] => if 48 ≤ c ∧ c ≤ 57 then some ((c : Int) - 48) else none
  | _ => none
theorem digI_ok {w : Str} {i : Int} (h : digI w = some i) : w = dg i ∧ 0 ≤ i ∧ i ≤ 9 := by
  unfold digI at h
  split at h
  · rename_i c e
    split at h
    · rename_i o
      cases h
      refine ⟨TL.ext_tl ?_, by omega, by omega⟩
      rw [e, tl_dg]
      congr 1
      omega
    · cases h
  · cases h
theorem digI_dg {i : Int} (h : 0 ≤ i ∧ i ≤ 9) : digI (dg i) = some i := by
  unfold digI
  rw [tl_dg]
  show (if 48 ≤ 48 + i.toNat ∧ 48 + i.toNat ≤ 57 then some (((48 + i.toNat : Nat) : Int) - 48) else none) = some i
  rw [if_pos (by omega)]
  congr 1
  omega
theorem int_two : ∀ a : _root_.Fin 9, ∀ b : _root_.Fin 10, PySem.intText? (⟨#[49 + a.val, 48 + b.val]⟩ : Str) = some (((10 * (a.val + 1) + b.val : Nat) : Nat) : Int) := by decide +kernel
theorem int_three : ∀ a : _root_.Fin 9, ∀ b : _root_.Fin 10, ∀ c : _root_.Fin 10, PySem.intText? (⟨#[49 + a.val, 48 + b.val, 48 + c.val]⟩ : Str) = some (((100 * (a.val + 1) + 10 * b.val + c.val : Nat) : Nat) : Int) := by decide +kernel
/-- what number_in may say of a word -/
def NumOf (w : Str) (i : Int) : Prop := digI w = some i ∨ (digI w = none ∧ (i = -1 ∨ 10 ≤ i))
theorem digI_len {w : Str} (h : w.length ≠ 1) : digI w = none := by
  cases e : digI w with
  | none => rfl
  | some i =>
    obtain ⟨rfl, _⟩ := digI_ok e
    exact absurd rfl h
theorem digI_bad {w : Str} {c : Nat} (hc : c ∈ TL.tl w) (h : ¬ (48 ≤ c ∧ c ≤ 57)) : digI w = none := by
  cases e : digI w with
  | none => rfl
  | some i =>
    obtain ⟨rfl, h0, h9⟩ := digI_ok e
    rw [tl_dg, List.mem_singleton] at hc
    exact absurd ⟨by omega, by omega⟩ h
theorem num_fin {w : Str} (h1 : 1 ≤ w.length) (h3 : w.length ≤ 3) (hd : ∀ c ∈ TL.tl w, 48 ≤ c ∧ c ≤ 57) (h0 : 1 < w.length → (TL.tl w).head? ≠ some 48) : ∃ v, PySem.intText? w = some v ∧ NumOf w v := by
  have hw : w = ⟨(TL.tl w).toArray⟩ := (TL.mk_tl w).symm
  rw [tl_len] at h1 h3 h0
  generalize TL.tl w = l at hw h1 h3 hd h0
  subst hw
  match l, h1, h3, hd, h0 with
  | [a], _, _, hd, _ =>
    have ha := hd a List.mem_cons_self
    have e : (⟨[a].toArray⟩ : Str) = dg ((a : Int) - 48) := TL.ext_tl (by
      rw [tl_dg]
      show [a] = _
      congr 1
      omega)
    rw [e]
    exact ⟨_, dig_int ⟨by omega, by omega⟩, .inl (digI_dg ⟨by omega, by omega⟩)⟩
  | [a, b], _, _, hd, h0 =>
    have ha := hd a List.mem_cons_self
    have hb := hd b (List.mem_cons_of_mem _ List.mem_cons_self)
    have n0 : a ≠ 48 := fun z => h0 (by show 1 < 2; decide) (by rw [z]; rfl)
    have k := int_two ⟨a - 49, by omega⟩ ⟨b - 48, by omega⟩
    have e : (⟨#[49 + (a - 49), 48 + (b - 48)]⟩ : Str) = ⟨[a, b].toArray⟩ := by
      rw [show 49 + (a - 49) = a by omega, show 48 + (b - 48) = b by omega]
    dsimp only at k
    rw [e] at k
    refine ⟨_, k, .inr ⟨digI_len (by show (2 : Nat) ≠ 1; decide), .inr ?_⟩⟩
    omega
  | [a, b, c], _, _, hd, h0 =>
    have ha := hd a List.mem_cons_self
    have hb := hd b (List.mem_cons_of_mem _ List.mem_cons_self)
    have hc := hd c (List.mem_cons_of_mem _ (List.mem_cons_of_mem _ List.mem_cons_self))
    have n0 : a ≠ 48 := fun z => h0 (by show 1 < 3; decide) (by rw [z]; rfl)
    have k := int_three ⟨a - 49, by omega⟩ ⟨b - 48, by omega⟩ ⟨c - 48, by omega⟩
    have e : (⟨#[49 + (a - 49), 48 + (b - 48), 48 + (c - 48)]⟩ : Str) = ⟨[a, b, c].toArray⟩ := by
      rw [show 49 + (a - 49) = a by omega, show 48 + (b - 48) = b by omega, show 48 + (c - 48) = c by omega]
    dsimp only at k
    rw [e] at k
    refine ⟨_, k, .inr ⟨digI_len (by show (3 : Nat) ≠ 1; decide), .inr ?_⟩⟩
    omega
  | [], h, _, _, _ => exact absurd h (by show ¬ (1 ≤ 0); decide)
  | _ :: _ :: _ :: _ :: _, _, h, _, _ =>
    rw [List.length_cons, List.length_cons, List.length_cons, List.length_cons] at h
    omega
theorem head_at {w : Str} (h : 1 ≤ w.length) : ∃ c r, TL.tl w = c :: r ∧ atI w.cps.toList 0 = some c := by
  rw [tl_len] at h
  cases e : TL.tl w with
  | nil =>
    rw [e] at h
    exact absurd h (by decide)
  | cons c r => exact ⟨c, r, rfl, atI_nat (j := 0) (by show (TL.tl w)[0]? = _; rw [e]; rfl)⟩
/-! ### out of Y0, Y1, Y3, Y4 -/
def sg1 (c : Nat) : Str := ⟨#[c]⟩
theorem tl_sg1 (c : Nat) : TL.tl (sg1 c) = [c] := rfl
theorem sg1_inj {c d : Nat} (h : sg1 c = sg1 d) : c = d := by
  have := congrArg TL.tl h
  rw [tl_sg1, tl_sg1] at this
  exact (List.cons.inj this).1
def regC (c : Nat) : Bool := c == 97 || (c == 98 || (c == 99 || (c == 100 || c == 120)))
def opC (c : Nat) : Bool := c == 43 || (c == 45 || (c == 42 || (c == 61 || c == 60)))
def EOk : Nat → Exp → Prop
  | _, .num i => 0 ≤ i ∧ i ≤ 9
  | _, .reg r => ∃ c, r = sg1 c ∧ regC c = true
  | 0, .op _ _ _ => False
  | n + 1, .op s a b => (∃ c, s = sg1 c ∧ opC c = true) ∧ EOk n a ∧ EOk n b
def etx : Exp → List Nat
  | .num i => [48 + i.toNat]
  | .reg r => TL.tl r
  | .op s a b => 40 :: (etx a ++ (TL.tl s ++ (etx b ++ [41])))
theorem EOk.up : ∀ {n m : Nat} {e : Exp}, EOk n e → n ≤ m → EOk m e
  | _, _, .num i, h, _ => by simp only [EOk] at h ⊢; exact h
  | _, _, .reg r, h, _ => by simp only [EOk] at h ⊢; exact h
  | 0, _, .op _ _ _, h, _ => h.elim
  | n + 1, 0, .op _ _ _, _, l => absurd l (Nat.not_succ_le_zero n)
  | n + 1, m + 1, .op s a b, h, l => ⟨h.1, h.2.1.up (Nat.le_of_succ_le_succ l), h.2.2.up (Nat.le_of_succ_le_succ l)⟩
theorem regC_cases {c : Nat} (h : regC c = true) : c = 97 ∨ c = 98 ∨ c = 99 ∨ c = 100 ∨ c = 120 := by
  simpa [regC] using h
theorem opC_cases {c : Nat} (h : opC c = true) : c = 43 ∨ c = 45 ∨ c = 42 ∨ c = 61 ∨ c = 60 := by
  simpa [opC] using h
theorem EOk.num_ok {n : Nat} {i : Int} (h : EOk n (.num i)) : 0 ≤ i ∧ i ≤ 9 := by simpa only [EOk] using h
theorem EOk.reg_ok {n : Nat} {r : Str} (h : EOk n (.reg r)) : ∃ c, r = sg1 c ∧ regC c = true := by simpa only [EOk] using h
theorem EOk.op_ok {n : Nat} {s : Str} {a b : Exp} (h : EOk n (.op s a b)) : ∃ m, n = m + 1 ∧ (∃ c, s = sg1 c ∧ opC c = true) ∧ EOk m a ∧ EOk m b := by
  cases n with
  | zero => exact h.elim
  | succ m => exact ⟨m, rfl, h⟩
theorem etx_len : ∀ {n : Nat} {e : Exp}, EOk n e → 1 ≤ (etx e).length ∧ (etx e).length + 3 ≤ 4 * 2 ^ n
  | n, .num i, _ => ⟨Nat.le_refl 1, by have := Nat.one_le_two_pow (n := n); show 1 + 3 ≤ _; omega⟩
  | n, .reg r, h => by
    obtain ⟨c, rfl, _⟩ := h.reg_ok
    have := Nat.one_le_two_pow (n := n)
    exact ⟨Nat.le_refl 1, by show 1 + 3 ≤ _; omega⟩
  | n, .op s a b, h => by
    obtain ⟨m, rfl, ⟨c, rfl, _⟩, ha, hb⟩ := h.op_ok
    obtain ⟨a1, a2⟩ := etx_len ha
    obtain ⟨b1, b2⟩ := etx_len hb
    have e : (etx (.op (sg1 c) a b)).length = (etx a).length + (etx b).length + 3 := by
      show (40 :: (etx a ++ ([c] ++ (etx b ++ [41])))).length = _
      simp only [List.length_cons, List.length_append, List.length_nil]
      omega
    rw [e, Nat.pow_succ]
    omega
/-! ### the program's reader -/
def atLeaf (L : List Nat) (p : Nat) : Option (Exp × Nat) := match L[p]? with
  | none => none
  | some c => if 48 ≤ c ∧ c ≤ 57 then some (.num ((c : Int) - 48), p + 1) else if regC c = true then some (.reg (sg1 c), p + 1) else none
def atE (L : List Nat) : Nat → Nat → Option (Exp × Nat)
  | 0, p => atLeaf L p
  | m + 1, p => if L[p]? = some 40 then
      match atE L m (p + 1) with
      | none => none
      | some (a, q) => match L[q]? with
        | none => none
        | some s => if opC s = true then
            match atE L m (q + 1) with
            | none => none
            | some (b, r) => if L[r]? = some 41 then some (.op (sg1 s) a b, r + 1) else none
          else none
    else atLeaf L p
theorem drop_one {L r : List Nat} {p c : Nat} (h : L.drop p = c :: r) : L[p]? = some c ∧ L.drop (p + 1) = r := by
  have e : L[p]? = (L.drop p)[0]? := by rw [List.getElem?_drop, Nat.add_zero]
  refine ⟨by rw [e, h]; rfl, ?_⟩
  rw [← List.drop_drop, h]
  rfl
theorem drop_at {L : List Nat} {p c : Nat} (h : L[p]? = some c) : L.drop p = c :: L.drop (p + 1) := by
  obtain ⟨hp, e⟩ := List.getElem?_eq_some_iff.mp h
  rw [← e]
  exact List.drop_eq_getElem_cons hp
theorem drop_more {L a r : List Nat} {p : Nat} (h : L.drop p = a ++ r) : L.drop (p + a.length) = r := by
  rw [← List.drop_drop, h, List.drop_left]
theorem atLeaf_ok {L : List Nat} {p q n : Nat} {e : Exp} (h : atLeaf L p = some (e, q)) : EOk n e ∧ L.drop p = etx e ++ L.drop q ∧ q = p + 1 ∧ q ≤ L.length := by
  unfold atLeaf at h
  split at h
  · cases h
  · rename_i c hc
    have hl := (List.getElem?_eq_some_iff.mp hc).1
    split at h
    · rename_i hd
      cases h
      refine ⟨by simp only [EOk]; omega, ?_, rfl, hl⟩
      rw [drop_at hc]
      show c :: _ = (48 + ((c : Int) - 48).toNat) :: _
      congr 1
      omega
    · split at h
      · rename_i hr
        cases h
        exact ⟨by simp only [EOk]; exact ⟨c, rfl, hr⟩, drop_at hc, rfl, hl⟩
      · cases h
theorem atE_ok {L : List Nat} : ∀ {n p q : Nat} {e : Exp}, atE L n p = some (e, q) → EOk n e ∧ L.drop p = etx e ++ L.drop q ∧ p < q ∧ q ≤ L.length
  | 0, p, q, e, h => by
    obtain ⟨a, b, c, d⟩ := atLeaf_ok (n := 0) h
    exact ⟨a, b, by omega, d⟩
  | m + 1, p, q, e, h => by
    unfold atE at h
    split at h
    · rename_i h40
      split at h
      · cases h
      · rename_i a q1 h1
        obtain ⟨oa, da, la, _⟩ := atE_ok h1
        split at h
        · cases h
        · rename_i s hs
          split at h
          · rename_i os
            split at h
            · cases h
            · rename_i b r h2
              obtain ⟨ob, db, lb, _⟩ := atE_ok h2
              split at h
              · rename_i h41
                cases h
                refine ⟨⟨⟨s, rfl, os⟩, oa, ob⟩, ?_, by omega, (List.getElem?_eq_some_iff.mp h41).1⟩
                rw [drop_at h40, da, drop_at hs, db, drop_at h41]
                show 40 :: (etx a ++ s :: (etx b ++ 41 :: _)) = (40 :: (etx a ++ ([s] ++ (etx b ++ [41])))) ++ _
                simp only [List.cons_append, List.append_assoc, List.nil_append]
              · cases h
          · cases h
    · obtain ⟨a, b, c, d⟩ := atLeaf_ok (n := m + 1) h
      exact ⟨a, b, by omega, d⟩
theorem atLeaf_num {L : List Nat} {p : Nat} {i : Int} (h : 0 ≤ i ∧ i ≤ 9) (e : L[p]? = some (48 + i.toNat)) : atLeaf L p = some (.num i, p + 1) := by
  unfold atLeaf
  rw [e]
  dsimp only
  rw [if_pos (by omega)]
  congr 3
  omega
theorem regC_no {c : Nat} (h : regC c = true) : ¬ (48 ≤ c ∧ c ≤ 57) ∧ c ≠ 40 ∧ c ≠ 41 := by
  rcases regC_cases h with rfl | rfl | rfl | rfl | rfl <;> decide
theorem opC_no {c : Nat} (h : opC c = true) : ¬ (48 ≤ c ∧ c ≤ 57) ∧ c ≠ 40 ∧ c ≠ 41 ∧ regC c = false := by
  rcases opC_cases h with rfl | rfl | rfl | rfl | rfl <;> decide
theorem atLeaf_reg {L : List Nat} {p c : Nat} (h : regC c = true) (e : L[p]? = some c) : atLeaf L p = some (.reg (sg1 c), p + 1) := by
  unfold atLeaf
  rw [e]
  dsimp only
  rw [if_neg (regC_no h).1, if_pos h]
theorem atE_of {L : List Nat} : ∀ {n p : Nat} {e : Exp} {r : List Nat}, EOk n e → L.drop p = etx e ++ r → atE L n p = some (e, p + (etx e).length)
  | n, p, .num i, r, h, d => by
    have b := h.num_ok
    have e1 := (drop_one (c := 48 + i.toNat) (r := r) d).1
    cases n with
    | zero => exact atLeaf_num b e1
    | succ m =>
      unfold atE
      rw [if_neg (by rw [e1]; intro z; have := Option.some.inj z; omega)]
      exact atLeaf_num b e1
  | n, p, .reg s, r, h, d => by
    obtain ⟨c, rfl, hc⟩ := h.reg_ok
    have e1 := (drop_one (c := c) (r := r) d).1
    cases n with
    | zero => exact atLeaf_reg hc e1
    | succ m =>
      unfold atE
      rw [if_neg (by rw [e1]; intro z; exact (regC_no hc).2.1 (Option.some.inj z))]
      exact atLeaf_reg hc e1
  | n, p, .op s a b, r, h, d => by
    obtain ⟨m, rfl, ⟨c, rfl, hc⟩, ha, hb⟩ := h.op_ok
    have d0 : L.drop p = 40 :: (etx a ++ (c :: (etx b ++ 41 :: r))) := by
      rw [d]
      show (40 :: (etx a ++ ([c] ++ (etx b ++ [41])))) ++ r = _
      simp only [List.cons_append, List.append_assoc, List.nil_append]
    obtain ⟨e1, d1⟩ := drop_one d0
    have d2 := drop_more d1
    obtain ⟨e3, d3⟩ := drop_one d2
    have d4 := drop_more d3
    obtain ⟨e5, d5⟩ := drop_one d4
    unfold atE
    rw [if_pos e1, atE_of ha d1]
    dsimp only
    rw [e3]
    dsimp only
    rw [if_pos hc, atE_of hb d3]
    dsimp only
    rw [if_pos e5]
    congr 2
    show _ = p + (40 :: (etx a ++ ([c] ++ (etx b ++ [41])))).length
    simp only [List.length_cons, List.length_append, List.length_nil]
    omega
def inE (L : List Nat) : Option Exp := match atE L 6 0 with
  | some (e, q) => if q = L.length then some e else none
  | none => none
theorem inE_iff {L : List Nat} {e : Exp} : inE L = some e ↔ EOk 6 e ∧ L = etx e := by
  unfold inE
  constructor
  · intro h
    split at h
    · rename_i e' q he
      split at h
      · rename_i hq
        cases h
        obtain ⟨o, d, _, _⟩ := atE_ok he
        rw [hq, List.drop_zero, List.drop_length, List.append_nil] at d
        exact ⟨o, d⟩
      · cases h
    · cases h
  · rintro ⟨o, rfl⟩
    rw [atE_of (r := []) o (by rw [List.drop_zero, List.append_nil])]
    dsimp only
    rw [if_pos (Nat.zero_add _)]
/-! ### the law's reader -/
theorem units65 {k : Nat} {A : Around} (r : Room k A) : A.units + 65 < cLine := by have := r.un; omega
theorem mem_regs {s : Str} : s ∈ regs5 ↔ ∃ c, s = sg1 c ∧ regC c = true := by
  constructor
  · intro h
    rw [show regs5 = [sg1 97, sg1 98, sg1 99, sg1 100, sg1 120] by decide +kernel] at h
    simp only [List.mem_cons, List.not_mem_nil, or_false] at h
    rcases h with rfl | rfl | rfl | rfl | rfl <;> exact ⟨_, rfl, by decide⟩
  · rintro ⟨c, rfl, h⟩
    rcases regC_cases h with rfl | rfl | rfl | rfl | rfl <;> decide +kernel
theorem mem_signs {s : Str} : s ∈ signs ↔ ∃ c, s = sg1 c ∧ opC c = true := by
  constructor
  · intro h
    rw [show signs = [sg1 43, sg1 45, sg1 42, sg1 61, sg1 60] by decide +kernel] at h
    simp only [List.mem_cons, List.not_mem_nil, or_false] at h
    rcases h with rfl | rfl | rfl | rfl | rfl <;> exact ⟨_, rfl, by decide⟩
  · rintro ⟨c, rfl, h⟩
    rcases opC_cases h with rfl | rfl | rfl | rfl | rfl <;> decide +kernel
theorem sg1_regs (c : Nat) : decide (sg1 c ∈ regs5) = regC c := by
  cases h : regC c with
  | true => exact decide_eq_true (mem_regs.mpr ⟨c, rfl, h⟩)
  | false =>
    refine decide_eq_false ?_
    intro z
    obtain ⟨d, e, k⟩ := mem_regs.mp z
    rw [sg1_inj e, k] at h
    cases h
theorem sg1_signs (c : Nat) : decide (sg1 c ∈ signs) = opC c := by
  cases h : opC c with
  | true => exact decide_eq_true (mem_signs.mpr ⟨c, rfl, h⟩)
  | false =>
    refine decide_eq_false ?_
    intro z
    obtain ⟨d, e, k⟩ := mem_signs.mp z
    rw [sg1_inj e, k] at h
    cases h
theorem inV_strs (s : Str) : ∀ l : List Str, inV (.str s) (l.map V.str) = decide (s ∈ l)
  | [] => rfl
  | x :: l => by
    show ((x == s) || inV (.str s) (l.map V.str)) = _
    rw [inV_strs s l, show (x == s) = decide (x = s) from rfl, Bool.eq_iff_iff]
    simp only [Bool.or_eq_true, decide_eq_true_eq, List.mem_cons]
    exact ⟨fun h => h.elim (fun e => .inl e.symm) .inr, fun h => h.elim (fun e => .inl e.symm) .inr⟩
theorem flat_strs : ∀ l : List Str, (l.map V.str).all flatV = true
  | [] => rfl
  | _ :: l => flat_strs l
def estr (e : Exp) : Str := ⟨(etx e).toArray⟩
theorem tl_estr (e : Exp) : TL.tl (estr e) = etx e := rfl
theorem estr_len (e : Exp) : (estr e).length = (etx e).length := rfl
theorem s_lp : TL.tl ("(" : Str) = [40] := by decide +kernel
theorem s_rp : TL.tl (")" : Str) = [41] := by decide +kernel
theorem l_lp : ("(" : Str).length = 1 := by decide +kernel
theorem l_rp : (")" : Str).length = 1 := by decide +kernel
theorem estr_op (s : Str) (a b : Exp) : ("(" : Str) ++ estr a ++ s ++ estr b ++ (")" : Str) = estr (.op s a b) := TL.ext_tl (by
  simp only [TL.tl_append, tl_estr, s_lp, s_rp]
  show _ = 40 :: (etx a ++ (TL.tl s ++ (etx b ++ [41])))
  simp only [List.append_assoc, List.cons_append, List.nil_append])
theorem etx_509 {n : Nat} {e : Exp} (h : EOk n e) (hn : n ≤ 7) : (etx e).length ≤ 509 := by
  have h1 := (etx_len h).2
  have h2 : 2 ^ n ≤ 2 ^ 7 := Nat.pow_le_pow_right (by decide) hn
  omega
theorem cut_one {t : Str} {p : Nat} (hp : p ≤ t.length) : cutS t (some (p : Int)) (some ((p : Int) + 1)) = match (TL.tl t)[p]? with
    | some c => sg1 c
    | none => "" := by
  have e1 : HT.sIx t.length 0 (some (p : Int)) = p := by
    rw [HT.sIx_nat]
    exact Nat.min_eq_left hp
  have e2 : HT.sIx t.length t.length (some ((p : Int) + 1)) = min (p + 1) t.length := by
    rw [show ((p : Int) + 1) = ((p + 1 : Nat) : Int) by omega, HT.sIx_nat]
  refine TL.ext_tl ?_
  have e3 : TL.tl (cutS t (some (p : Int)) (some ((p : Int) + 1))) = ((TL.tl t).drop p).take (min (p + 1) t.length - p) := by
    unfold cutS
    rw [e1, e2]
  rw [e3, tl_len]
  cases h : (TL.tl t)[p]? with
  | none =>
    have l := List.getElem?_eq_none_iff.mp h
    rw [show min (p + 1) (TL.tl t).length - p = 0 by omega, List.take_zero]
    rfl
  | some c =>
    have l := (List.getElem?_eq_some_iff.mp h).1
    rw [show min (p + 1) (TL.tl t).length - p = 1 by omega, drop_at h]
    rfl
theorem str_nil_dg : (!decide ((("" : Str).cps.toList : List Nat) < ("0" : Str).cps.toList)) = false := by decide +kernel
theorem dg_of {c : Nat} (h : 48 ≤ c ∧ c ≤ 57) : PySem.intText? (sg1 c) = some ((c : Int) - 48) := by
  have e : sg1 c = dg ((c : Int) - 48) := TL.ext_tl (by
    rw [tl_dg, tl_sg1]
    congr 1
    omega)
  rw [e]
  exact dig_int ⟨by omega, by omega⟩
theorem sg1_ne {c d : Nat} (h : c ≠ d) : sg1 c ≠ sg1 d := fun z => h (sg1_inj z)
theorem lp_sg : ("(" : Str) = sg1 40 := by decide +kernel
theorem rp_sg : (")" : Str) = sg1 41 := by decide +kernel
theorem nil_ne (c : Nat) : ("" : Str) ≠ sg1 c := fun z => by
  have := congrArg Str.length z
  rw [show ("" : Str).length = 0 by decide +kernel] at this
  exact absurd this (by show ¬ (0 = 1); decide)
theorem nil_regs : decide (("" : Str) ∈ regs5) = false := by decide +kernel
theorem nil_signs : decide (("" : Str) ∈ signs) = false := by decide +kernel

end M

set_option Elab.async false
set_option linter.all false
set_option maxRecDepth 100000
set_option maxHeartbeats 2000000
namespace M
open PySem PySem.Spec PyProof.Rows L2

namespace G
section
variable {P : Program} {w : World} {K : PySem.W.Frag} {mg : Str → Option Value} {base : Heap}
def spNum : Sp := fun vs H Q _ => ∃ (s : Str), vs = [.str s] ∧ s.length ≤ 1000000 ∧ ∀ i, NumOf s i → Q (.int i) H
theorem ca_number_in (T : Txt w K mg) : Ca P w K mg base 1 "number_in" (spNum) := by
  refine ca_of (N := ["word", "sign"]) (ps := ["word"]) T.f_number_in T.g_number_in ⟨rfl, rfl, rfl, by decide +kernel, rfl, by decide +kernel, by decide +kernel⟩ (fun _ _ _ _ _ _ us hl => match us, hl with | [_], _ => rfl)
    (fun vs H Q E h => by obtain ⟨s, rfl, hl, q⟩ := h; rfl) (fun cdv A outer s H vs Q E hr h => ?_)
  have nd : (["word", "sign"] : List Str).Nodup := by decide +kernel
  obtain ⟨s, rfl, hl, q⟩ := h
  refine ⟨_, (pss_cons (ps_if (PW.pt (pw_or (pt_not (pt_chain op_le op_le pe_int (pe_callB call_len_str (by rfl) T.b_len PySem.boot_len (pa_cons (pv 0) pa_nil)) (pe_gi T.i_MOST_DIGITS))) (pw_or1 (PW.pt (pw_and (pt_cmpR op_eq (pe_ix ix_str (pv 0) pe_int (fun _ _ => rfl)) pe_str (nomark _)) (pw_and1 (pt_cmpR op_gt (pe_callB call_len_str (by rfl) T.b_len PySem.boot_len (pa_cons (pv 0) pa_nil)) pe_int (nomark _)))))))) (pss_one (ps_ret (pe_un un_neg pe_int))) pss_nil)
      (pss_cons (ps_for PassesOwn.never rfl (pi_str (pv 0)) (pg_name (i := 1) nd rfl (.inl rfl)) (pss_one (ps_if (pt_not (pt_chain op_le_str op_le_str pe_str (pv 1) pe_str)) (pss_one (ps_ret (pe_un un_neg pe_int))) pss_nil)))
      (pss_one (ps_ret (pe_callTy call_int_str (by rfl) T.b_int boot_int (pa_cons (pv 0) pa_nil)))))), ?_⟩
  have none_ : digI s = none → Q (.int (-1)) H := fun h => q _ (.inr ⟨h, .inl rfl⟩)
  refine ⟨_, rfl, _, rfl, by rw [sizeLine_eq]; omega, _, _, rfl, rfl, _, rfl, ?_⟩
  by_cases c1 : 1 ≤ s.length
  case neg =>
    rw [decide_eq_false (show ¬ (1 : Int) ≤ (s.length : Int) by omega)]
    exact iteF ⟨_, rfl, iteT (iteT ⟨_, rfl, none_ (digI_len (by omega))⟩)⟩
  rw [decide_eq_true (show (1 : Int) ≤ (s.length : Int) by omega)]
  refine iteT ⟨_, _, rfl, rfl, _, rfl, ?_⟩
  by_cases c2 : s.length ≤ 3
  case neg =>
    rw [decide_eq_false (show ¬ (s.length : Int) ≤ 3 by omega)]
    exact iteT (iteT ⟨_, rfl, none_ (digI_len (by omega))⟩)
  rw [decide_eq_true (show (s.length : Int) ≤ 3 by omega)]
  obtain ⟨c, r, et, ec⟩ := head_at c1
  refine iteF ⟨_, rfl, _, 0, c, rfl, rfl, by rw [sizeLine_eq]; omega, ec, rfl, _, rfl, ?_⟩
  by_cases cb : c = 48 ∧ 1 < s.length
  case pos =>
    rw [decide_eq_true (show V.str (⟨#[c]⟩ : Str) = V.str "0" by rw [cb.1]; decide +kernel)]
    refine iteT ⟨_, rfl, _, rfl, by rw [sizeLine_eq]; omega, _, _, rfl, rfl, _, rfl, ?_⟩
    rw [decide_eq_true (show (1 : Int) < (s.length : Int) by omega)]
    exact iteT ⟨_, rfl, none_ (digI_len (by omega))⟩
  have h0 : 1 < s.length → (TL.tl s).head? ≠ some 48 := fun h z => by
    rw [et] at z
    exact cb ⟨Option.some.inj z, h⟩
  by_cases c0 : c = 48
  case' pos =>
    rw [decide_eq_true (show V.str (⟨#[c]⟩ : Str) = V.str "0" by rw [c0]; decide +kernel)]
    refine iteT ⟨_, rfl, _, rfl, by rw [sizeLine_eq]; omega, _, _, rfl, rfl, _, rfl, ?_⟩
    rw [decide_eq_false (show ¬ (1 : Int) < (s.length : Int) from fun z => cb ⟨c0, by omega⟩)]
    refine iteF ?_
  case' neg =>
    rw [decide_eq_false (show ¬ V.str (⟨#[c]⟩ : Str) = V.str "0" from fun z => by
      have z := congrArg (fun s : Str => s.cps.toList) (V.str.inj z)
      have z : [c] = ([48] : List Nat) := z
      exact c0 (List.cons.inj z).1)]
    refine iteF ?_
  all_goals
    refine ⟨_, rfl, _, rfl, for_it (n := s.cps.size) walk_str (fun i σ' H' => ∃ x, σ' = [some (.str s), x] ∧ H' = H ∧ ∀ (j c : Nat), j < i → s.cps[j]? = some c → 48 ≤ c ∧ c ≤ 57) ⟨none, rfl, rfl, fun j c h => absurd h (Nat.not_lt_zero j)⟩ (fun _ _ _ _ _ => trivial) ?_ ?_⟩
    · rintro i x σ' H' H2 hi ⟨_, rfl, rfl, hall⟩ ⟨rfl, k, hk, rfl⟩
      have hm : k ∈ TL.tl s := by
        rw [← Array.getElem?_toList] at hk
        exact List.mem_of_getElem? hk
      refine ⟨_, rfl, _, _, rfl, rfl, _, rfl, ?_⟩
      by_cases c3 : 48 ≤ k
      · refine (if_true_of (sign_le c3) ?_)
        refine ⟨_, _, rfl, rfl, _, rfl, ?_⟩
        by_cases c4 : k ≤ 57
        · refine if_not_of (sign_le c4) ⟨_, rfl, rfl, fun j c5 hj hc5 => ?_⟩
          rcases Nat.lt_or_eq_of_le (Nat.le_of_lt_succ hj) with hj | hj
          · exact hall j c5 hj hc5
          · rw [hj, hk] at hc5
            cases (Option.some.inj hc5)
            exact ⟨c3, c4⟩
        · exact if_gt_of (sign_gt (c := 57) (a := k) (by omega)) ⟨_, rfl, none_ (digI_bad hm (fun z => c4 z.2))⟩
      · exact if_gt2_of (sign_gt (c := k) (a := 48) (by omega)) ⟨_, rfl, iteT ⟨_, rfl, none_ (digI_bad hm (fun z => c3 z.1))⟩⟩
    · rintro σ' H' ⟨_, rfl, rfl, hall⟩
      obtain ⟨v, hv, nv⟩ := num_fin c1 c2 (fun c hc => by
        obtain ⟨j, hj, e⟩ := List.mem_iff_getElem.mp hc
        refine hall j c (by simpa using hj) ?_
        rw [← Array.getElem?_toList, List.getElem?_eq_getElem hj, e]) h0
      exact ⟨_, rfl, s, v, rfl, hv, by omega, q v nv⟩
end
end G
section
variable {P : Program} {w : World} {K : PySem.W.Frag} {mg : Str → Option Value} {base : Heap}
def spTx (K : PySem.W.Frag) : Nat → Sp
  | 0 => fun _ _ _ _ => False
  | n + 1 => fun vs H Q _ => ∃ (v : V) (e : Exp), vs = [v] ∧ Dp K H v e.d ∧ EOk n e ∧ n ≤ 7 ∧ Q (.str (estr e)) H
theorem ca_text_of (T : Txt w K mg) : ∀ n : Nat, Ca P w K mg base (n + 3) "text_of" (spTx K n)
  | 0 => ca_false (ps := ["e"]) T.f_text_of T.g_text_of (fun _ _ _ _ _ _ us hl => match us, hl with | [_], _ => rfl)
  | n + 1 => by
    have ih := ca_text_of T n
    refine ca_of (N := ["e", "sign", "one", "other"]) (ps := ["e"]) T.f_text_of T.g_text_of ⟨rfl, rfl, rfl, by decide +kernel, rfl, by decide +kernel, by decide +kernel⟩ (fun _ _ _ _ _ _ us hl => match us, hl with | [_], _ => rfl)
      (fun vs H Q E h => by obtain ⟨v, e, rfl, hv, ok, hn, q⟩ := h; rfl) (fun cdv A outer s H vs Q E hr h => ?_)
    have nd : (["e", "sign", "one", "other"] : List Str).Nodup := by decide +kernel
    obtain ⟨v, e, rfl, hv, ok, hn, q⟩ := h
    refine ⟨_, (pss_cons (ps_if (pt_val (pe_is .str T.b_isinstance (pv 0) T.b_str boot_str)) (pss_one (ps_ret (pv 0))) pss_nil)
      (pss_cons (ps_if (pt_val (pe_is .int T.b_isinstance (pv 0) T.b_int boot_int)) (pss_one (ps_ret (pe_callTy call_str_int (by rfl) T.b_str boot_str (pa_cons (pv 0) pa_nil)))) pss_nil)
      (pss_cons (ps_asg (pv 0) (pg_three K 1 2 3 rfl rfl nd rfl rfl rfl (.inl rfl) (.inl rfl) (.inl rfl) (.inr rfl) (.inr rfl) (.inr rfl)))
      (pss_one (ps_ret (pe_op op_add_str (pe_op op_add_str (pe_op op_add_str (pe_op op_add_str pe_str (pe_ca ih hr (pa_cons (pv 2) pa_nil) (by omega))) (pv 1)) (pe_ca ih hr (pa_cons (pv 3) pa_nil) (by omega))) pe_str)))))), ?_⟩
    cases e with
    | num i =>
      cases dp_int hv
      have b := ok.num_ok
      refine ⟨_, rfl, _, _, rfl, .int i, _, rfl, iteF ⟨_, rfl, _, _, rfl, .int i, _, rfl, iteT ⟨_, rfl, _, rfl, dig_log b, ?_⟩⟩⟩
      rw [dig_str b]
      exact q
    | reg r =>
      cases dp_str hv
      exact ⟨_, rfl, _, _, rfl, .str r, _, rfl, iteT ⟨_, rfl, q⟩⟩
    | op s a b =>
      obtain ⟨m, rfl, ⟨c, rfl, hc⟩, oa, ob⟩ := ok.op_ok
      obtain ⟨t, x, y, z, rfl, ht, hx, hy, hz⟩ := dp3 hv
      cases dp_str hx
      have la := etx_509 oa (by omega)
      have lb := etx_509 ob (by omega)
      have l1 : (sg1 c).length = 1 := rfl
      refine ⟨_, rfl, _, _, rfl, .tuple ht, _, rfl, iteF ⟨_, rfl, _, _, rfl, .tuple ht, _, rfl, iteF ?_⟩⟩
      refine ⟨_, rfl, t, _, rfl, ht, rfl, _, _, rfl, _, _, rfl, _, _, rfl, rfl, ?_⟩
      refine ⟨_, rfl, y, a, rfl, hy, oa, by omega, _, _, rfl, rfl, by rw [sizeLine_eq, l_lp, estr_len]; omega, _, rfl, _, _, rfl, rfl, by rw [sizeLine_eq, len_app, l_lp, estr_len, l1]; omega, ?_⟩
      refine ⟨_, rfl, z, b, rfl, hz, ob, by omega, _, _, rfl, rfl, by rw [sizeLine_eq, len_app, len_app, l_lp, estr_len, estr_len, l1]; omega, _, _, rfl, rfl, by rw [sizeLine_eq, len_app, len_app, len_app, l_lp, l_rp, estr_len, estr_len, l1]; omega, ?_⟩
      rw [estr_op]
      exact q
end
namespace Y
section
variable {P : Program} {w : World} {K : PySem.W.Frag} {mg : Str → Option Value} {base : Heap}
def wAt (K : PySem.W.Frag) (H : Hp) (Q : VK) : Option (Exp × Nat) → Prop
  | none => ∀ H', Same H H' → Q .non H'
  | some (e, q) => ∀ r v H', Same H H' → H' r = some (.tup [v, .int (q : Nat)]) → Dp K H' v e.d → Q (.ref r) H'
def spAt (K : PySem.W.Frag) : Nat → Sp
  | 0 => fun _ _ _ _ => False
  | n + 1 => fun vs H Q _ => ∃ (t : Str) (p : Nat) (deep : Int), vs = [.str t, .int p, .int deep] ∧ deep + n = 6 ∧ p ≤ t.length ∧ t.length ≤ 1000000 ∧ wAt K H Q (atE (TL.tl t) n p)
theorem ca_expression_at (T : Txt w K mg) : ∀ n : Nat, Ca P w K mg base (n + 2) "expression_at" (spAt K n)
  | 0 => ca_false (ps := ["text", "place", "deep"]) T.f_expression_at T.g_expression_at (fun _ _ _ _ _ _ us hl => match us, hl with | [_, _, _], _ => rfl)
  | n + 1 => by
    have ih := ca_expression_at T n
    refine ca_of (N := ["text", "place", "deep", "sign", "left", "right"]) (ps := ["text", "place", "deep"]) T.f_expression_at T.g_expression_at ⟨rfl, rfl, rfl, by decide +kernel, rfl, by decide +kernel, by decide +kernel⟩ (fun _ _ _ _ _ _ us hl => match us, hl with | [_, _, _], _ => rfl)
      (fun vs H Q E h => by obtain ⟨t, p, deep, rfl, h6, hp, hl, q⟩ := h; rfl) (fun cdv A outer s H vs Q E hr h => ?_)
    have nd : (["text", "place", "deep", "sign", "left", "right"] : List Str).Nodup := by decide +kernel
    obtain ⟨t, p, deep, rfl, h6, hp, hl, q⟩ := h
    refine ⟨_, (pss_cons (ps_set (i := 3) nd rfl (.inl rfl) (pe_slice sl_str (pv 0) (po_some (pv 1)) (po_some (pe_op op_add (pv 1) pe_int))))
      (pss_cons (ps_if (pt_chain op_le_str op_le_str pe_str (pv 3) pe_str) (pss_one (ps_ret (pe_tup (pa_cons (pe_callTy call_int_str (by rfl) T.b_int boot_int (pa_cons (pv 3) pa_nil)) (pa_cons (pe_op op_add (pv 1) pe_int) pa_nil))))) pss_nil)
      (pss_cons (ps_if (pt_cmpR op_in_seq (pv 3) (pe_gr T.g_HELD) (by rfl)) (pss_one (ps_ret (pe_tup (pa_cons (pv 3) (pa_cons (pe_op op_add (pv 1) pe_int) pa_nil))))) pss_nil)
      (pss_cons (ps_if (PW.pt (pw_or (pt_cmpR op_ne (pv 3) pe_str (nomark _)) (pw_or1 (pt_cmpR op_eq (pv 2) (pe_gi T.i_DEEPEST_EXPRESSION) (nomark _))))) (pss_one (ps_ret pe_non)) pss_nil)
      (pss_cons (ps_set (i := 4) nd rfl (.inl rfl) (pe_ca ih hr (pa_cons (pv 0) (pa_cons (pe_op op_add (pv 1) pe_int) (pa_cons (pe_op op_add (pv 2) pe_int) pa_nil))) (by omega)))
      (pss_cons (ps_if (PW.pt (pw_or (pt_cmp (pc_isN (pv 4))) (pw_or1 (pt_cmpR op_notIn_seq (pe_slice sl_str (pv 0) (po_some (pe_ix ix_tup (pv 4) pe_int (fun _ _ => rfl))) (po_some (pe_op op_add (pe_ix ix_tup (pv 4) pe_int (fun _ _ => rfl)) pe_int))) (pe_gr T.g_SIGNS) (by rfl))))) (pss_one (ps_ret pe_non)) pss_nil)
      (pss_cons (ps_set (i := 5) nd rfl (.inl rfl) (pe_ca ih hr (pa_cons (pv 0) (pa_cons (pe_op op_add (pe_ix ix_tup (pv 4) pe_int (fun _ _ => rfl)) pe_int) (pa_cons (pe_op op_add (pv 2) pe_int) pa_nil))) (by omega)))
      (pss_cons (ps_if (PW.pt (pw_or (pt_cmp (pc_isN (pv 5))) (pw_or1 (pt_cmpR op_ne (pe_slice sl_str (pv 0) (po_some (pe_ix ix_tup (pv 5) pe_int (fun _ _ => rfl))) (po_some (pe_op op_add (pe_ix ix_tup (pv 5) pe_int (fun _ _ => rfl)) pe_int))) pe_str (nomark _))))) (pss_one (ps_ret pe_non)) pss_nil)
      (pss_one (ps_ret (pe_tup (pa_cons (pe_tup (pa_cons (pe_ix ix_str (pv 0) (pe_ix ix_tup (pv 4) pe_int (fun _ _ => rfl)) (fun _ _ => rfl)) (pa_cons (pe_ix ix_tup (pv 4) pe_int (fun _ _ => rfl)) (pa_cons (pe_ix ix_tup (pv 5) pe_int (fun _ _ => rfl)) pa_nil)))) (pa_cons (pe_op op_add (pe_ix ix_tup (pv 5) pe_int (fun _ _ => rfl)) pe_int) pa_nil))))))))))))), ?_⟩
    refine ⟨_, rfl, _, rfl, _, rfl, _, rfl, _, _, rfl, rfl, _, rfl, t, rfl, by rw [sizeLine_eq]; omega, ?_⟩
    rw [cut_one hp]
    have hd := sq_HELD T H
    have leaf0 : ∀ c, (TL.tl t)[p]? = some c → c ≠ 40 → atE (TL.tl t) n p = atLeaf (TL.tl t) p := by
      intro c e h
      cases n with
      | zero => rfl
      | succ m => exact if_neg (fun z => h (Option.some.inj (e.symm.trans z)))
    cases hc : (TL.tl t)[p]? with
    | none =>
      have e : atE (TL.tl t) n p = none := by
        cases n with
        | zero => show atLeaf _ _ = none; unfold atLeaf; rw [hc]
        | succ m => unfold atE; rw [if_neg (by rw [hc]; exact fun z => nomatch z)]; unfold atLeaf; rw [hc]
      rw [e] at q
      refine ⟨_, rfl, _, _, rfl, rfl, _, rfl, if_gt2_of str_nil_dg ⟨_, rfl, iteF ?_⟩⟩
      refine ⟨_, rfl, _, _, rfl, .inr hd, rfl, flat_strs regs5, _, rfl, ?_⟩
      rw [show inV (.str "") (regs5.map V.str) = false by rw [inV_strs]; exact nil_regs]
      refine iteF ⟨_, rfl, rfl, _, rfl, ?_⟩
      rw [decide_eq_false (show ¬ V.str "" = V.str "(" from fun z => nil_ne 40 ((V.str.inj z).trans lp_sg))]
      exact iteT (iteT (q H (Same.refl _)))
    | some c =>
      have lc := (List.getElem?_eq_some_iff.mp hc).1
      by_cases c1 : 48 ≤ c ∧ c ≤ 57
      · have e : atE (TL.tl t) n p = some (.num ((c : Int) - 48), p + 1) := by
          rw [leaf0 c hc (by omega)]
          unfold atLeaf
          rw [hc]
          exact if_pos c1
        rw [e] at q
        refine ⟨_, rfl, _, _, rfl, rfl, _, rfl, if_true_of (sign_le c1.1) ⟨_, _, rfl, rfl, _, rfl, if_true_of (sign_le c1.2) ?_⟩⟩
        refine ⟨_, rfl, _, _, rfl, dg_of c1, by show 1 ≤ 640; decide, _, rfl, _, _, rfl, rfl, (by show 2 ≤ sizeLine; decide), fun r nr => ?_⟩
        exact q r _ _ (same_new nr) upd_same (.int _)
      have chs : c < 48 ∨ 57 < c := by omega
      rcases chs with ch | ch
      case' inl => refine ⟨_, rfl, _, _, rfl, rfl, _, rfl, if_gt2_of (sign_gt ch) ⟨_, rfl, iteF ?_⟩⟩
      case' inr => refine ⟨_, rfl, _, _, rfl, rfl, _, rfl, if_true_of (sign_le (a := 48) (by omega)) ⟨_, _, rfl, rfl, _, rfl, if_gt2_of (sign_gt ch) ?_⟩⟩
      all_goals
        refine ⟨_, rfl, _, _, rfl, .inr hd, rfl, flat_strs regs5, _, rfl, ?_⟩
        rw [show inV (.str (sg1 c)) (regs5.map V.str) = regC c by rw [inV_strs]; exact sg1_regs c]
        cases c2 : regC c with
        | true =>
          have e : atE (TL.tl t) n p = some (.reg (sg1 c), p + 1) := by
            rw [leaf0 c hc (regC_no c2).2.1]
            exact atLeaf_reg c2 hc
          rw [e] at q
          refine iteT ⟨_, rfl, _, rfl, _, _, rfl, rfl, (by show 2 ≤ sizeLine; decide), fun r nr => ?_⟩
          exact q r _ _ (same_new nr) upd_same (.str _)
        | false =>
          refine iteF ⟨_, rfl, rfl, _, rfl, ?_⟩
          by_cases c40 : c = 40
          case neg =>
            have e : atE (TL.tl t) n p = none := by
              rw [leaf0 c hc c40]
              unfold atLeaf
              rw [hc]
              dsimp only
              rw [if_neg c1, if_neg (by rw [c2]; decide)]
            rw [e] at q
            rw [decide_eq_false (show ¬ V.str (sg1 c) = V.str "(" from fun z => sg1_ne c40 ((V.str.inj z).trans lp_sg))]
            exact iteT (iteT (q H (Same.refl _)))
          subst c40
          rw [decide_eq_true (show V.str (sg1 40) = V.str "(" by rw [lp_sg])]
          refine iteF ⟨_, rfl, rfl, _, rfl, ?_⟩
          cases n with
          | zero =>
            have e : atE (TL.tl t) 0 p = none := by
              show atLeaf _ _ = none
              unfold atLeaf
              rw [hc]
              rfl
            rw [e] at q
            rw [decide_eq_true (show V.int deep = V.int 6 from congrArg V.int (by omega))]
            exact iteT (q H (Same.refl _))
          | succ m =>
            rw [decide_eq_false (show ¬ V.int deep = V.int 6 from fun e => by have := V.int.inj e; omega)]
            refine iteF ⟨_, rfl, _, rfl, _, _, rfl, rfl, _, rfl, _, _, rfl, rfl, t, p + 1, deep + 1, rfl, by omega, by rw [tl_len]; omega, hl, ?_⟩
            have ea : atE (TL.tl t) (m + 1) p = match atE (TL.tl t) m (p + 1) with
              | none => none
              | some (a, q) => match (TL.tl t)[q]? with
                | none => none
                | some s => if opC s = true then
                    match atE (TL.tl t) m (q + 1) with
                    | none => none
                    | some (b, r) => if (TL.tl t)[r]? = some 41 then some (.op (sg1 s) a b, r + 1) else none
                  else none := if_pos hc
            rw [ea] at q
            have nx : (((p : Nat) : Int) + 1) = ((p + 1 : Nat) : Int) := by omega
            cases hA : atE (TL.tl t) m (p + 1) with
            | none =>
              rw [hA] at q
              exact fun H1 s1 => ⟨_, rfl, _, rfl, iteT (iteT (q H1 s1))⟩
            | some aq =>
              obtain ⟨a, q1⟩ := aq
              rw [hA] at q
              dsimp only at q
              obtain ⟨oa, da, la, ka⟩ := atE_ok hA
              intro l va H1 s1 hl1 dva
              have tl1 : SqT K H1 l [va, .int (q1 : Nat)] := .of hl1
              have tl9 : q1 ≤ t.length := by rw [tl_len]; omega
              have slen : t.length ≤ sizeLine := by rw [sizeLine_eq]; omega
              refine ⟨_, rfl, _, rfl, iteF ?_⟩
              refine ⟨_, rfl, _, rfl, _, _, _, _, rfl, rfl, tl1, at1, _, rfl, _, rfl, _, _, _, _, rfl, rfl, tl1, at1, _, _, rfl, rfl, _, rfl, t, rfl, slen, ?_⟩
              rw [cut_one tl9]
              cases hs : (TL.tl t)[q1]? with
              | none =>
                rw [hs] at q
                refine ⟨_, _, rfl, .inr (sq_SIGNS T H1), rfl, flat_strs signs, _, rfl, ?_⟩
                rw [show inV (.str "") (signs.map V.str) = false by rw [inV_strs]; exact nil_signs]
                exact if_true_of rfl (q H1 s1)
              | some sc =>
                rw [hs] at q
                dsimp only at q
                refine ⟨_, _, rfl, .inr (sq_SIGNS T H1), rfl, flat_strs signs, _, rfl, ?_⟩
                rw [show inV (.str (sg1 sc)) (signs.map V.str) = opC sc by rw [inV_strs]; exact sg1_signs sc]
                cases cs : opC sc with
                | false =>
                  rw [if_neg (by rw [cs]; decide)] at q
                  exact if_true_of rfl (q H1 s1)
                | true =>
                  rw [if_pos cs] at q
                  have lq := (List.getElem?_eq_some_iff.mp hs).1
                  have nq : (((q1 : Nat) : Int) + 1) = ((q1 + 1 : Nat) : Int) := by omega
                  refine if_gt2_of rfl ⟨_, rfl, _, rfl, _, _, _, _, rfl, rfl, tl1, at1, _, _, rfl, rfl, _, rfl, _, _, rfl, rfl, t, q1 + 1, deep + 1, rfl, by omega, by rw [tl_len]; omega, hl, ?_⟩
                  cases hB : atE (TL.tl t) m (q1 + 1) with
                  | none =>
                    rw [hB] at q
                    exact fun H2 s2 => ⟨_, rfl, _, rfl, iteT (iteT (q H2 (s1.trans s2)))⟩
                  | some br =>
                    obtain ⟨b, r1⟩ := br
                    rw [hB] at q
                    dsimp only at q
                    obtain ⟨ob, db, lb, kb⟩ := atE_ok hB
                    intro rr vb H2 s2 hr2 dvb
                    have tl2 : SqT K H2 rr [vb, .int (r1 : Nat)] := .of hr2
                    have tl1b : SqT K H2 l [va, .int (q1 : Nat)] := .of (s2 _ _ hl1)
                    have tl9b : r1 ≤ t.length := by rw [tl_len]; omega
                    refine ⟨_, rfl, _, rfl, iteF ?_⟩
                    refine ⟨_, rfl, _, rfl, _, _, _, _, rfl, rfl, tl2, at1, _, rfl, _, rfl, _, _, _, _, rfl, rfl, tl2, at1, _, _, rfl, rfl, _, rfl, t, rfl, slen, ?_⟩
                    rw [cut_one tl9b]
                    refine ⟨rfl, _, rfl, ?_⟩
                    have fin : ∀ z : Str, (z = ")" ↔ (TL.tl t)[r1]? = some 41) → (match (TL.tl t)[r1]? with | some c => sg1 c | none => "") = z → True := fun _ _ _ => trivial
                    clear fin
                    cases hr1 : (TL.tl t)[r1]? with
                    | none =>
                      rw [if_neg (by rw [hr1]; exact fun z => nomatch z)] at q
                      rw [decide_eq_false (show ¬ V.str "" = V.str ")" from fun z => nil_ne 41 ((V.str.inj z).trans rp_sg))]
                      exact iteT (q H2 (s1.trans s2))
                    | some rc =>
                      by_cases h41 : rc = 41
                      case neg =>
                        rw [if_neg (by rw [hr1]; exact fun z => h41 (Option.some.inj z))] at q
                        rw [decide_eq_false (show ¬ V.str (sg1 rc) = V.str ")" from fun z => sg1_ne h41 ((V.str.inj z).trans rp_sg))]
                        exact iteT (q H2 (s1.trans s2))
                      subst h41
                      rw [if_pos hr1] at q
                      rw [decide_eq_true (show V.str (sg1 41) = V.str ")" by rw [rp_sg])]
                      have hat : atI t.cps.toList ((q1 : Nat) : Int) = some sc := atI_nat hs
                      refine iteF ⟨_, rfl, _, rfl, _, _, _, _, rfl, rfl, tl1b, at1, _, _, sc, rfl, rfl, slen, hat, _, rfl, _, _, _, _, rfl, rfl, tl1b, at0, _, rfl, _, _, _, _, rfl, rfl, tl2, at0, (by show 3 ≤ sizeLine; decide), fun u nu => ?_⟩
                      have s3 := same_new (o := .tup [.str ⟨#[sc]⟩, va, vb]) nu
                      have hu : upd H2 u (.tup [.str ⟨#[sc]⟩, va, vb]) u = some (.tup [.str ⟨#[sc]⟩, va, vb]) := upd_same
                      refine ⟨_, rfl, _, _, _, _, rfl, rfl, same_t s3 tl2, at1, _, _, rfl, rfl, (by show 2 ≤ sizeLine; decide), fun z nz => ?_⟩
                      have s4 := same_new (o := .tup [.ref u, .int ((r1 : Nat) + 1)]) nz
                      have s24 := s2.trans (s3.trans s4)
                      exact q z _ _ (s1.trans s24) upd_same (.tup (.of (s4 _ _ hu)) (.cons (.str _) (.cons (dp_same s24 dva) (.cons (dp_same (s3.trans s4) dvb) .nil))))
def spIn (K : PySem.W.Frag) : Sp := fun vs H Q _ => ∃ (t : Str), vs = [.str t] ∧ t.length ≤ 1000000 ∧ (match inE (TL.tl t) with
  | none => ∀ H', Same H H' → Q .non H'
  | some e => ∀ v H', Same H H' → Dp K H' v e.d → Q v H')
theorem ca_expression_in (T : Txt w K mg) : Ca P w K mg base 10 "expression_in" (spIn K) := by
  refine ca_of (N := ["word", "found"]) (ps := ["word"]) T.f_expression_in T.g_expression_in ⟨rfl, rfl, rfl, by decide +kernel, rfl, by decide +kernel, by decide +kernel⟩ (fun _ _ _ _ _ _ us hl => match us, hl with | [_], _ => rfl)
    (fun vs H Q E h => by obtain ⟨t, rfl, hl, q⟩ := h; rfl) (fun cdv A outer s H vs Q E hr h => ?_)
  have nd : (["word", "found"] : List Str).Nodup := by decide +kernel
  obtain ⟨t, rfl, hl, q⟩ := h
  refine ⟨_, (pss_cons (ps_set (i := 1) nd rfl (.inl rfl) (pe_ca (ca_expression_at T 7) hr (pa_cons (pv 0) (pa_cons pe_int (pa_cons pe_int pa_nil)))))
      (pss_one (ps_ret (pe_ifExp (PW.pt (pw_and (pt_cmp (pc_notN (pv 1))) (pw_and1 (pt_cmpR op_eq (pe_ix ix_tup (pv 1) pe_int (fun _ _ => rfl)) (pe_callB call_len_str (by rfl) T.b_len PySem.boot_len (pa_cons (pv 0) pa_nil)) (nomark _))))) (pe_ix ix_tup (pv 1) pe_int (fun _ _ => rfl)) pe_non)))), ?_⟩
  refine ⟨_, rfl, t, 0, 0, rfl, by decide, Nat.zero_le _, hl, ?_⟩
  unfold inE at q
  cases hA : atE (TL.tl t) 6 0 with
  | none =>
    rw [hA] at q
    exact fun H1 s1 => ⟨_, rfl, _, rfl, iteF (q H1 s1)⟩
  | some eq =>
    obtain ⟨e, p⟩ := eq
    rw [hA] at q
    dsimp only at q
    intro r v H1 s1 hr1 dv
    have tr : SqT K H1 r [v, .int (p : Nat)] := .of hr1
    refine ⟨_, rfl, _, rfl, iteT ⟨_, rfl, _, _, _, _, rfl, rfl, tr, at1, _, rfl, _, rfl, by rw [sizeLine_eq]; omega, rfl, _, rfl, ?_⟩⟩
    by_cases c : p = (TL.tl t).length
    · rw [if_pos c] at q
      rw [decide_eq_true (show V.int (p : Nat) = V.int (t.length : Nat) by rw [c, tl_len])]
      exact iteT ⟨_, rfl, _, _, _, _, rfl, rfl, tr, at0, q v H1 s1 dv⟩
    · rw [if_neg c] at q
      rw [decide_eq_false (show ¬ V.int (p : Nat) = V.int (t.length : Nat) from fun z => c (by have := V.int.inj z; rw [tl_len] at this; omega))]
      exact iteF (q H1 s1)
end
end Y

end M

set_option Elab.async false
set_option linter.all false
set_option maxRecDepth 100000
set_option maxHeartbeats 2000000
namespace M
open PySem PySem.Spec PyProof.Rows L2

/-! ### the lines of a vault's text -/
def Prt.wd : Prt → Option Str
  | .reg r => some r
  | .cell k => some (dg k)
  | .ex e => some (estr e)
  | .rows _ => none
def Row.wds (r : Row) : List Str := r.word :: r.prts.filterMap Prt.wd
def elsW : List Str := ["else"]
def endW : List Str := ["end"]
mutual
def Row.ls : Row → List (List Str)
  | .iff e a b => Row.wds (.iff e [] []) :: (rowsLs a ++ (elsW :: (rowsLs b ++ [endW])))
  | .times e a => Row.wds (.times e []) :: (rowsLs a ++ [endW])
  | .read r c => [Row.wds (.read r c)]
  | .set c e => [Row.wds (.set c e)]
  | .swap r c e f => [Row.wds (.swap r c e f)]
  | .keep r e => [Row.wds (.keep r e)]
  | .coin r => [Row.wds (.coin r)]
  | .ans e => [Row.wds (.ans e)]
def rowsLs : List Row → List (List Str)
  | [] => []
  | r :: rs => r.ls ++ rowsLs rs
end
def cellW (c : Int × Int) : List Str := ["cell", dg c.1, dg c.2]
def deedW (d : Str × Int × List Row) : List Str := ["deed", d.1, dg d.2.1]
def deedLs (d : Str × Int × List Row) : List (List Str) := deedW d :: rowsLs d.2.2
def vaultLs (v : Vlt) : List (List Str) := v.cells.map cellW ++ v.deeds.flatMap deedLs
def lineS (ws : List Str) : Str := Txt.join (" " : Str) ws
def vaultS (v : Vlt) : Str := Txt.join ("\n" : Str) ((vaultLs v).map lineS)
/-! ### good expressions -/
theorem reg5_of {r : Str} (h : r ∈ regs5) : ∃ c, r = sg1 c ∧ regC c = true := mem_regs.mp h
theorem ok_EOk : ∀ {e : Exp} {n : Nat}, e.ok → e.dep ≤ n → EOk n e
  | .num i, n, h, _ => by cases n <;> exact h
  | .reg r, n, h, _ => by cases n <;> exact mem_regs.mp h
  | .op s a b, 0, _, d => absurd d (Nat.not_succ_le_zero _)
  | .op s a b, n + 1, ⟨h1, h2, h3⟩, d => by
    have d : Nat.max a.dep b.dep + 1 ≤ n + 1 := d
    have d := Nat.le_of_succ_le_succ d
    exact ⟨mem_signs.mp h1, ok_EOk h2 (Nat.le_trans (Nat.le_max_left _ _) d), ok_EOk h3 (Nat.le_trans (Nat.le_max_right _ _) d)⟩
theorem good_EOk {e : Exp} (h : e.good) : EOk 6 e := ok_EOk h.1 h.2
theorem etx_free : ∀ {n : Nat} {e : Exp}, EOk n e → ∀ c ∈ etx e, 40 ≤ c ∧ c ≤ 122
  | _, .num i, h, c, hc => by
    have b := h.num_ok
    have hc : c ∈ [48 + i.toNat] := hc
    rw [List.mem_singleton.mp hc]
    omega
  | _, .reg r, h, c, hc => by
    obtain ⟨k, rfl, hk⟩ := h.reg_ok
    have hc : c ∈ [k] := hc
    rw [List.mem_singleton.mp hc]
    rcases regC_cases hk with rfl | rfl | rfl | rfl | rfl <;> decide
  | _, .op s a b, h, c, hc => by
    obtain ⟨m, _, ⟨k, rfl, hk⟩, ha, hb⟩ := h.op_ok
    have hc : c ∈ 40 :: (etx a ++ ([k] ++ (etx b ++ [41]))) := hc
    rcases List.mem_cons.mp hc with rfl | hc
    · decide
    rcases List.mem_append.mp hc with hc | hc
    · exact etx_free ha c hc
    rcases List.mem_append.mp hc with hc | hc
    · rw [List.mem_singleton.mp hc]
      rcases opC_cases hk with rfl | rfl | rfl | rfl | rfl <;> decide
    rcases List.mem_append.mp hc with hc | hc
    · exact etx_free hb c hc
    · rw [List.mem_singleton.mp hc]
      decide
/-- a word: no sign below "(", not too long -/
def WOk (w : Str) : Prop := (∀ c ∈ TL.tl w, 40 ≤ c ∧ c ≤ 122) ∧ w.length ≤ 256
theorem wok_estr {e : Exp} (h : EOk 6 e) : WOk (estr e) := ⟨etx_free h, by have := (etx_len h).2; rw [estr_len]; omega⟩
theorem wok_dg {i : Int} (h : 0 ≤ i ∧ i ≤ 9) : WOk (dg i) := ⟨fun c hc => by rw [tl_dg] at hc; rw [List.mem_singleton.mp hc]; omega, by rw [len_dg]; decide⟩
theorem wok_name {s : Str} (h : NameOk s) : WOk s := ⟨fun c hc => by have := h.2.2 c hc; omega, by have := h.2.1; omega⟩
theorem wok_reg {r : Str} (h : r ∈ regs4) : WOk r := by
  obtain ⟨c, rfl, hc⟩ := mem_regs.mp (show r ∈ regs5 by
    simp only [regs4, regs5, List.mem_cons] at h ⊢
    rcases h with h | h | h | h | h <;> simp [h])
  refine ⟨fun k hk => ?_, by show 1 ≤ 256; decide⟩
  have hk : k ∈ [c] := hk
  rw [List.mem_singleton.mp hk]
  rcases regC_cases hc with rfl | rfl | rfl | rfl | rfl <;> decide
instance (w : Str) : Decidable (WOk w) := by unfold WOk; infer_instance
theorem wok_words : ∀ w ∈ (["read", "set", "swap", "keep", "coin", "if", "times", "answer"] : List Str), WOk w := by decide +kernel
theorem wok_word (r : Row) : WOk r.word := wok_words _ (by cases r <;> simp [Row.word])
/-- the words of a line -/
def LOk (ws : List Str) : Prop := ws ≠ [] ∧ ws.length ≤ 5 ∧ ∀ w ∈ ws, WOk w
theorem lok_els : LOk elsW := ⟨by decide, by decide, by decide +kernel⟩
theorem lok_end : LOk endW := ⟨by decide, by decide, by decide +kernel⟩
theorem lok_cell {c : Int × Int} (h1 : 0 ≤ c.1 ∧ c.1 ≤ 9) (h2 : 0 ≤ c.2 ∧ c.2 ≤ 9) : LOk (cellW c) := ⟨List.cons_ne_nil _ _, by show 3 ≤ 5; decide, fun w hw => by
  simp only [cellW, List.mem_cons, List.not_mem_nil, or_false] at hw
  rcases hw with rfl | rfl | rfl
  · decide +kernel
  · exact wok_dg h1
  · exact wok_dg h2⟩
theorem lok_deed {d : Str × Int × List Row} (h : NameOk d.1) (h2 : 0 ≤ d.2.1 ∧ d.2.1 ≤ 9) : LOk (deedW d) := ⟨List.cons_ne_nil _ _, by show 3 ≤ 5; decide, fun w hw => by
  simp only [deedW, List.mem_cons, List.not_mem_nil, or_false] at hw
  rcases hw with rfl | rfl | rfl
  · decide +kernel
  · exact wok_name h
  · exact wok_dg h2⟩
theorem wok_prt {c : Int} {deep loops : Nat} {p : Prt} (hc : c ≤ 9) (h : p.ok c deep loops) {w : Str} (hw : p.wd = some w) : WOk w := by
  cases p with
  | reg r => cases hw; exact wok_reg h
  | cell k => cases hw; exact wok_dg (by have h : 0 ≤ k ∧ k < c := h; omega)
  | ex e => cases hw; exact wok_estr (good_EOk h)
  | rows rs => cases hw
theorem lok_row {c : Int} (hc : c ≤ 9) {deep loops : Nat} {r : Row} (h : r.ok c deep loops) : LOk r.wds := ⟨List.cons_ne_nil _ _, by
  have : r.prts.length ≤ 4 := by cases r <;> simp [Row.prts]
  have := List.length_filterMap_le Prt.wd r.prts
  unfold Row.wds
  rw [List.length_cons]
  omega, fun w hw => by
  rcases List.mem_cons.mp hw with rfl | hw
  · exact wok_word r
  · obtain ⟨p, hp, e⟩ := List.mem_filterMap.mp hw
    exact wok_prt hc (row_prts h p hp) e⟩
mutual
theorem lok_ls {c : Int} (hc : c ≤ 9) : ∀ {deep loops : Nat} {r : Row}, r.ok c deep loops → ∀ ws ∈ r.ls, LOk ws
  | deep, loops, .iff e a b, h, ws, hw => by
    have hw : ws ∈ Row.wds (.iff e [] []) :: (rowsLs a ++ (elsW :: (rowsLs b ++ [endW]))) := by simpa only [Row.ls] using hw
    have h' : e.good ∧ rowsOk c (deep + 1) loops a ∧ rowsOk c (deep + 1) loops b := h
    rcases List.mem_cons.mp hw with rfl | hw
    · exact lok_row hc (r := .iff e [] []) (deep := deep) (loops := loops) ⟨h'.1, trivial, trivial⟩
    rcases List.mem_append.mp hw with hw | hw
    · exact loks_ls hc h'.2.1 ws hw
    rcases List.mem_cons.mp hw with rfl | hw
    · exact lok_els
    rcases List.mem_append.mp hw with hw | hw
    · exact loks_ls hc h'.2.2 ws hw
    · rw [List.mem_singleton.mp hw]
      exact lok_end
  | deep, loops, .times e a, h, ws, hw => by
    have hw : ws ∈ Row.wds (.times e []) :: (rowsLs a ++ [endW]) := by simpa only [Row.ls] using hw
    have h' : e.good ∧ loops < 2 ∧ rowsOk c (deep + 1) (loops + 1) a := h
    rcases List.mem_cons.mp hw with rfl | hw
    · exact lok_row hc (r := .times e []) (c := c) (deep := deep) (loops := loops) ⟨h'.1, h'.2.1, trivial⟩
    rcases List.mem_append.mp hw with hw | hw
    · exact loks_ls hc h'.2.2 ws hw
    · rw [List.mem_singleton.mp hw]
      exact lok_end
  | _, _, .read r k, h, ws, hw => by rw [List.mem_singleton.mp (show ws ∈ [Row.wds (.read r k)] by simpa only [Row.ls] using hw)]; exact lok_row hc h
  | _, _, .set k e, h, ws, hw => by rw [List.mem_singleton.mp (show ws ∈ [Row.wds (.set k e)] by simpa only [Row.ls] using hw)]; exact lok_row hc h
  | _, _, .swap r k e f, h, ws, hw => by rw [List.mem_singleton.mp (show ws ∈ [Row.wds (.swap r k e f)] by simpa only [Row.ls] using hw)]; exact lok_row hc h
  | _, _, .keep r e, h, ws, hw => by rw [List.mem_singleton.mp (show ws ∈ [Row.wds (.keep r e)] by simpa only [Row.ls] using hw)]; exact lok_row hc h
  | _, _, .coin r, h, ws, hw => by rw [List.mem_singleton.mp (show ws ∈ [Row.wds (.coin r)] by simpa only [Row.ls] using hw)]; exact lok_row hc h
  | _, _, .ans e, h, ws, hw => by rw [List.mem_singleton.mp (show ws ∈ [Row.wds (.ans e)] by simpa only [Row.ls] using hw)]; exact lok_row hc h
theorem loks_ls {c : Int} (hc : c ≤ 9) : ∀ {deep loops : Nat} {rs : List Row}, rowsOk c deep loops rs → ∀ ws ∈ rowsLs rs, LOk ws
  | _, _, [], _, ws, hw => by simp [rowsLs] at hw
  | deep, loops, r :: rs, h, ws, hw => by
    have hw : ws ∈ r.ls ++ rowsLs rs := by simpa only [rowsLs] using hw
    rcases List.mem_append.mp hw with hw | hw
    · exact lok_ls hc h.2.1 ws hw
    · exact loks_ls hc h.2.2 ws hw
end
mutual
theorem len_ls : ∀ r : Row, r.ls.length ≤ 3 * r.cl
  | .iff e a b => by
    have h1 := lens_ls a
    have h2 := lens_ls b
    show (_ :: (rowsLs a ++ (elsW :: (rowsLs b ++ [endW])))).length ≤ 3 * (1 + (rowsCl a + rowsCl b))
    simp only [List.length_cons, List.length_append, List.length_nil]
    omega
  | .times e a => by
    have h1 := lens_ls a
    show (_ :: (rowsLs a ++ [endW])).length ≤ 3 * (1 + rowsCl a)
    simp only [List.length_cons, List.length_append, List.length_nil]
    omega
  | .read r k => by show 1 ≤ 3 * 1; decide
  | .set k e => by show 1 ≤ 3 * 1; decide
  | .swap r k e f => by show 1 ≤ 3 * 1; decide
  | .keep r e => by show 1 ≤ 3 * 1; decide
  | .coin r => by show 1 ≤ 3 * 1; decide
  | .ans e => by show 1 ≤ 3 * 1; decide
theorem lens_ls : ∀ rs : List Row, (rowsLs rs).length ≤ 3 * rowsCl rs
  | [] => by show 0 ≤ 0; decide
  | r :: rs => by
    have h1 := len_ls r
    have h2 := lens_ls rs
    show (r.ls ++ rowsLs rs).length ≤ 3 * (r.cl + rowsCl rs)
    rw [List.length_append]
    omega
end

end M

set_option Elab.async false
set_option linter.all false
set_option maxRecDepth 100000
set_option maxHeartbeats 2000000
namespace M
open PySem PySem.Spec PyProof.Rows L2

/-! ### how long lines are; how they are cut -/
def chW (ws : List Str) : Nat := (ws.map fun w => w.length + 1).sum
def chL (ls : List (List Str)) : Nat := (ls.map chW).sum
theorem chW_cons (w : Str) (ws : List Str) : chW (w :: ws) = w.length + 1 + chW ws := by simp [chW]
theorem chL_nil : chL [] = 0 := rfl
theorem chL_cons (l : List Str) (ls : List (List Str)) : chL (l :: ls) = chW l + chL ls := by simp [chL]
theorem chL_app (a b : List (List Str)) : chL (a ++ b) = chL a + chL b := by simp [chL, List.sum_append]
theorem join1_len {y : Str} (hy : (TL.tl y).length = 1) : ∀ {ps : List Str}, ps ≠ [] → (Txt.join y ps).length + 1 = (ps.map fun w => w.length + 1).sum := by
  have key : ∀ ps : List Str, ps ≠ [] → (TL.joinL (TL.tl y) (ps.map TL.tl)).length + 1 = (ps.map fun w => w.length + 1).sum := by
    intro ps
    induction ps with
    | nil => exact fun h => absurd rfl h
    | cons p ps ih =>
      intro _
      cases ps with
      | nil =>
        show (TL.tl p).length + 1 = p.length + 1 + 0
        rw [← tl_len]
      | cons q qs =>
        have := ih (List.cons_ne_nil _ _)
        show (TL.joinL (TL.tl y) (TL.tl p :: ((q :: qs).map TL.tl))).length + 1 = p.length + 1 + ((q :: qs).map fun w => w.length + 1).sum
        rw [joinL_cons (by simp), List.length_append, List.length_append, hy, ← this, ← tl_len]
        omega
  intro ps h
  have e := key ps h
  rw [← TL.tl_join, ← TL.join_eq] at e
  rw [tl_len]
  exact e
theorem line_len {ws : List Str} (h : ws ≠ []) : (lineS ws).length + 1 = chW ws := join1_len (y := (" " : Str)) (by rw [tl_sp]; rfl) h
theorem lok_free {ws : List Str} (h : LOk ws) : 10 ∉ TL.tl (lineS ws) := by
  unfold lineS
  rw [TL.join_eq, TL.tl_join, tl_sp]
  intro hm
  have key : ∀ ps : List Str, (∀ w ∈ ps, WOk w) → 10 ∉ TL.joinL [32] (ps.map TL.tl) := by
    intro ps
    induction ps with
    | nil => exact fun _ z => nomatch z
    | cons p ps ih =>
      intro hp
      have h1 : 10 ∉ TL.tl p := fun z => absurd ((hp p List.mem_cons_self).1 10 z).1 (by decide)
      cases ps with
      | nil => exact h1
      | cons q qs =>
        rw [List.map_cons, joinL_cons (by simp)]
        intro z
        rcases List.mem_append.mp z with z | z
        · exact h1 z
        rcases List.mem_append.mp z with z | z
        · exact absurd (List.mem_singleton.mp z) (by decide)
        · exact ih (fun w hw => hp w (List.mem_cons_of_mem _ hw)) z
  exact key ws h.2.2 hm
theorem split_line {ws : List Str} (h : LOk ws) : Txt.split (lineS ws) (" " : Str) = ws := TL.split_join tl_sp sp_all h.1 fun p hp z => absurd ((h.2.2 p hp).1 32 z).1 (by decide)
theorem split_text {ls : List (List Str)} (hn : ls ≠ []) (h : ∀ ws ∈ ls, LOk ws) : Txt.split (Txt.join ("\n" : Str) (ls.map lineS)) ("\n" : Str) = ls.map lineS := by
  refine TL.split_join tl_nl nl_all (by simpa using hn) fun p hp => ?_
  obtain ⟨ws, hw, rfl⟩ := List.mem_map.mp hp
  exact lok_free (h ws hw)
theorem text_len {ls : List (List Str)} (hn : ls ≠ []) (h : ∀ ws ∈ ls, LOk ws) : (Txt.join ("\n" : Str) (ls.map lineS)).length + 1 = chL ls := by
  rw [join1_len (y := ("\n" : Str)) (by rw [tl_nl]; rfl) (by simpa using hn), List.map_map]
  unfold chL
  congr 1
  refine List.map_congr_left fun ws hw => ?_
  exact line_len (h ws hw).1
theorem estr_253 {e : Exp} (h : e.good) : (estr e).length ≤ 253 := by
  have := (etx_len (good_EOk h)).2
  rw [estr_len]
  omega
theorem reg_1 {r : Str} (h : r ∈ regs4) : r.length = 1 := by
  simp only [regs4, List.mem_cons, List.not_mem_nil, or_false] at h
  rcases h with rfl | rfl | rfl | rfl <;> decide +kernel
theorem len_words : ("read" : Str).length = 4 ∧ ("set" : Str).length = 3 ∧ ("swap" : Str).length = 4 ∧ ("keep" : Str).length = 4 ∧ ("coin" : Str).length = 4 ∧ ("if" : Str).length = 2 ∧ ("times" : Str).length = 5 ∧ ("answer" : Str).length = 6 ∧ ("else" : Str).length = 4 ∧ ("end" : Str).length = 3 ∧ ("cell" : Str).length = 4 ∧ ("deed" : Str).length = 4 := by decide +kernel
theorem chW_row {c : Int} {deep loops : Nat} {r : Row} (h : r.ok c deep loops) : chW r.wds ≤ 517 := by
  obtain ⟨w1, w2, w3, w4, w5, w6, w7, w8, _⟩ := len_words
  cases r with
  | read r k =>
    have h1 := reg_1 h.1
    simp only [Row.wds, Row.word, Row.prts, List.filterMap_cons, List.filterMap_nil, Prt.wd, chW, List.map_cons, List.map_nil, List.sum_cons, List.sum_nil, len_dg]
    omega
  | set k e =>
    have h1 := estr_253 h.2
    simp only [Row.wds, Row.word, Row.prts, List.filterMap_cons, List.filterMap_nil, Prt.wd, chW, List.map_cons, List.map_nil, List.sum_cons, List.sum_nil, len_dg]
    omega
  | swap r k e f =>
    have h1 := reg_1 h.1
    have h2 := estr_253 h.2.2.1
    have h3 := estr_253 h.2.2.2
    simp only [Row.wds, Row.word, Row.prts, List.filterMap_cons, List.filterMap_nil, Prt.wd, chW, List.map_cons, List.map_nil, List.sum_cons, List.sum_nil, len_dg]
    omega
  | keep r e =>
    have h1 := reg_1 h.1
    have h2 := estr_253 h.2
    simp only [Row.wds, Row.word, Row.prts, List.filterMap_cons, List.filterMap_nil, Prt.wd, chW, List.map_cons, List.map_nil, List.sum_cons, List.sum_nil, len_dg]
    omega
  | coin r =>
    have h1 := reg_1 h.1
    simp only [Row.wds, Row.word, Row.prts, List.filterMap_cons, List.filterMap_nil, Prt.wd, chW, List.map_cons, List.map_nil, List.sum_cons, List.sum_nil, len_dg]
    omega
  | iff e a b =>
    have h1 := estr_253 h.1
    simp only [Row.wds, Row.word, Row.prts, List.filterMap_cons, List.filterMap_nil, Prt.wd, chW, List.map_cons, List.map_nil, List.sum_cons, List.sum_nil, len_dg]
    omega
  | times e a =>
    have h1 := estr_253 h.1
    simp only [Row.wds, Row.word, Row.prts, List.filterMap_cons, List.filterMap_nil, Prt.wd, chW, List.map_cons, List.map_nil, List.sum_cons, List.sum_nil, len_dg]
    omega
  | ans e =>
    have h1 := estr_253 h
    simp only [Row.wds, Row.word, Row.prts, List.filterMap_cons, List.filterMap_nil, Prt.wd, chW, List.map_cons, List.map_nil, List.sum_cons, List.sum_nil, len_dg]
    omega
theorem chW_els : chW elsW = 5 := by decide +kernel
theorem chW_end : chW endW = 4 := by decide +kernel
theorem chL_one (l : List Str) : chL [l] = chW l := by simp [chL]
mutual
theorem ch_ls {c : Int} : ∀ {deep loops : Nat} {r : Row}, r.ok c deep loops → chL r.ls ≤ 526 * r.cl
  | deep, loops, .iff e a b, h => by
    have h' : e.good ∧ rowsOk c (deep + 1) loops a ∧ rowsOk c (deep + 1) loops b := h
    have h1 := chs_ls h'.2.1
    have h2 := chs_ls h'.2.2
    have h3 := chW_row (r := .iff e [] []) (c := c) (deep := deep) (loops := loops) ⟨h'.1, trivial, trivial⟩
    show chL (Row.wds (.iff e [] []) :: (rowsLs a ++ (elsW :: (rowsLs b ++ [endW])))) ≤ 526 * (1 + (rowsCl a + rowsCl b))
    rw [chL_cons, chL_app, chL_cons, chL_app, chL_one, chW_els, chW_end]
    omega
  | deep, loops, .times e a, h => by
    have h' : e.good ∧ loops < 2 ∧ rowsOk c (deep + 1) (loops + 1) a := h
    have h1 := chs_ls h'.2.2
    have h3 := chW_row (r := .times e []) (c := c) (deep := deep) (loops := loops) ⟨h'.1, h'.2.1, trivial⟩
    show chL (Row.wds (.times e []) :: (rowsLs a ++ [endW])) ≤ 526 * (1 + rowsCl a)
    rw [chL_cons, chL_app, chL_one, chW_end]
    omega
  | _, _, .read r k, h => by have := chW_row h; show chL [Row.wds (.read r k)] ≤ 526 * 1; rw [chL_one]; omega
  | _, _, .set k e, h => by have := chW_row h; show chL [Row.wds (.set k e)] ≤ 526 * 1; rw [chL_one]; omega
  | _, _, .swap r k e f, h => by have := chW_row h; show chL [Row.wds (.swap r k e f)] ≤ 526 * 1; rw [chL_one]; omega
  | _, _, .keep r e, h => by have := chW_row h; show chL [Row.wds (.keep r e)] ≤ 526 * 1; rw [chL_one]; omega
  | _, _, .coin r, h => by have := chW_row h; show chL [Row.wds (.coin r)] ≤ 526 * 1; rw [chL_one]; omega
  | _, _, .ans e, h => by have := chW_row h; show chL [Row.wds (.ans e)] ≤ 526 * 1; rw [chL_one]; omega
theorem chs_ls {c : Int} : ∀ {deep loops : Nat} {rs : List Row}, rowsOk c deep loops rs → chL (rowsLs rs) ≤ 526 * rowsCl rs
  | _, _, [], _ => Nat.le_refl 0
  | deep, loops, r :: rs, h => by
    have h1 := ch_ls h.2.1
    have h2 := chs_ls h.2.2
    show chL (r.ls ++ rowsLs rs) ≤ 526 * (r.cl + rowsCl rs)
    rw [chL_app]
    omega
end
/-- the lines of a good vault -/
theorem vault_lok {v : Vlt} (g : VGood v) : ∀ ws ∈ vaultLs v, LOk ws := fun ws hw => by
  rcases List.mem_append.mp hw with hw | hw
  · obtain ⟨c, hc, rfl⟩ := List.mem_map.mp hw
    have ok := g.cs c hc
    unfold CellOk at ok
    exact lok_cell ⟨by omega, by omega⟩ ⟨by omega, by omega⟩
  · obtain ⟨d, hd, hw⟩ := List.mem_flatMap.mp hw
    have ok := g.ds d hd
    rcases List.mem_cons.mp hw with rfl | hw
    · have c9 := ok.2.1
      exact lok_deed ok.1 ⟨by omega, by omega⟩
    · exact loks_ls (by have := g.c1; omega) ok.2.2.1 ws hw
theorem vault_ne {v : Vlt} (g : VGood v) : vaultLs v ≠ [] := by
  have := g.c0
  unfold vaultLs
  intro z
  have h := (List.append_eq_nil_iff.mp z).1
  rw [List.map_eq_nil_iff] at h
  rw [h] at this
  exact absurd this (by decide)
theorem vault_ch {v : Vlt} (g : VGood v) : chL (vaultLs v) ≤ 9000000 := by
  have c1 : chL (v.cells.map cellW) ≤ 9 * v.cells.length := by
    have : ∀ l : List (Int × Int), chL (l.map cellW) ≤ 9 * l.length := by
      intro l
      induction l with
      | nil => exact Nat.le_refl 0
      | cons c r ih =>
        have l4 := len_words.2.2.2.2.2.2.2.2.2.2.1
        rw [List.map_cons, chL_cons, List.length_cons]
        have : chW (cellW c) = 9 := by
          simp only [cellW, chW, List.map_cons, List.map_nil, List.sum_cons, List.sum_nil, len_dg, l4]
          omega
        omega
    exact this _
  have d1 : chL (v.deeds.flatMap deedLs) ≤ 1100000 * v.deeds.length := by
    have : ∀ l : List (Str × Int × List Row), (∀ d ∈ l, DeedOk v.cells.length d) → chL (l.flatMap deedLs) ≤ 1100000 * l.length := by
      intro l
      induction l with
      | nil => exact fun _ => Nat.le_refl 0
      | cons d r ih =>
        intro h
        have ok := h d List.mem_cons_self
        have i2 := ih fun x hx => h x (List.mem_cons_of_mem _ hx)
        have l4 := len_words.2.2.2.2.2.2.2.2.2.2.2
        have r1 := chs_ls ok.2.2.1
        have cl := ok.2.2.2.2
        have n8 := ok.1.2.1
        rw [List.flatMap_cons, chL_app, List.length_cons]
        have : chL (deedLs d) ≤ 1100000 := by
          unfold deedLs
          rw [chL_cons]
          have : chW (deedW d) = 5 + (d.1.length + 1 + 2) := by
            simp only [deedW, chW, List.map_cons, List.map_nil, List.sum_cons, List.sum_nil, len_dg, l4]
            omega
          omega
        omega
    exact this _ g.ds
  have a1 := g.c1
  have a2 := g.d1
  unfold vaultLs
  rw [chL_app]
  omega

end M

set_option Elab.async false
set_option linter.all false
set_option maxRecDepth 100000
set_option maxHeartbeats 2000000
namespace M
open PySem PySem.Spec PyProof.Rows L2

/-! ### reading lines -/
structure Blk where
  head : List PyData
  parts : Nat
  over : List PyData
  listed : List PyData
structure Dr where
  cells : List (Int × Int)
  around : List Blk
  past : List PyData
def Dr.deeds (s : Dr) : List PyData := s.past ++ s.around.map fun b => .tuple (b.head ++ [.tuple b.listed])
/-- what stands ahead of the rows of a row that has some -/
def Row.hd : Row → List PyData
  | .iff e _ _ => [.str "if", e.d]
  | .times e _ => [.str "times", e.d]
  | _ => []
def Row.pn : Row → Nat
  | .iff .. => 2
  | .times .. => 1
  | _ => 0
/-- a line is taken -/
inductive Tk : Dr → List Str → Dr → Prop where
  | cell {s : Dr} {c : Int × Int} (h : s.around = []) (h1 : 0 ≤ c.1 ∧ c.1 ≤ 9) (h2 : 0 ≤ c.2 ∧ c.2 ≤ 9) : Tk s (cellW c) { s with cells := s.cells ++ [c] }
  | deed {s : Dr} {d : Str × Int × List Row} (h : s.around.length ≤ 1) (h1 : NameOk d.1) (h2 : 0 ≤ d.2.1 ∧ d.2.1 ≤ 9) : Tk s (deedW d) { s with past := s.deeds, around := [⟨[.str d.1, .int d.2.1], 1, [], []⟩] }
  | row {s : Dr} {bs : List Blk} {b : Blk} {r : Row} {c : Int} {deep loops : Nat} (h : s.around = bs ++ [b]) (h1 : s.around.length ≤ 12) (h2 : r.pn = 0) (ok : r.ok c deep loops) (hc : c ≤ 9) : Tk s r.wds { s with around := bs ++ [{ b with listed := b.listed ++ [r.d] }] }
  | opn {s : Dr} {r : Row} {c : Int} {deep loops : Nat} (h : 1 ≤ s.around.length) (h1 : s.around.length ≤ 12) (h2 : r.pn ≠ 0) (ok : r.ok c deep loops) (hc : c ≤ 9) : Tk s r.wds { s with around := s.around ++ [⟨r.hd, r.pn, [], []⟩] }
  | els {s : Dr} {bs : List Blk} {b : Blk} (h : s.around = bs ++ [b]) (h1 : 1 ≤ bs.length) (h2 : b.parts = b.over.length + 2) : Tk s elsW { s with around := bs ++ [{ b with over := b.over ++ [.tuple b.listed], listed := [] }] }
  | fin {s : Dr} {bs : List Blk} {a b : Blk} (h : s.around = bs ++ [a, b]) (h2 : b.parts = b.over.length + 1) : Tk s endW { s with around := bs ++ [{ a with listed := a.listed ++ [.tuple (b.head ++ (b.over ++ [.tuple b.listed]))] }] }
inductive TkS : Dr → List (List Str) → Dr → Prop where
  | nil (s : Dr) : TkS s [] s
  | cons {s t u : Dr} {l : List Str} {ls : List (List Str)} (h : Tk s l t) (r : TkS t ls u) : TkS s (l :: ls) u
theorem TkS.app {s t u : Dr} {a b : List (List Str)} (h : TkS s a t) (k : TkS t b u) : TkS s (a ++ b) u := by
  induction h with
  | nil => exact k
  | cons h1 _ ih => exact .cons h1 (ih k)
theorem TkS.one {s t : Dr} {l : List Str} (h : Tk s l t) : TkS s [l] t := .cons h (.nil _)
theorem simple_ls {r : Row} (h : r.pn = 0) : r.ls = [r.wds] := by
  cases r <;> first | rfl | cases h
mutual
theorem run_row {c : Int} (hc : c ≤ 9) : ∀ {deep loops : Nat} {r : Row} {s : Dr} {bs : List Blk} {b : Blk}, r.ok c deep loops → deep ≤ 12 → s.around = bs ++ [b] → s.around.length = deep → TkS s r.ls { s with around := bs ++ [{ b with listed := b.listed ++ [r.d] }] }
  | deep, loops, .iff e x y, s, bs, b, ok, hd, h, hl => by
    have ok' : e.good ∧ rowsOk c (deep + 1) loops x ∧ rowsOk c (deep + 1) loops y := ok
    have l0 : 1 ≤ s.around.length := by rw [h, List.length_append, List.length_singleton]; omega
    have lb : s.around.length = bs.length + 1 := by rw [h, List.length_append, List.length_singleton]
    show TkS s (Row.wds (.iff e [] []) :: (rowsLs x ++ (elsW :: (rowsLs y ++ [endW])))) _
    refine .cons (.opn (r := .iff e [] []) (c := c) (deep := deep) (loops := loops) l0 (by omega) (by show (2 : Nat) ≠ 0; decide) ⟨ok'.1, trivial, trivial⟩ hc) ?_
    refine TkS.app (run_rows hc (bs := s.around) (b := ⟨[.str "if", e.d], 2, [], []⟩) ok'.2.1 rfl (by show (s.around ++ [_]).length = deep + 1; rw [List.length_append, List.length_singleton, hl])) ?_
    refine .cons (.els (bs := s.around) rfl l0 rfl) ?_
    refine TkS.app (run_rows hc (bs := s.around) ok'.2.2 rfl (by show (s.around ++ [_]).length = deep + 1; rw [List.length_append, List.length_singleton, hl])) ?_
    refine TkS.one ?_
    have f := Tk.fin (s := { s with around := s.around ++ [⟨[.str "if", e.d], 2, [.tuple ([] ++ rowsD x)], [] ++ rowsD y⟩] }) (bs := bs) (a := b) (b := ⟨[.str "if", e.d], 2, [.tuple ([] ++ rowsD x)], [] ++ rowsD y⟩) (by show s.around ++ [_] = _; rw [h, List.append_assoc]; rfl) rfl
    exact f
  | deep, loops, .times e x, s, bs, b, ok, hd, h, hl => by
    have ok' : e.good ∧ loops < 2 ∧ rowsOk c (deep + 1) (loops + 1) x := ok
    have l0 : 1 ≤ s.around.length := by rw [h, List.length_append, List.length_singleton]; omega
    show TkS s (Row.wds (.times e []) :: (rowsLs x ++ [endW])) _
    refine .cons (.opn (r := .times e []) (c := c) (deep := deep) (loops := loops) l0 (by omega) (by show (1 : Nat) ≠ 0; decide) ⟨ok'.1, ok'.2.1, trivial⟩ hc) ?_
    refine TkS.app (run_rows hc (bs := s.around) (b := ⟨[.str "times", e.d], 1, [], []⟩) ok'.2.2 rfl (by show (s.around ++ [_]).length = deep + 1; rw [List.length_append, List.length_singleton, hl])) ?_
    refine TkS.one ?_
    exact Tk.fin (s := { s with around := s.around ++ [⟨[.str "times", e.d], 1, [], [] ++ rowsD x⟩] }) (bs := bs) (a := b) (b := ⟨[.str "times", e.d], 1, [], [] ++ rowsD x⟩) (by show s.around ++ [_] = _; rw [h, List.append_assoc]; rfl) rfl
  | _, _, .read r k, s, bs, b, ok, hd, h, hl => .one (.row (r := .read r k) h (by omega) rfl ok hc)
  | _, _, .set k e, s, bs, b, ok, hd, h, hl => .one (.row (r := .set k e) h (by omega) rfl ok hc)
  | _, _, .swap r k e f, s, bs, b, ok, hd, h, hl => .one (.row (r := .swap r k e f) h (by omega) rfl ok hc)
  | _, _, .keep r e, s, bs, b, ok, hd, h, hl => .one (.row (r := .keep r e) h (by omega) rfl ok hc)
  | _, _, .coin r, s, bs, b, ok, hd, h, hl => .one (.row (r := .coin r) h (by omega) rfl ok hc)
  | _, _, .ans e, s, bs, b, ok, hd, h, hl => .one (.row (r := .ans e) h (by omega) rfl ok hc)
theorem run_rows {c : Int} (hc : c ≤ 9) : ∀ {deep loops : Nat} {rs : List Row} {s : Dr} {bs : List Blk} {b : Blk}, rowsOk c deep loops rs → s.around = bs ++ [b] → s.around.length = deep → TkS s (rowsLs rs) { s with around := bs ++ [{ b with listed := b.listed ++ rowsD rs }] }
  | _, _, [], s, bs, b, _, h, _ => by
    show TkS s [] { s with around := bs ++ [{ b with listed := b.listed ++ [] }] }
    rw [List.append_nil, ← h]
    exact .nil s
  | deep, loops, r :: rs, s, bs, b, ok, h, hl => by
    show TkS s (r.ls ++ rowsLs rs) { s with around := bs ++ [{ b with listed := b.listed ++ (r.d :: rowsD rs) }] }
    have h1 := run_row hc ok.2.1 ok.1 h hl
    have h2 := run_rows hc (s := { s with around := bs ++ [{ b with listed := b.listed ++ [r.d] }] }) (bs := bs) (b := { b with listed := b.listed ++ [r.d] }) ok.2.2 rfl (by show (bs ++ [_]).length = deep; rw [← hl, h, List.length_append, List.length_append, List.length_singleton, List.length_singleton])
    have h3 := h1.app h2
    have e : b.listed ++ [r.d] ++ rowsD rs = b.listed ++ (r.d :: rowsD rs) := by rw [List.append_assoc]; rfl
    rw [← e]
    exact h3
end
def Dr.zero : Dr := ⟨[], [], []⟩
theorem run_cells {v : Vlt} (g : VGood v) : TkS .zero (v.cells.map cellW) ⟨v.cells, [], []⟩ := by
  have : ∀ (l : List (Int × Int)) (cs : List (Int × Int)), (∀ c ∈ l, CellOk c) → TkS ⟨cs, [], []⟩ (l.map cellW) ⟨cs ++ l, [], []⟩ := by
    intro l
    induction l with
    | nil => intro cs _; rw [List.append_nil]; exact .nil _
    | cons c r ih =>
      intro cs h
      have ok := h c List.mem_cons_self
      have k := ih (cs ++ [c]) fun x hx => h x (List.mem_cons_of_mem _ hx)
      rw [List.append_assoc] at k
      have b := ok
      unfold CellOk at b
      exact .cons (.cell (s := ⟨cs, [], []⟩) rfl ⟨by omega, by omega⟩ ⟨by omega, by omega⟩) k
  exact this v.cells [] g.cs
theorem run_deeds {c : Int} (hc : c ≤ 9) (cells : List (Int × Int)) : ∀ {l : List (Str × Int × List Row)} {s : Dr}, (∀ d ∈ l, DeedOk c d) → s.around.length ≤ 1 → s.cells = cells → ∃ t, TkS s (l.flatMap deedLs) t ∧ t.cells = cells ∧ t.around.length ≤ 1 ∧ t.deeds = s.deeds ++ l.map deedD
  | [], s, _, h1, h2 => ⟨s, .nil s, h2, h1, by simp⟩
  | d :: l, s, h, h1, h2 => by
    have ok := h d List.mem_cons_self
    have c9 := ok.2.1
    have k1 : Tk s (deedW d) { s with past := s.deeds, around := [⟨[.str d.1, .int d.2.1], 1, [], []⟩] } := .deed h1 ok.1 ⟨by omega, by omega⟩
    have k2 := run_rows hc (s := { s with past := s.deeds, around := [⟨[.str d.1, .int d.2.1], 1, [], []⟩] }) (bs := []) (b := ⟨[.str d.1, .int d.2.1], 1, [], []⟩) ok.2.2.1 rfl rfl
    obtain ⟨t, r1, r2, r3, r4⟩ := run_deeds hc cells (l := l) (s := { s with past := s.deeds, around := [] ++ [⟨[.str d.1, .int d.2.1], 1, [], [] ++ rowsD d.2.2⟩] }) (fun x hx => h x (List.mem_cons_of_mem _ hx)) (Nat.le_refl 1) h2
    refine ⟨t, ?_, r2, r3, ?_⟩
    · rw [List.flatMap_cons]
      exact TkS.app (.cons k1 k2) r1
    · rw [r4, List.map_cons]
      show s.deeds ++ [PyData.tuple ([.str d.1, .int d.2.1] ++ [.tuple ([] ++ rowsD d.2.2)])] ++ l.map deedD = s.deeds ++ deedD d :: l.map deedD
      rw [List.append_assoc]
      rfl
/-- all lines of a good vault are taken -/
theorem run_vault {v : Vlt} (g : VGood v) : ∃ t, TkS .zero (vaultLs v) t ∧ t.cells = v.cells ∧ t.around.length ≤ 1 ∧ t.deeds = v.deeds.map deedD := by
  obtain ⟨t, h1, h2, h3, h4⟩ := run_deeds (c := (v.cells.length : Nat)) (by have := g.c1; omega) v.cells (s := ⟨v.cells, [], []⟩) g.ds (Nat.zero_le _) rfl
  exact ⟨t, (run_cells g).app h1, h2, h3, h4⟩

end M

set_option Elab.async false
set_option linter.all false
set_option maxRecDepth 100000
set_option maxHeartbeats 2000000
namespace M
open PySem PySem.Spec PyProof.Rows L2

/-! ### a text tells its vault -/
def wl : List Str := ["read", "set", "swap", "keep", "coin", "if", "times", "answer", "cell", "deed", "else", "end"]
def tagW (l : List Str) : Nat := wl.idxOf (l.headD ("" : Str))
def Row.tg : Row → Nat
  | .read .. => 0 | .set .. => 1 | .swap .. => 2 | .keep .. => 3 | .coin .. => 4 | .iff .. => 5 | .times .. => 6 | .ans .. => 7
theorem tag_row (r : Row) : tagW r.wds = r.tg := by
  cases r
  · show wl.idxOf ("read" : Str) = 0; decide +kernel
  · show wl.idxOf ("set" : Str) = 1; decide +kernel
  · show wl.idxOf ("swap" : Str) = 2; decide +kernel
  · show wl.idxOf ("keep" : Str) = 3; decide +kernel
  · show wl.idxOf ("coin" : Str) = 4; decide +kernel
  · show wl.idxOf ("if" : Str) = 5; decide +kernel
  · show wl.idxOf ("times" : Str) = 6; decide +kernel
  · show wl.idxOf ("answer" : Str) = 7; decide +kernel
theorem tag_cell (c : Int × Int) : tagW (cellW c) = 8 := by show wl.idxOf ("cell" : Str) = 8; decide +kernel
theorem tag_deed (d : Str × Int × List Row) : tagW (deedW d) = 9 := by show wl.idxOf ("deed" : Str) = 9; decide +kernel
theorem tag_els : tagW elsW = 10 := by decide +kernel
theorem tag_end : tagW endW = 11 := by decide +kernel
theorem tg_lt (r : Row) : r.tg < 8 := by cases r <;> simp [Row.tg]
theorem tg_pn {r r' : Row} (h : r.tg = r'.tg) : r.pn = r'.pn := by
  cases r <;> cases r' <;> first | rfl | cases h
theorem dg_inj {i j : Int} (hi : 0 ≤ i ∧ i ≤ 9) (hj : 0 ≤ j ∧ j ≤ 9) (h : dg i = dg j) : i = j := by
  have := digI_dg hi
  rw [h, digI_dg hj] at this
  exact (Option.some.inj this).symm
theorem estr_inj {e f : Exp} (he : e.good) (hf : f.good) (h : estr e = estr f) : e = f := by
  have h1 : inE (etx e) = some e := inE_iff.mpr ⟨good_EOk he, rfl⟩
  have h2 : inE (etx f) = some f := inE_iff.mpr ⟨good_EOk hf, rfl⟩
  have h3 : etx e = etx f := congrArg TL.tl h
  rw [h3, h2] at h1
  exact (Option.some.inj h1).symm
theorem row_inj {c c' : Int} {deep deep' loops loops' : Nat} {r r' : Row} (ok : r.ok c deep loops) (ok' : r'.ok c' deep' loops') (h9 : c ≤ 9) (h9' : c' ≤ 9) (h : r.wds = r'.wds) : r.hd = r'.hd ∧ (r.pn = 0 → r.d = r'.d) := by
  have ht : r.tg = r'.tg := by rw [← tag_row, ← tag_row, h]
  have hp : r.prts.filterMap Prt.wd = r'.prts.filterMap Prt.wd := (List.cons.inj h).2
  have D : ∀ {k k' : Int}, (0 ≤ k ∧ k < c) → (0 ≤ k' ∧ k' < c') → dg k = dg k' → k = k' := fun a b e => dg_inj ⟨a.1, by omega⟩ ⟨b.1, by omega⟩ e
  cases r with
  | read r k =>
    cases r' with
    | read r' k' =>
      have hp : [r, dg k] = [r', dg k'] := hp
      simp only [List.cons.injEq, and_true] at hp
      have e1 : k = k' := D ok.2 ok'.2 hp.2
      exact ⟨rfl, fun _ => by rw [hp.1, e1]⟩
    | _ => cases ht
  | set k e =>
    cases r' with
    | set k' e' =>
      have hp : [dg k, estr e] = [dg k', estr e'] := hp
      simp only [List.cons.injEq, and_true] at hp
      have e1 : k = k' := D ok.1 ok'.1 hp.1
      have e2 := estr_inj ok.2 ok'.2 hp.2
      exact ⟨rfl, fun _ => by rw [e1, e2]⟩
    | _ => cases ht
  | swap r k e f =>
    cases r' with
    | swap r' k' e' f' =>
      have hp : [r, dg k, estr e, estr f] = [r', dg k', estr e', estr f'] := hp
      simp only [List.cons.injEq, and_true] at hp
      have e1 : k = k' := D ok.2.1 ok'.2.1 hp.2.1
      have e2 := estr_inj ok.2.2.1 ok'.2.2.1 hp.2.2.1
      have e3 := estr_inj ok.2.2.2 ok'.2.2.2 hp.2.2.2
      exact ⟨rfl, fun _ => by rw [hp.1, e1, e2, e3]⟩
    | _ => cases ht
  | keep r e =>
    cases r' with
    | keep r' e' =>
      have hp : [r, estr e] = [r', estr e'] := hp
      simp only [List.cons.injEq, and_true] at hp
      have e2 := estr_inj ok.2 ok'.2 hp.2
      exact ⟨rfl, fun _ => by rw [hp.1, e2]⟩
    | _ => cases ht
  | coin r =>
    cases r' with
    | coin r' =>
      have hp : [r] = [r'] := hp
      exact ⟨rfl, fun _ => by rw [(List.cons.inj hp).1]⟩
    | _ => cases ht
  | iff e a b =>
    cases r' with
    | iff e' a' b' =>
      have hp : [estr e] = [estr e'] := hp
      have e2 := estr_inj ok.1 ok'.1 (List.cons.inj hp).1
      exact ⟨by show [PyData.str "if", e.d] = [PyData.str "if", e'.d]; rw [e2], fun z => nomatch z⟩
    | _ => cases ht
  | times e a =>
    cases r' with
    | times e' a' =>
      have hp : [estr e] = [estr e'] := hp
      have e2 := estr_inj ok.1 ok'.1 (List.cons.inj hp).1
      exact ⟨by show [PyData.str "times", e.d] = [PyData.str "times", e'.d]; rw [e2], fun z => nomatch z⟩
    | _ => cases ht
  | ans e =>
    cases r' with
    | ans e' =>
      have hp : [estr e] = [estr e'] := hp
      have e2 := estr_inj ok ok' (List.cons.inj hp).1
      exact ⟨rfl, fun _ => by rw [e2]⟩
    | _ => cases ht
theorem Tk.det {s t t' : Dr} {l l' : List Str} (h : Tk s l t) (h' : Tk s l' t') (e : l = l') : t = t' := by
  have et := congrArg tagW e
  cases h with
  | @cell c h h1 h2 =>
    rw [tag_cell] at et
    cases h' with
    | @cell c' k k1 k2 =>
      have hp : [("cell" : Str), dg c.1, dg c.2] = [("cell" : Str), dg c'.1, dg c'.2] := e
      simp only [List.cons.injEq, and_true, true_and] at hp
      rw [Prod.ext (dg_inj h1 k1 hp.1) (dg_inj h2 k2 hp.2)]
    | deed k => rw [tag_deed] at et; cases et
    | @row _ _ r => rw [tag_row] at et; have := tg_lt r; omega
    | @opn r => rw [tag_row] at et; have := tg_lt r; omega
    | els => rw [tag_els] at et; cases et
    | fin => rw [tag_end] at et; cases et
  | @deed d h h1 h2 =>
    rw [tag_deed] at et
    cases h' with
    | cell k => rw [tag_cell] at et; cases et
    | @deed d' k k1 k2 =>
      have hp : [("deed" : Str), d.1, dg d.2.1] = [("deed" : Str), d'.1, dg d'.2.1] := e
      simp only [List.cons.injEq, and_true, true_and] at hp
      rw [hp.1, dg_inj h2 k2 hp.2]
    | @row _ _ r => rw [tag_row] at et; have := tg_lt r; omega
    | @opn r => rw [tag_row] at et; have := tg_lt r; omega
    | els => rw [tag_els] at et; cases et
    | fin => rw [tag_end] at et; cases et
  | @row bs b r c deep loops h h1 h2 ok hc =>
    rw [tag_row] at et
    cases h' with
    | cell k => rw [tag_cell] at et; have := tg_lt r; omega
    | deed k => rw [tag_deed] at et; have := tg_lt r; omega
    | @row bs' b' r' c' _ _ k k1 k2 ok' hc' =>
      rw [h] at k
      obtain ⟨rfl, e2⟩ := List.append_inj' k rfl
      cases (List.cons.inj e2).1
      rw [(row_inj ok ok' hc hc' e).2 h2]
    | @opn r' c' _ _ k k1 k2 ok' hc' =>
      rw [tag_row] at et
      exact absurd ((tg_pn et).symm.trans h2) k2
    | els => rw [tag_els] at et; have := tg_lt r; omega
    | fin => rw [tag_end] at et; have := tg_lt r; omega
  | @opn r c deep loops h h1 h2 ok hc =>
    rw [tag_row] at et
    cases h' with
    | cell k => rw [tag_cell] at et; have := tg_lt r; omega
    | deed k => rw [tag_deed] at et; have := tg_lt r; omega
    | @row bs' b' r' c' _ _ k k1 k2 ok' hc' =>
      rw [tag_row] at et
      exact absurd ((tg_pn et).trans k2) h2
    | @opn r' c' _ _ k k1 k2 ok' hc' =>
      rw [tag_row] at et
      have i : r.hd = r'.hd := by
        cases r with
        | iff x a b =>
          cases r' with
          | iff x' a' b' => exact (row_inj (r := .iff x [] []) (r' := .iff x' [] []) (c := 9) (c' := 9) (deep := 1) (deep' := 1) (loops := 0) (loops' := 0) ⟨ok.1, trivial, trivial⟩ ⟨ok'.1, trivial, trivial⟩ (Int.le_refl _) (Int.le_refl _) e).1
          | _ => cases et
        | times x a =>
          cases r' with
          | times x' a' => exact (row_inj (r := .times x []) (r' := .times x' []) (c := 9) (c' := 9) (deep := 1) (deep' := 1) (loops := 0) (loops' := 0) ⟨ok.1, by decide, trivial⟩ ⟨ok'.1, by decide, trivial⟩ (Int.le_refl _) (Int.le_refl _) e).1
          | _ => cases et
        | _ => exact absurd rfl h2
      rw [i, tg_pn et]
    | els => rw [tag_els] at et; have := tg_lt r; omega
    | fin => rw [tag_end] at et; have := tg_lt r; omega
  | @els bs b h h1 h2 =>
    rw [tag_els] at et
    cases h' with
    | cell k => rw [tag_cell] at et; cases et
    | deed k => rw [tag_deed] at et; cases et
    | @row _ _ r => rw [tag_row] at et; have := tg_lt r; omega
    | @opn r => rw [tag_row] at et; have := tg_lt r; omega
    | @els bs' b' k k1 k2 =>
      rw [h] at k
      obtain ⟨rfl, e2⟩ := List.append_inj' k rfl
      cases (List.cons.inj e2).1
      rfl
    | fin => rw [tag_end] at et; cases et
  | @fin bs a b h h2 =>
    rw [tag_end] at et
    cases h' with
    | cell k => rw [tag_cell] at et; cases et
    | deed k => rw [tag_deed] at et; cases et
    | @row _ _ r => rw [tag_row] at et; have := tg_lt r; omega
    | @opn r => rw [tag_row] at et; have := tg_lt r; omega
    | els => rw [tag_els] at et; cases et
    | @fin bs' a' b' k k2 =>
      rw [h] at k
      obtain ⟨rfl, e2⟩ := List.append_inj' k rfl
      cases (List.cons.inj e2).1
      cases (List.cons.inj (List.cons.inj e2).2).1
      rfl
theorem TkS.det {s t t' : Dr} {l : List (List Str)} (h : TkS s l t) (h' : TkS s l t') : t = t' := by
  induction h with
  | nil => cases h'; rfl
  | cons h1 _ ih =>
    cases h' with
    | cons k1 k2 =>
      cases h1.det k1 rfl
      exact ih k2
theorem map_inj {α β : Type} {f : α → β} (hf : ∀ a b, f a = f b → a = b) : ∀ {l m : List α}, l.map f = m.map f → l = m
  | [], [], _ => rfl
  | [], _ :: _, h => by simp at h
  | _ :: _, [], h => by simp at h
  | a :: l, b :: m, h => by
    rw [List.map_cons, List.map_cons] at h
    obtain ⟨h1, h2⟩ := List.cons.inj h
    rw [hf _ _ h1, map_inj hf h2]
/-- good vaults with the same text: the same cells and deeds -/
theorem text_tells {v u : Vlt} (gv : VGood v) (gu : VGood u) (h : vaultS v = vaultS u) : v.cells = u.cells ∧ v.deeds.map deedD = u.deeds.map deedD := by
  have e : (vaultLs v).map lineS = (vaultLs u).map lineS := by
    rw [← split_text (vault_ne gv) (vault_lok gv), ← split_text (vault_ne gu) (vault_lok gu)]
    exact congrArg (fun t => Txt.split t ("\n" : Str)) h
  have e2 : vaultLs v = vaultLs u := by
    have : ∀ {l m : List (List Str)}, (∀ w ∈ l, LOk w) → (∀ w ∈ m, LOk w) → l.map lineS = m.map lineS → l = m := by
      intro l
      induction l with
      | nil =>
        intro m _ _ h
        cases m with
        | nil => rfl
        | cons b m => simp at h
      | cons a l ih =>
        intro m hl hm h
        cases m with
        | nil => simp at h
        | cons b m =>
          rw [List.map_cons, List.map_cons] at h
          obtain ⟨h1, h2⟩ := List.cons.inj h
          have ha := split_line (hl a List.mem_cons_self)
          rw [h1, split_line (hm b List.mem_cons_self)] at ha
          rw [ha, ih (fun w hw => hl w (List.mem_cons_of_mem _ hw)) (fun w hw => hm w (List.mem_cons_of_mem _ hw)) h2]
    exact this (vault_lok gv) (vault_lok gu) e
  obtain ⟨t, r1, r2, _, r4⟩ := run_vault gv
  obtain ⟨t', k1, k2, _, k4⟩ := run_vault gu
  rw [e2] at r1
  cases r1.det k1
  exact ⟨r2.symm.trans k2, r4.symm.trans k4⟩

end M

set_option Elab.async false
set_option linter.all false
set_option maxRecDepth 100000
set_option maxHeartbeats 2000000
namespace M
open PySem PySem.Spec PyProof.Rows L2

/-! ### the lines of rows, as the program puts them -/
section
variable {K : PySem.W.Frag} {a b : Addr} {xs ys : List V}
theorem it_zipT (hl : xs.length = ys.length) {B : (Hp → Prop) → V → Hp → Prop} {H1 : Hp} {Qd : Hp → Prop} (Pv : Nat → Hp → Prop) (h0 : Pv 0 H1) (hq : ∀ i H, Pv i H → SqT K H a xs ∧ SqT K H b ys) (hs : ∀ (i : Nat) (x y : V) (T : Addr) (H : Hp), xs[i]? = some x → ys[i]? = some y → Pv i H → H T = none → B (Pv (i + 1)) (.ref T) (upd H T (.tup [x, y]))) (hd : ∀ H, Pv xs.length H → Qd H) :
    ∃ W : Nat → Nat → Hp → Prop, (∃ m, W 0 m H1) ∧ ∀ i m H, W i m H → ((RZ.ItzT K a b).stop i H ∧ Qd H) ∨ ((RZ.ItzT K a b).go i H ∧ ∃ Nx : Hp → Prop, (∀ H', Nx H' → ∃ m', m' < m ∧ W (i + 1) m' H') ∧ ∀ x H', (RZ.ItzT K a b).yld i H x H' → B Nx x H') := by
  refine ⟨fun i m H => m = xs.length - i ∧ i ≤ xs.length ∧ Pv i H, ⟨xs.length, rfl, Nat.zero_le _, h0⟩, ?_⟩
  rintro i m H ⟨rfl, hi, p⟩
  obtain ⟨qx, qy⟩ := hq i H p
  by_cases hlt : i < xs.length
  · have hx : xs[i]? = some xs[i] := List.getElem?_eq_getElem hlt
    have hlt2 : i < ys.length := by omega
    have hy : ys[i]? = some ys[i] := List.getElem?_eq_getElem hlt2
    refine .inr ⟨⟨xs, ys, _, _, qx, qy, hx, hy⟩, Pv (i + 1), fun H' p' => ⟨xs.length - (i + 1), by omega, rfl, hlt, p'⟩, fun v H' y => ?_⟩
    obtain ⟨T, x', y', rfl, hT, rfl, f1, f2⟩ := y
    exact hs i x' y' T H (f1 xs qx) (f2 ys qy) p hT
  · have e : i = xs.length := by omega
    subst e
    exact .inl ⟨⟨xs, ys, qx, qy, Or.inl (Nat.le_refl _)⟩, hd H p⟩
end
theorem rowsLs_app : ∀ (as bs : List Row), rowsLs (as ++ bs) = rowsLs as ++ rowsLs bs
  | [], _ => rfl
  | a :: as, bs => by
    show a.ls ++ rowsLs (as ++ bs) = a.ls ++ rowsLs as ++ rowsLs bs
    rw [rowsLs_app as bs, List.append_assoc]
theorem rowsLs_one (r : Row) : rowsLs [r] = r.ls := by
  show r.ls ++ [] = r.ls
  rw [List.append_nil]
/-- the expression that stands for a part -/
def Prt.xp : Prt → Exp
  | .reg r => .reg r
  | .cell k => .num k
  | .ex e => e
  | .rows _ => .num 0
def Prt.isRows : Prt → Bool
  | .rows _ => true
  | _ => false
theorem prt_kind (p : Prt) : decide (V.str p.kind = V.str "ROWS") = p.isRows := by
  cases p
  · exact decide_eq_false (fun z => (show ¬ (("REG" : Str) = "ROWS") by decide +kernel) (V.str.inj z))
  · exact decide_eq_false (fun z => (show ¬ (("CELL" : Str) = "ROWS") by decide +kernel) (V.str.inj z))
  · exact decide_eq_false (fun z => (show ¬ (("E" : Str) = "ROWS") by decide +kernel) (V.str.inj z))
  · exact decide_eq_true rfl
theorem estr_reg (r : Str) : estr (.reg r) = r := TL.mk_tl r
theorem prt_wd {p : Prt} (h : p.isRows = false) : p.wd = some (estr p.xp) := by
  cases p with
  | reg r => show some r = some (estr (.reg r)); rw [estr_reg]
  | cell k => rfl
  | ex e => rfl
  | rows rs => cases h
theorem prt_xp {c : Int} {deep loops : Nat} {p : Prt} (h : p.isRows = false) (ok : p.ok c deep loops) (hc : c ≤ 9) : p.xp.d = p.d ∧ EOk 6 p.xp := by
  cases p with
  | reg r => exact ⟨rfl, ok_EOk (e := .reg r) (by
      have ok : r ∈ regs4 := ok
      show r ∈ regs5
      simp only [regs4, regs5, List.mem_cons] at ok ⊢
      rcases ok with h | h | h | h | h <;> simp [h]) (Nat.zero_le _)⟩
  | cell k => exact ⟨rfl, ok_EOk (e := .num k) (by have ok : 0 ≤ k ∧ k < c := ok; show 0 ≤ k ∧ k ≤ 9; omega) (Nat.zero_le _)⟩
  | ex e => exact ⟨rfl, good_EOk ok⟩
  | rows rs => cases h
/-- the parts that are rows -/
def Prt.rw : Prt → Option (List Row)
  | .rows rs => some rs
  | _ => none
def Row.rws (r : Row) : List (List Row) := r.prts.filterMap Prt.rw
def pls : Nat → List (List Row) → List (List Str)
  | _, [] => []
  | k, p :: ps => (if k = 0 then rowsLs p else elsW :: rowsLs p) ++ pls (k + 1) ps
theorem pls_snoc : ∀ (k : Nat) (ps : List (List Row)) (p : List Row), pls k (ps ++ [p]) = pls k ps ++ (if k + ps.length = 0 then rowsLs p else elsW :: rowsLs p)
  | k, [], p => by
    show (if k = 0 then rowsLs p else elsW :: rowsLs p) ++ [] = [] ++ _
    rw [List.append_nil, List.nil_append]
    rfl
  | k, q :: ps, p => by
    show _ ++ pls (k + 1) (ps ++ [p]) = _ ++ pls (k + 1) ps ++ _
    rw [pls_snoc (k + 1) ps p, List.append_assoc, List.length_cons, show k + 1 + ps.length = k + (ps.length + 1) by omega]
theorem ls_row (r : Row) : r.ls = r.wds :: (pls 0 r.rws ++ if r.rws.length = 0 then [] else [endW]) := by
  cases r with
  | iff e a b =>
    show Row.wds (.iff e [] []) :: (rowsLs a ++ (elsW :: (rowsLs b ++ [endW]))) = Row.wds (.iff e a b) :: ((rowsLs a ++ ((elsW :: rowsLs b) ++ [])) ++ [endW])
    rw [List.append_nil, List.append_assoc]
    rfl
  | times e a =>
    show Row.wds (.times e []) :: (rowsLs a ++ [endW]) = Row.wds (.times e a) :: ((rowsLs a ++ []) ++ [endW])
    rw [List.append_nil]
    rfl
  | _ => rfl
theorem pls_split : ∀ (ps : List (List Row)) (m k : Nat), pls k ps = pls k (ps.take m) ++ pls (k + m) (ps.drop m)
  | [], m, k => by simp [pls]
  | p :: ps, 0, k => by simp [pls]
  | p :: ps, m + 1, k => by
    show _ ++ pls (k + 1) ps = (_ ++ pls (k + 1) (ps.take m)) ++ pls (k + (m + 1)) (ps.drop m)
    rw [pls_split ps m (k + 1), List.append_assoc, show k + 1 + m = k + (m + 1) by omega]
theorem rowsOk_at {c : Int} {deep loops : Nat} : ∀ {rs : List Row} {i : Nat} {r : Row}, rowsOk c deep loops rs → rs[i]? = some r → deep ≤ 12 ∧ r.ok c deep loops
  | _ :: _, 0, _, h, e => by
    cases (Option.some.inj e)
    exact ⟨h.1, h.2.1⟩
  | _ :: _, i + 1, _, h, e => rowsOk_at (i := i) h.2.2 e
theorem rws_ok {c : Int} {deep loops : Nat} {r : Row} (h : r.ok c deep loops) {p : List Row} (hp : p ∈ r.rws) : rowsOk c (deep + 1) (r.lp loops) p := by
  obtain ⟨q, hq, e⟩ := List.mem_filterMap.mp hp
  have := row_prts h q hq
  cases q with
  | rows rs => cases e; exact this
  | _ => cases e
theorem rws_two (r : Row) : r.rws.length ≤ 2 := by
  cases r <;> first | exact Nat.zero_le 2 | exact Nat.le_refl 2 | exact Nat.le_succ 1
theorem rws_len {r : Row} {p : List Row} (hp : p ∈ r.rws) : (rowsLs p).length + 1 ≤ r.ls.length := by
  cases r with
  | iff e a b =>
    have hp : p ∈ [a, b] := hp
    show _ ≤ (Row.wds (.iff e [] []) :: (rowsLs a ++ (elsW :: (rowsLs b ++ [endW])))).length
    simp only [List.length_cons, List.length_append]
    rcases List.mem_cons.mp hp with rfl | hp
    · omega
    · rw [List.mem_singleton.mp hp]
      omega
  | times e a =>
    have hp : p ∈ [a] := hp
    show _ ≤ (Row.wds (.times e []) :: (rowsLs a ++ [endW])).length
    rw [List.mem_singleton.mp hp]
    simp only [List.length_cons, List.length_append]
    omega
  | _ => exact nomatch (show p ∈ ([] : List (List Row)) from hp)
theorem line_room {ws : List Str} (h : LOk ws) : (ws.map (·.length)).sum + ws.length * (" " : Str).length ≤ 16777216 := by
  have l1 : (" " : Str).length = 1 := by decide +kernel
  have key : ∀ us : List Str, (∀ w ∈ us, WOk w) → (us.map (·.length)).sum ≤ 256 * us.length := by
    intro us
    induction us with
    | nil => exact fun _ => Nat.le_refl 0
    | cons u us ih =>
      intro hu
      have h1 := (hu u List.mem_cons_self).2
      have h2 := ih fun w hw => hu w (List.mem_cons_of_mem _ hw)
      rw [List.map_cons, List.sum_cons, List.length_cons]
      omega
  have k := key ws h.2.2
  have h5 := h.2.1
  rw [l1]
  omega
theorem prt_noL (p : Prt) : NoL p.d := by
  cases p with
  | reg r => exact .str r
  | cell k => exact .int k
  | ex e => exact e.noL
  | rows rs => exact .tup (by rw [rowsD_map]; exact rows_noL')
theorem rowsD_noL (rs : List Row) : NoL (.tuple (rowsD rs)) := .tup (by rw [rowsD_map]; exact rows_noL')
theorem dps_snocT {K : PySem.W.Frag} {H : Hp} {vs : List V} {ds : List PyData} {v : V} {d : PyData} (h : DpAll K H vs ds) (e : Dp K H v d) : DpAll K H (vs ++ [v]) (ds ++ [d]) := by
  induction vs generalizing ds with
  | nil =>
    cases h
    exact .cons e .nil
  | cons x vs ih =>
    cases h with
    | cons h1 h2 => exact .cons h1 (ih h2)
theorem lineS_els : lineS elsW = "else" := by decide +kernel
theorem lineS_end : lineS endW = "end" := by decide +kernel
namespace Tx
section
variable {P : Program} {w : World} {K : PySem.W.Frag} {mg : Str → Option Value} {base : Heap}
def spPut (K : PySem.W.Frag) : Nat → Sp
  | 0 => fun _ _ _ _ => False
  | n + 1 => fun vs H Q _ => ∃ (l : Addr) (v : V) (ls : List Str) (rs : List Row) (c : Int) (deep loops : Nat), vs = [.ref l, v] ∧ H l = some (.lst (ls.map V.str)) ∧ Dp K H v (.tuple (rowsD rs)) ∧ rowsOk c deep loops rs ∧ c ≤ 9 ∧ 14 ≤ deep + (n + 1) ∧ ls.length + (rowsLs rs).length ≤ 1000000 ∧
      ∀ H', But l H H' → H' l = some (.lst ((ls ++ (rowsLs rs).map lineS).map V.str)) → Q .non H'
theorem ca_put_lines (T : Txt w K mg) : ∀ n : Nat, Ca P w K mg base (n + 11) "put_lines" (spPut K n)
  | 0 => ca_false (ps := ["lines", "rows"]) T.f_put_lines T.g_put_lines (fun _ _ _ _ _ _ us hl => match us, hl with | [_, _], _ => rfl)
  | n + 1 => by
    have ih := ca_put_lines T n
    obtain ⟨es, nn, D⟩ := T.t_FORMS
    refine ca_of (N := ["lines", "rows", "row", "form", "kind", "part", "words", "parts", "index"]) (ps := ["lines", "rows"]) T.f_put_lines T.g_put_lines ⟨rfl, rfl, rfl, by decide +kernel, rfl, by decide +kernel, by decide +kernel⟩ (fun _ _ _ _ _ _ us hl => match us, hl with | [_, _], _ => rfl)
      (fun vs H Q E h => by obtain ⟨l, v, ls, rs, c, deep, loops, rfl, hl, hv, ok, hc, hd, len, q⟩ := h; rfl) (fun cdv A outer s H vs Q E hr h => ?_)
    have nd : (["lines", "rows", "row", "form", "kind", "part", "words", "parts", "index"] : List Str).Nodup := by decide +kernel
    obtain ⟨l, v, ls, rs, c, deep, loops, rfl, hl, hv, ok, hc, hd, len, q⟩ := h
    refine ⟨_, (pss_one (ps_for PassesOwn.never rfl (pi_tup (pv 1)) (pg_name (i := 2) nd rfl (.inl rfl)) (pss_cons (ps_set (i := 3) nd rfl (.inl rfl) (pe_ix ix_kdict (pe_gr T.g_FORMS) (pe_ix ix_tup (pv 2) pe_int (fun _ _ => rfl)) (fun _ _ => rfl)))
      (pss_cons (ps_set (i := 6) nd rfl (.inl rfl) (pe_op op_cat (pe_lst (pa_cons (pe_ix ix_tup (pv 2) pe_int (fun _ _ => rfl)) pa_nil)) (pe_lc (own := [("kind", 4), ("part", 5)]) rfl nd (RZ.pi_zipA (by rfl) T.b_zip (pa_cons (pv 3) (pa_cons (pe_slice sl_tup (pv 2) (po_some pe_int) po_none) pa_nil))) (blkOk_by (N := ["lines", "rows", "row", "form", "kind", "part", "words", "parts", "index"]) (sc := defScope s_put_lines) (by decide +kernel)) (fun _ _ _ _ _ => pg_two K 4 5 rfl rfl nd rfl rfl (.inl rfl) (.inl rfl) (.inr rfl) (.inr rfl)) (fun _ _ _ _ _ => pts_one (pt_cmpR op_ne (pv 4) pe_str (nomark _))) (fun _ _ _ _ _ => pe_ca (ca_text_of T 7) hr (pa_cons (pv 5) pa_nil) (by omega)))))
      (pss_cons (ps_expr (pe_bm PySem.F.plainAttrs_list PySem.F.slot_list_append PySem.F.type_list_append mt_append (pv 0) (pa_cons (pe_join pe_str (pv 6)) pa_nil)))
      (pss_cons (ps_setLc (i := 7) (own := [("kind", 4), ("part", 5)]) rfl nd rfl rfl (by rfl) (RZ.pi_zipA (by rfl) T.b_zip (pa_cons (pv 3) (pa_cons (pe_slice sl_tup (pv 2) (po_some pe_int) po_none) pa_nil))) (blkOk_by (N := ["lines", "rows", "row", "form", "kind", "part", "words", "parts", "index"]) (sc := defScope s_put_lines) (by decide +kernel)) (fun _ _ _ _ _ => pg_two K 4 5 rfl rfl nd rfl rfl (.inl rfl) (.inl rfl) (.inr rfl) (.inr rfl)) (fun _ _ _ _ _ => pts_one (pt_cmpR op_eq (pv 4) pe_str (nomark _))) (fun _ _ _ _ _ => pv 5))
      (pss_cons (ps_for PassesOwn.never rfl (pi_enum (by rfl) T.b_enumerate (pa_cons (pv 7) pa_nil)) (pg_two K 8 5 rfl rfl nd rfl rfl (.inl rfl) (.inl rfl) (.inr rfl) (.inr rfl)) (pss_cons (ps_if (pt_cmpR op_gt (pv 8) pe_int (nomark _)) (pss_one (ps_expr (pe_bm PySem.F.plainAttrs_list PySem.F.slot_list_append PySem.F.type_list_append mt_append (pv 0) (pa_cons pe_str pa_nil)))) pss_nil)
      (pss_one (ps_expr (pe_ca ih hr (pa_cons (pv 0) (pa_cons (pv 5) pa_nil)) (by omega))))))
      (pss_one (ps_if (pt_cmpR op_gt (pe_callB call_len_seq (by rfl) T.b_len PySem.boot_len (pa_cons (pv 7) pa_nil)) pe_int (nomark _)) (pss_one (ps_expr (pe_bm PySem.F.plainAttrs_list PySem.F.slot_list_append PySem.F.type_list_append mt_append (pv 0) (pa_cons pe_str pa_nil)))) pss_nil))))))))), ?_⟩
    obtain ⟨a, xs, rfl, ha, hxs⟩ := dp_tup hv
    have lx : xs.length = rs.length := by rw [dps_len hxs, rowsD_map, List.length_map]
    have lmap : ∀ i, i ≤ rs.length → (rowsLs (rs.take i)).length ≤ (rowsLs rs).length := fun i _ => by
      have e : rowsLs rs = rowsLs (rs.take i) ++ rowsLs (rs.drop i) := by rw [← rowsLs_app, List.take_append_drop]
      rw [e, List.length_append]
      omega
    refine ⟨_, rfl, a, rfl, ⟨_, ha⟩, for_tup (xs := xs) (fun i σ' H' => ∃ (z2 z3 z5 z6 z7 z8 : Option V), σ' = [some (.ref l), some (.ref a), z2, z3, none, z5, z6, z7, z8] ∧ But l H H' ∧ H' l = some (.lst ((ls ++ (rowsLs (rs.take i)).map lineS).map V.str))) ⟨none, none, none, none, none, none, rfl, (fun _ _ _ e => e), by rw [hl]; simp [rowsLs]⟩ (fun i σ' H' _ ⟨_, _, _, _, _, _, _, bt, _⟩ => sqT_but (.lst hl) bt ha) ?_ ?_⟩
    · rintro i x σ' H1 hx ⟨z2, z3, z5, z6, z7, z8, rfl, bt, hl1⟩
      obtain ⟨dd, edd, hdd⟩ := dps_get hxs hx
      rw [rowsD_map] at edd
      obtain ⟨r, er, rfl⟩ := get_mapA edd
      obtain ⟨hd12, rok⟩ := rowsOk_at ok er
      have hr1 := dp_but (.lst hl) bt hdd r.noL
      rw [row_d] at hr1
      obtain ⟨ra, xs', rfl, hra, hxs'⟩ := dp_tup hr1
      obtain ⟨y, ys, rfl, hy, hys⟩ : ∃ y ys, xs' = y :: ys ∧ Dp K H1 y (.str r.word) ∧ DpAll K H1 ys (r.prts.map Prt.d) := by
        cases hxs' with | cons h1 h2 => exact ⟨_, _, rfl, h1, h2⟩
      cases dp_str hy
      have lys : ys.length = r.prts.length := by rw [dps_len hys, List.length_map]
      obtain ⟨f, hf, hfs⟩ := form_at T r H1
      have hi : i < rs.length := (List.getElem?_eq_some_iff.mp er).1
      have len1 := lmap (i + 1) hi
      rw [take_more er, rowsLs_app, rowsLs_one, List.length_append] at len1
      have p4 : r.prts.length ≤ 4 := by cases r <;> simp [Row.prts]
      refine ⟨_, rfl, _, _, _, _, rfl, rfl, hra, at0, _, _, .ref f, rfl, rfl, ⟨es, nn, .ref f, D.at_, D.lit, hf, rfl⟩, ?_⟩
      -- its words
      refine ⟨_, rfl, _, _, _, _, rfl, rfl, hra, at0, (by show 1 ≤ sizeLine; decide), fun m1 n1 => ?_⟩
      have s2 := same_new (o := .lst [.str r.word]) n1
      have e2 : upd H1 m1 (.lst [.str r.word]) m1 = some (.lst [.str r.word]) := upd_same
      generalize upd H1 m1 (.lst [.str r.word]) = H2 at s2 e2 ⊢
      refine ⟨_, rfl, _, rfl, _, rfl, ra, _, rfl, same_t s2 hra, cut1_not _ _, fun p np => ?_⟩
      rw [cut1]
      have s3 : Same H2 (upd H2 p (.tup ys)) := same_new np
      have e3 : upd H2 p (.tup ys) p = some (.tup ys) := upd_same
      generalize upd H2 p (.tup ys) = H3 at s3 e3 ⊢
      have s13 := s2.trans s3
      refine ⟨f, p, _, _, rfl, .inr ⟨same_t s13 hfs, .of e3, fun W nW => ?_⟩⟩
      refine it_zipT (xs := (r.prts.map Prt.kind).map V.str) (ys := ys) (by rw [List.length_map, List.length_map, lys]) (fun i J => Same H3 J ∧ J W = some (.lst (((r.prts.take i).filterMap Prt.wd).map V.str))) ⟨same_new nW, upd_same⟩ (fun i J ⟨s, _⟩ => ⟨same_t (s13.trans s) hfs, .of (s _ _ e3)⟩) ?_ ?_
      · rintro k x y t J hx hy ⟨sJ, hW⟩ nt
        obtain ⟨kk, hk, rfl⟩ := get_mapA hx
        obtain ⟨pp, hp, rfl⟩ := get_mapA hk
        obtain ⟨d2, hd2, hyd⟩ := dps_get hys hy
        obtain ⟨pp', hp', rfl⟩ := get_mapA hd2
        rw [hp] at hp'
        cases hp'
        have okp := row_prts rok pp (List.mem_of_getElem? hp)
        have st := same_new (o := .tup [.str pp.kind, y]) nt
        refine ⟨t, _, rfl, .of upd_same, rfl, _, _, rfl, _, _, rfl, rfl, rfl, _, rfl, rfl, _, rfl, ?_⟩
        rw [prt_kind]
        have hk4 : k < r.prts.length := (List.getElem?_eq_some_iff.mp hp).1
        have nWt : W ≠ t := ne_of_none hW nt
        cases e : pp.isRows with
        | false =>
          obtain ⟨x1, x2⟩ := prt_xp e okp hc
          refine iteT ⟨_, rfl, y, pp.xp, rfl, by rw [x1]; exact dp_same (s13.trans (sJ.trans st)) hyd, x2, by decide, _, st _ _ hW, by rw [List.length_map]; have := List.length_filterMap_le Prt.wd (r.prts.take k); rw [List.length_take] at this; rw [sizeLine_eq]; omega, fun b o e' => ?_, ?_⟩
          · rw [upd_ne (ne_of_none e' nW)]
            exact st _ _ (sJ _ _ e')
          · rw [upd_same, take_more hp, List.filterMap_append, List.map_append, List.filterMap_cons, prt_wd e]
            rfl
        | true =>
          refine iteF ⟨sJ.trans st, ?_⟩
          rw [st _ _ hW, take_more hp, List.filterMap_append, List.filterMap_cons]
          cases pp with
          | rows _ => rw [show Prt.wd (.rows _) = none from rfl]; simp
          | _ => cases e
      rintro J ⟨sJ, hW⟩
      rw [List.length_map, List.length_map, List.take_length] at hW
      refine ⟨m1, W, _, _, rfl, rfl, (s3.trans sJ) _ _ e2, hW, by rw [List.length_map]; have := List.length_filterMap_le Prt.wd r.prts; rw [List.length_singleton, sizeLine_eq]; omega, fun w nw => ?_⟩
      have s4 : Same J (upd J w (.lst ([.str r.word] ++ (r.prts.filterMap Prt.wd).map V.str))) := same_new nw
      have e4 : upd J w (.lst ([.str r.word] ++ (r.prts.filterMap Prt.wd).map V.str)) w = some (.lst (r.wds.map V.str)) := upd_same
      generalize upd J w (.lst ([.str r.word] ++ (r.prts.filterMap Prt.wd).map V.str)) = H4 at s4 e4 ⊢
      have s14 := s13.trans (sJ.trans s4)
      have hl4 := s14 _ _ hl1
      have nl4 : ls.length + (rowsLs (rs.take i)).length ≤ 1000000 := by have := lmap i (Nat.le_of_lt hi); omega
      refine ⟨_, rfl, .inl ⟨rfl, _, .of hl4⟩, ⟨_, rfl⟩, _, rfl, _, w, r.wds, rfl, rfl, .inl (.of e4), line_room (lok_row hc rok), l, _, _, rfl, rfl, hl4, by rw [List.length_map, List.length_append, List.length_map, sizeLine_eq]; omega, ?_⟩
      have b5 : But l H4 (upd H4 l (.lst ((ls ++ (rowsLs (rs.take i)).map lineS).map V.str ++ [.str (Txt.join (" " : Str) r.wds)]))) := But.upd
      have hl5 : upd H4 l (.lst ((ls ++ (rowsLs (rs.take i)).map lineS).map V.str ++ [.str (Txt.join (" " : Str) r.wds)])) l = some (.lst ((ls ++ (rowsLs (rs.take i)).map lineS ++ [lineS r.wds]).map V.str)) := by
        rw [upd_same, List.map_append (l₁ := ls ++ _)]
        rfl
      generalize upd H4 l (.lst ((ls ++ (rowsLs (rs.take i)).map lineS).map V.str ++ [.str (Txt.join (" " : Str) r.wds)])) = H5 at b5 hl5 ⊢
      -- the parts that are rows
      have c4 : Ch H4 l := .lst hl4
      have hra4 := sqT_but c4 b5 (same_t s14 hra)
      have hfs4 := sqT_but c4 b5 (same_t s14 hfs)
      have hys4 := dps_but c4 b5 (dps_same s14 hys) (fun d hd' => by
        obtain ⟨q', _, rfl⟩ := List.mem_map.mp hd'
        exact prt_noL q')
      refine ⟨_, rfl, _, rfl, _, rfl, ra, _, rfl, hra4, cut1_not _ _, fun p2 np2 => ?_⟩
      rw [cut1]
      have s6 : Same H5 (upd H5 p2 (.tup ys)) := same_new np2
      have e6 : upd H5 p2 (.tup ys) p2 = some (.tup ys) := upd_same
      generalize upd H5 p2 (.tup ys) = H6 at s6 e6 ⊢
      refine ⟨f, p2, _, _, rfl, .inr ⟨same_t s6 hfs4, .of e6, fun W2 nW2 => ?_⟩⟩
      refine it_zipT (xs := (r.prts.map Prt.kind).map V.str) (ys := ys) (by rw [List.length_map, List.length_map, lys]) (fun i J => ∃ vs : List V, Same H6 J ∧ J W2 = some (.lst vs) ∧ DpAll K J vs (((r.prts.take i).filterMap Prt.rw).map fun q => .tuple (rowsD q))) ⟨[], same_new nW2, upd_same, .nil⟩ (fun i J ⟨_, s, _⟩ => ⟨same_t (s6.trans s) hfs4, .of (s _ _ e6)⟩) ?_ ?_
      · rintro k x y t J hx hy ⟨vs, sJ, hW, hvs⟩ nt
        obtain ⟨kk, hk, rfl⟩ := get_mapA hx
        obtain ⟨pp, hp, rfl⟩ := get_mapA hk
        obtain ⟨d2, hd2, hyd⟩ := dps_get hys4 hy
        obtain ⟨pp', hp', rfl⟩ := get_mapA hd2
        rw [hp] at hp'
        cases hp'
        have st := same_new (o := .tup [.str pp.kind, y]) nt
        refine ⟨t, _, rfl, .of upd_same, rfl, _, _, rfl, _, _, rfl, rfl, rfl, _, rfl, rfl, _, rfl, ?_⟩
        rw [prt_kind]
        have hk4 : k < r.prts.length := (List.getElem?_eq_some_iff.mp hp).1
        have lvs := dps_len hvs
        rw [List.length_map] at lvs
        have lv2 := List.length_filterMap_le Prt.rw (r.prts.take k)
        rw [List.length_take] at lv2
        have hW' := st _ _ hW
        cases pp with
        | rows qs =>
          refine iteT ⟨_, rfl, vs, hW', by rw [sizeLine_eq]; omega, vs ++ [y], fun b o e' => ?_, upd_same, ?_⟩
          · rw [upd_ne (ne_of_none e' nW2)]
            exact st _ _ (sJ _ _ e')
          · rw [take_more hp, List.filterMap_append, List.map_append]
            have c7 : Ch (upd J t (.tup [.str (Prt.kind (.rows qs)), y])) W2 := .lst hW'
            refine dps_snocT (dps_but c7 But.upd (dps_same st hvs) fun d hd' => ?_) (dp_but c7 But.upd (dp_same ((s6.trans sJ).trans st) hyd) (rowsD_noL qs))
            obtain ⟨q', _, rfl⟩ := List.mem_map.mp hd'
            exact rowsD_noL q'
        | _ =>
          refine iteF ⟨vs, sJ.trans st, hW', ?_⟩
          rw [take_more hp, List.filterMap_append, show ∀ z, Prt.rw z = none → List.filterMap Prt.rw [z] = [] from fun z hz => by rw [List.filterMap_cons_none hz]; rfl, List.append_nil]
          · exact dps_same st hvs
          · rfl
      rintro J2 ⟨vs, sJ2, hW2, hvs⟩
      rw [List.length_map, List.length_map, List.take_length] at hvs
      have hvs : DpAll K J2 vs (r.rws.map fun q => .tuple (rowsD q)) := hvs
      have lvs : vs.length = r.rws.length := by rw [dps_len hvs, List.length_map]
      have hlJ : J2 l = some (.lst ((ls ++ (rowsLs (rs.take i)).map lineS ++ [lineS r.wds]).map V.str)) := sJ2 _ _ (s6 _ _ hl5)
      have cJ : Ch J2 l := .lst hlJ
      have nWl : W2 ≠ l := fun z => by rw [z] at nW2; rw [s6 _ _ hl5] at nW2; cases nW2
      have r2 := rws_two r
      have lrow := ls_row r
      refine ⟨_, rfl, W2, vs, rfl, .of hW2, for_it (n := vs.length) walk_enum (fun j σ' H' => ∃ (y5 y8 : Option V), σ' = [some (.ref l), some (.ref a), some (.ref ra), some (.ref f), none, y5, some (.ref w), some (.ref W2), y8] ∧ But l J2 H' ∧ H' l = some (.lst ((ls ++ (rowsLs (rs.take i)).map lineS ++ [lineS r.wds] ++ (pls 0 (r.rws.take j)).map lineS).map V.str))) ⟨z5, z8, rfl, (fun _ _ _ e => e), by rw [hlJ]; simp [pls]⟩ (fun j σ' H' _ ⟨_, _, _, bt', _⟩ => .of (bt' _ _ nWl hW2)) ?_ ?_⟩
      · rintro j x σ' H7 H8 hj ⟨y5, y8, rfl, b7, hl7⟩ ⟨t, u1, u2, rfl, nt, rfl, eu1, eu2⟩
        cases (Option.some.inj eu1)
        obtain ⟨d2, hd2, hud⟩ := dps_get hvs eu2
        obtain ⟨qs, eqs, rfl⟩ := get_mapA hd2
        have mq := List.mem_of_getElem? eqs
        have qok := rws_ok rok mq
        have qlen := rws_len mq
        have st := same_new (o := .tup [.int (j : Nat), u2]) nt
        have hl8 := st _ _ hl7
        have hud8 := dp_same st (dp_but cJ b7 hud (rowsD_noL qs))
        have b8 : But l J2 (upd H7 t (.tup [.int (j : Nat), u2])) := b7.trans (same_but st)
        refine ⟨t, _, rfl, .of upd_same, rfl, _, _, rfl, _, _, rfl, rfl, ?_⟩
        have et : upd H7 t (.tup [.int (j : Nat), u2]) t = some (.tup [.int (j : Nat), u2]) := upd_same
        generalize upd H7 t (.tup [.int (j : Nat), u2]) = H8 at st hl8 hud8 b8 et ⊢
        have hj2 : j < r.rws.length := (List.getElem?_eq_some_iff.mp eqs).1
        have ls0 : (pls 0 (r.rws.take j)).length + (if j = 0 then 0 else 1) + (rowsLs qs).length + 1 ≤ r.ls.length := by
          have h1 : pls 0 r.rws = pls 0 (r.rws.take (j + 1)) ++ pls (0 + (j + 1)) (r.rws.drop (j + 1)) := pls_split r.rws (j + 1) 0
          rw [lrow, h1, take_more eqs, pls_snoc, List.length_take, Nat.zero_add, Nat.min_eq_left (Nat.le_of_lt hj2)]
          by_cases c0 : j = 0
          · rw [if_pos c0, if_pos c0]
            simp only [List.length_cons, List.length_append]
            omega
          · rw [if_neg c0, if_neg c0]
            simp only [List.length_cons, List.length_append]
            omega
        have put : ∀ (H9 : Hp) (us : List Str), But l J2 H9 → H9 l = some (.lst (us.map V.str)) → Dp K H9 u2 (.tuple (rowsD qs)) → us.length + (rowsLs qs).length ≤ 1000000 → ∀ Qz : Hp → Prop, (∀ H', But l J2 H' → H' l = some (.lst ((us ++ (rowsLs qs).map lineS).map V.str)) → Qz H') → spPut K n [.ref l, u2] H9 (fun _ H' => Qz H') E0 := by
          intro H9 us b9 h9 hd9 ln9 Qz k
          obtain ⟨n', rfl⟩ : ∃ n', n = n' + 1 := ⟨n - 1, by omega⟩
          exact ⟨l, u2, us, qs, c, deep + 1, r.lp loops, rfl, h9, hd9, qok, hc, by omega, ln9, fun H' bb hh => k H' (b9.trans bb) hh⟩
        have bound : ∀ us : List Str, us = ls ++ (rowsLs (rs.take i)).map lineS ++ [lineS r.wds] ++ (pls 0 (r.rws.take j)).map lineS → us.length + (if j = 0 then 0 else 1) + (rowsLs qs).length ≤ 1000000 := fun us e => by
          rw [e]
          simp only [List.length_append, List.length_map, List.length_singleton]
          omega
        generalize ecur : ls ++ (rowsLs (rs.take i)).map lineS ++ [lineS r.wds] ++ (pls 0 (r.rws.take j)).map lineS = cur at hl8 bound
        have bd := bound cur rfl
        have fin : ∀ (us : List Str), us = cur ++ (if j = 0 then [] else [lineS elsW]) → us ++ (rowsLs qs).map lineS = ls ++ (rowsLs (rs.take i)).map lineS ++ [lineS r.wds] ++ (pls 0 (r.rws.take (j + 1))).map lineS := fun us e => by
          rw [e, take_more eqs, pls_snoc, List.length_take, Nat.min_eq_left (Nat.le_of_lt hj2), Nat.zero_add, List.map_append, ← List.append_assoc, ecur]
          by_cases c0 : j = 0
          · rw [if_pos c0, if_pos c0, List.append_nil]
          · rw [if_neg c0, if_neg c0, List.append_assoc]
            rfl
        refine ⟨_, rfl, _, _, rfl, rfl, _, rfl, ?_⟩
        by_cases c0 : j = 0
        · rw [decide_eq_false (show ¬ (0 : Int) < ((j : Nat) : Int) by omega)]
          rw [if_pos c0] at bd
          refine iteF ⟨_, rfl, _, rfl, put H8 cur b8 hl8 hud8 (by omega) _ fun H' bb hh => ⟨_, _, rfl, bb, ?_⟩⟩
          rw [hh, fin cur (by rw [if_pos c0, List.append_nil])]
        · rw [decide_eq_true (show (0 : Int) < ((j : Nat) : Int) by omega)]
          rw [if_neg c0] at bd
          refine iteT ⟨_, rfl, .inl ⟨rfl, _, .of hl8⟩, l, _, _, rfl, rfl, hl8, by rw [List.length_map, sizeLine_eq]; omega, ?_⟩
          have b9 : But l H8 (upd H8 l (.lst (cur.map V.str ++ [.str "else"]))) := But.upd
          have hl9 : upd H8 l (.lst (cur.map V.str ++ [.str "else"])) l = some (.lst ((cur ++ [lineS elsW]).map V.str)) := by
            rw [upd_same, List.map_append, lineS_els]
            rfl
          have hud9 := dp_but (.lst hl8) b9 hud8 (rowsD_noL qs)
          generalize upd H8 l (.lst (cur.map V.str ++ [.str "else"])) = H9 at b9 hl9 hud9 ⊢
          refine ⟨_, rfl, _, rfl, put H9 (cur ++ [lineS elsW]) (b8.trans b9) hl9 hud9 (by rw [List.length_append, List.length_singleton]; omega) _ fun H' bb hh => ⟨_, _, rfl, bb, ?_⟩⟩
          rw [hh, fin (cur ++ [lineS elsW]) (by rw [if_neg c0])]
      · rintro σ' H7 ⟨y5, y8, rfl, b7, hl7⟩
        have hW7 := b7 _ _ nWl hW2
        have b17 : But l H1 H7 := ((same_but s14).trans b5).trans ((same_but (s6.trans sJ2)).trans b7)
        rw [lvs, List.take_length] at hl7
        have lst : (pls 0 r.rws).length + 1 ≤ r.ls.length := by
          rw [lrow]
          simp only [List.length_cons, List.length_append]
          omega
        have bound : ∀ us : List Str, us = ls ++ (rowsLs (rs.take i)).map lineS ++ [lineS r.wds] ++ (pls 0 r.rws).map lineS → us.length ≤ 1000000 := fun us e => by
          rw [e]
          simp only [List.length_append, List.length_map, List.length_singleton]
          omega
        have fin : ∀ us : List Str, us = ls ++ (rowsLs (rs.take i)).map lineS ++ [lineS r.wds] ++ (pls 0 r.rws).map lineS → us ++ (if r.rws.length = 0 then [] else [lineS endW]) = ls ++ (rowsLs (rs.take (i + 1))).map lineS := fun us e => by
          rw [e, take_more er, rowsLs_app, rowsLs_one, lrow, List.map_append, List.map_cons, List.map_append]
          by_cases c0 : r.rws.length = 0
          · rw [if_pos c0, if_pos c0]
            simp
          · rw [if_neg c0, if_neg c0]
            simp
        generalize ecur : ls ++ (rowsLs (rs.take i)).map lineS ++ [lineS r.wds] ++ (pls 0 r.rws).map lineS = cur at hl7 bound fin
        have bd := bound cur rfl
        have fin := fin cur rfl
        refine ⟨_, rfl, _, _, rfl, .inl (.of hW7), _, _, rfl, rfl, _, rfl, ?_⟩
        rw [lvs]
        by_cases c0 : r.rws.length = 0
        · rw [decide_eq_false (show ¬ (0 : Int) < ((r.rws.length : Nat) : Int) by omega)]
          refine iteF ⟨_, _, _, _, _, _, rfl, bt.trans b17, ?_⟩
          rw [hl7, ← fin, if_pos c0, List.append_nil]
        · rw [decide_eq_true (show (0 : Int) < ((r.rws.length : Nat) : Int) by omega)]
          refine iteT ⟨_, rfl, .inl ⟨rfl, _, .of hl7⟩, l, _, _, rfl, rfl, hl7, by rw [List.length_map, sizeLine_eq]; omega, ?_⟩
          refine ⟨_, _, _, _, _, _, rfl, (bt.trans b17).trans But.upd, ?_⟩
          rw [upd_same, ← fin, if_neg c0, List.map_append (l₁ := cur), lineS_end]
          rfl
    · rintro σ' H1 ⟨z2, z3, z5, z6, z7, z8, rfl, bt, hl1⟩
      rw [lx, List.take_length] at hl1
      exact q H1 bt hl1
end
end Tx

end M

set_option Elab.async false
set_option linter.all false
set_option maxRecDepth 100000
set_option maxHeartbeats 2000000
namespace M
open PySem PySem.Spec PyProof.Rows L2

theorem log_of {i : Int} (h : 0 ≤ i ∧ i ≤ 9) : i.natAbs.log2 < 1920 := dig_log h
theorem cell_str (a b : Int) : Str.empty ++ ("cell " : Str) ++ dg a ++ (" " : Str) ++ dg b = lineS ["cell", dg a, dg b] := by
  unfold lineS
  refine TL.ext_tl ?_
  rw [TL.join_eq, TL.tl_join]
  simp only [TL.tl_append, tl_dg, tl_sp, List.map_cons, List.map_nil, TL.joinL, show TL.tl Str.empty = [] from rfl, show TL.tl ("cell " : Str) = [99, 101, 108, 108, 32] by decide +kernel, show TL.tl ("cell" : Str) = [99, 101, 108, 108] by decide +kernel]
  simp
theorem deed_str (s : Str) (b : Int) : Str.empty ++ ("deed " : Str) ++ s ++ (" " : Str) ++ dg b = lineS ["deed", s, dg b] := by
  unfold lineS
  refine TL.ext_tl ?_
  rw [TL.join_eq, TL.tl_join]
  simp only [TL.tl_append, tl_dg, tl_sp, List.map_cons, List.map_nil, TL.joinL, show TL.tl Str.empty = [] from rfl, show TL.tl ("deed " : Str) = [100, 101, 101, 100, 32] by decide +kernel, show TL.tl ("deed" : Str) = [100, 101, 101, 100] by decide +kernel]
  simp
theorem len_empty : Str.empty.length = 0 := rfl
theorem len5 : ("cell " : Str).length = 5 ∧ ("deed " : Str).length = 5 ∧ (" " : Str).length = 1 := by decide +kernel
theorem text_room {v : Vlt} (g : VGood v) : (((vaultLs v).map lineS).map (·.length)).sum + ((vaultLs v).map lineS).length * ("\n" : Str).length ≤ 16777216 := by
  have l1 : ("\n" : Str).length = 1 := by decide +kernel
  have k := vault_ch g
  have key : ∀ ls : List (List Str), (∀ ws ∈ ls, LOk ws) → (((ls).map lineS).map (·.length)).sum + ls.length = chL ls := by
    intro ls
    induction ls with
    | nil => exact fun _ => rfl
    | cons l ls ih =>
      intro h
      have h1 := line_len (h l List.mem_cons_self).1
      have h2 := ih fun w hw => h w (List.mem_cons_of_mem _ hw)
      rw [chL_cons, List.map_cons, List.map_cons, List.sum_cons, List.length_cons]
      omega
  rw [l1, List.length_map, Nat.mul_one, key _ (vault_lok g)]
  omega
theorem ls_le_ch : ∀ {ls : List (List Str)}, (∀ ws ∈ ls, LOk ws) → ls.length ≤ chL ls
  | [], _ => Nat.le_refl 0
  | l :: ls, h => by
    have h1 := line_len (h l List.mem_cons_self).1
    have h2 := ls_le_ch fun w hw => h w (List.mem_cons_of_mem _ hw)
    rw [chL_cons, List.length_cons]
    omega
theorem vault_few {v : Vlt} (g : VGood v) : (vaultLs v).length ≤ 50000 := by
  have h1 : (v.deeds.flatMap deedLs).length ≤ 6001 * v.deeds.length := by
    have : ∀ l : List (Str × Int × List Row), (∀ d ∈ l, DeedOk v.cells.length d) → (l.flatMap deedLs).length ≤ 6001 * l.length := by
      intro l
      induction l with
      | nil => exact fun _ => Nat.le_refl 0
      | cons d r ih =>
        intro h
        have ok := h d List.mem_cons_self
        have i2 := ih fun x hx => h x (List.mem_cons_of_mem _ hx)
        have r1 := lens_ls d.2.2
        have cl := ok.2.2.2.2
        rw [List.flatMap_cons, List.length_append, List.length_cons]
        have : (deedLs d).length = (rowsLs d.2.2).length + 1 := rfl
        omega
    exact this _ g.ds
  have a1 := g.c1
  have a2 := g.d1
  unfold vaultLs
  rw [List.length_append, List.length_map]
  omega
namespace Tx
section
variable {P : Program} {w : World} {K : PySem.W.Frag} {mg : Str → Option Value} {base : Heap}
def spVText (K : PySem.W.Frag) : Sp := fun vs H Q _ => ∃ (p : Addr) (v : Vlt), vs = [.ref p] ∧ VaultAt K H p v ∧ VGood v ∧ ∀ H', Same H H' → Q (.str (vaultS v)) H'
theorem ca_vault_text (T : Txt w K mg) : Ca P w K mg base 26 "vault_text" (spVText K) := by
  refine ca_of (N := ["vault", "cells", "deeds", "size", "first", "lines", "name", "choices", "body"]) (ps := ["vault"]) T.f_vault_text T.g_vault_text ⟨rfl, rfl, rfl, by decide +kernel, rfl, by decide +kernel, by decide +kernel⟩ (fun _ _ _ _ _ _ us hl => match us, hl with | [_], _ => rfl)
    (fun vs H Q E h => by obtain ⟨p, v, rfl, hv, g, q⟩ := h; rfl) (fun cdv A outer s H vs Q E hr h => ?_)
  have nd : (["vault", "cells", "deeds", "size", "first", "lines", "name", "choices", "body"] : List Str).Nodup := by decide +kernel
  obtain ⟨p, v, rfl, hv, g, q⟩ := h
  refine ⟨_, (pss_cons (ps_asg (pe_me0 (me_Vault_shape T) hr (pv 0)) (pg_two K 1 2 rfl rfl nd rfl rfl (.inl rfl) (.inl rfl) (.inr rfl) (.inr rfl)))
      (pss_cons (ps_setLc (i := 5) (own := [("size", 3), ("first", 4)]) (tt := tYes) rfl nd rfl rfl (by rfl) (pi_tup (pv 1)) (blkOk_by (N := ["vault", "cells", "deeds", "size", "first", "lines", "name", "choices", "body"]) (sc := defScope s_vault_text) (by decide +kernel)) (fun _ _ _ _ _ => pg_two K 3 4 rfl rfl nd rfl rfl (.inl rfl) (.inl rfl) (.inr rfl) (.inr rfl)) (fun _ _ _ _ _ => pts_nil) (fun _ _ _ _ _ => pe_joined (PJ.cons pe_str (PJ.cons (pe_fmt (pv 3)) (PJ.cons pe_str (PJ.cons (pe_fmt (pv 4)) PJ.nil))))))
      (pss_cons (ps_for PassesOwn.never rfl (pi_tup (pv 2)) (pg_three K 6 7 8 rfl rfl nd rfl rfl rfl (.inl rfl) (.inl rfl) (.inl rfl) (.inr rfl) (.inr rfl) (.inr rfl)) (pss_cons (ps_expr (pe_bm PySem.F.plainAttrs_list PySem.F.slot_list_append PySem.F.type_list_append mt_append (pv 5) (pa_cons (pe_joined (PJ.cons pe_str (PJ.cons (pe_fmt (pv 6)) (PJ.cons pe_str (PJ.cons (pe_fmt (pv 7)) PJ.nil))))) pa_nil)))
      (pss_one (ps_expr (pe_ca (Tx.ca_put_lines T 13) hr (pa_cons (pv 5) (pa_cons (pv 8) pa_nil)))))))
      (pss_one (ps_ret (pe_join pe_str (pv 5))))))), ?_⟩
  obtain ⟨dx, fs, e1, e2⟩ := vat_me hv "shape"
  refine ⟨_, rfl, p, dx, fs, rfl, e1, e2, p, v, rfl, hv, fun t xc xd H1 s1 ht hc hd => ?_⟩
  obtain ⟨ca, cxs, rfl, hca, hcxs⟩ := dp_tup hc
  obtain ⟨da, dxs, rfl, hda, hdxs⟩ := dp_tup hd
  have lc : cxs.length = v.cells.length := by rw [dps_len hcxs, List.length_map]
  have ld : dxs.length = v.deeds.length := by rw [dps_len hdxs, List.length_map]
  obtain ⟨l5, l5', l1⟩ := len5
  refine ⟨t, _, rfl, .of ht, rfl, _, _, rfl, _, _, rfl, rfl, ?_⟩
  refine ⟨_, rfl, ca, rfl, ⟨_, hca⟩, fun L nL => ?_⟩
  refine it_any (n := cxs.length) walk_tup (fun i J => Same H1 J ∧ J L = some (.lst (((v.cells.take i).map fun c => lineS (cellW c)).map V.str))) ⟨same_new nL, upd_same⟩ (fun i J _ ⟨s, _⟩ => same_t s hca) ?_ ?_
  · rintro i x J0 J hi ⟨sJ, hL⟩ ⟨rfl, ex⟩
    obtain ⟨d0, ed, hdd⟩ := dps_get hcxs ex
    obtain ⟨c, ec, rfl⟩ := get_mapA ed
    obtain ⟨tc, x1, x2, rfl, htc, f1, f2⟩ := dp2 (dp_same sJ hdd)
    cases dp_int f1
    cases dp_int f2
    have ok := g.cs c (List.mem_of_getElem? ec)
    unfold CellOk at ok
    have hi2 : i < v.cells.length := (List.getElem?_eq_some_iff.mp ec).1
    have c6 := g.c1
    refine ⟨tc, _, rfl, htc, rfl, _, _, rfl, _, _, rfl, rfl, rfl, ?_⟩
    have d1 := dig_str (i := c.1) ⟨by omega, by omega⟩
    have d2 := dig_str (i := c.2) ⟨by omega, by omega⟩
    refine ⟨_, rfl, by rw [sizeLine_eq]; simp only [len_app, l5, len_empty]; decide, _, rfl, .inr ⟨_, rfl, log_of ⟨by omega, by omega⟩, _, rfl, by rw [sizeLine_eq]; erw [d1]; simp only [len_app, l5, len_empty, len_dg]; decide, _, rfl, by rw [sizeLine_eq]; erw [d1]; simp only [len_app, l5, l1, len_empty, len_dg]; decide, _, rfl, .inr ⟨_, rfl, log_of ⟨by omega, by omega⟩, _, rfl, by rw [sizeLine_eq]; erw [d1, d2]; simp only [len_app, l5, l1, len_empty, len_dg]; decide, _, hL, by rw [List.length_map, List.length_map, List.length_take, sizeLine_eq]; omega, fun b o e => ?_, ?_⟩⟩⟩
    · rw [upd_ne (ne_of_none e nL)]
      exact sJ _ _ e
    · rw [upd_same, take_more ec, List.map_append, List.map_append]
      have es : Str.empty ++ ("cell " : Str) ++ Str.ofString (toString c.1) ++ (" " : Str) ++ Str.ofString (toString c.2) = lineS (cellW c) := by
        rw [d1, d2, cell_str]
        rfl
      rw [es]
      rfl
  rintro J ⟨sJ, hL⟩
  rw [lc, List.take_length] at hL
  have hda1 := same_t sJ hda
  have hdx1 := dps_same sJ hdxs
  have few := vault_few g
  have split : ∀ i, i ≤ v.deeds.length → (v.cells.map cellW ++ (v.deeds.take i).flatMap deedLs).length ≤ (vaultLs v).length := fun i _ => by
    have e : v.deeds.flatMap deedLs = (v.deeds.take i).flatMap deedLs ++ (v.deeds.drop i).flatMap deedLs := by rw [← List.flatMap_append, List.take_append_drop]
    unfold vaultLs
    rw [e]
    simp only [List.length_append]
    omega
  refine ⟨_, rfl, da, rfl, ⟨_, hda1⟩, for_tup (xs := dxs) (fun i σ' H' => ∃ (z6 z7 z8 : Option V), σ' = [some (.ref p), some (.ref ca), some (.ref da), none, none, some (.ref L), z6, z7, z8] ∧ But L J H' ∧ H' L = some (.lst (((v.cells.map cellW ++ (v.deeds.take i).flatMap deedLs).map lineS).map V.str))) ⟨none, none, none, rfl, (fun _ _ _ e => e), by rw [hL]; simp⟩ (fun i σ' H' _ ⟨_, _, _, _, bt, _⟩ => sqT_but (.lst hL) bt hda1) ?_ ?_⟩
  · rintro i x σ' H2 hx ⟨z6, z7, z8, rfl, bt, hL2⟩
    obtain ⟨d0, ed, hdd⟩ := dps_get hdx1 hx
    obtain ⟨d, ec, rfl⟩ := get_mapA ed
    obtain ⟨td, x1, x2, x3, rfl, htd, f1, f2, f3⟩ := dp3 (dp_but (.lst hL) bt hdd (deed_noL d))
    cases dp_str f1
    cases dp_int f2
    have ok := g.ds d (List.mem_of_getElem? ec)
    have c9 := ok.2.1
    have n8 := ok.1.2.1
    have hi2 : i < v.deeds.length := (List.getElem?_eq_some_iff.mp ec).1
    have sp := split (i + 1) hi2
    rw [take_more ec, List.flatMap_append, ← List.append_assoc, List.length_append, show [d].flatMap deedLs = deedLs d by simp, show (deedLs d).length = (rowsLs d.2.2).length + 1 from rfl] at sp
    have d2 := dig_str (i := d.2.1) ⟨by omega, by omega⟩
    refine ⟨td, _, rfl, htd, rfl, _, _, rfl, _, _, rfl, _, _, rfl, rfl, ?_⟩
    refine ⟨_, rfl, .inl ⟨rfl, _, .of hL2⟩, _, rfl, by rw [sizeLine_eq]; simp only [len_app, l5', len_empty]; decide, _, rfl, .inl ⟨_, rfl, by rw [sizeLine_eq]; omega, _, rfl, by rw [sizeLine_eq]; simp only [len_app, l5', len_empty]; omega, _, rfl, by rw [sizeLine_eq]; simp only [len_app, l5', l1, len_empty]; omega, _, rfl, .inr ⟨_, rfl, log_of ⟨by omega, by omega⟩, _, rfl, by rw [sizeLine_eq]; erw [d2]; simp only [len_app, l5', l1, len_empty, len_dg]; omega, L, _, _, rfl, rfl, hL2, by rw [List.length_map, List.length_map, sizeLine_eq]; omega, ?_⟩⟩⟩
    have es : Str.empty ++ ("deed " : Str) ++ d.1 ++ (" " : Str) ++ Str.ofString (toString d.2.1) = lineS (deedW d) := by
      rw [d2, deed_str]
      rfl
    have bt3 : But L H2 (upd H2 L (.lst (((v.cells.map cellW ++ (v.deeds.take i).flatMap deedLs).map lineS).map V.str ++ [.str (lineS (deedW d))]))) := But.upd
    have hL3 : upd H2 L (.lst (((v.cells.map cellW ++ (v.deeds.take i).flatMap deedLs).map lineS).map V.str ++ [.str (lineS (deedW d))])) L = some (.lst (((v.cells.map cellW ++ (v.deeds.take i).flatMap deedLs).map lineS ++ [lineS (deedW d)]).map V.str)) := by
      rw [upd_same, List.map_append (l₁ := List.map lineS _)]
      rfl
    have hb3 := dp_but (.lst hL2) bt3 f3 (rowsD_noL d.2.2)
    erw [es]
    generalize upd H2 L (.lst (((v.cells.map cellW ++ (v.deeds.take i).flatMap deedLs).map lineS).map V.str ++ [.str (lineS (deedW d))])) = H3 at bt3 hL3 hb3 ⊢
    refine ⟨_, rfl, _, rfl, L, x3, _, d.2.2, (v.cells.length : Nat), 1, 0, rfl, hL3, hb3, ok.2.2.1, by have := g.c1; omega, by decide, by rw [List.length_append, List.length_map, List.length_singleton]; omega, fun H4 b4 h4 => ⟨_, _, _, rfl, (bt.trans bt3).trans b4, ?_⟩⟩
    rw [h4, take_more ec, List.flatMap_append, show [d].flatMap deedLs = deedLs d by simp]
    show some (HO.lst _) = some (HO.lst (((v.cells.map cellW ++ ((v.deeds.take i).flatMap deedLs ++ (deedW d :: rowsLs d.2.2))).map lineS).map V.str))
    simp
  · rintro σ' H2 ⟨z6, z7, z8, rfl, bt, hL2⟩
    rw [ld, List.take_length] at hL2
    have room := text_room g
    have s12 : Same H1 H2 := fun b o e => bt _ _ (ne_of_none e nL) (sJ _ _ e)
    exact ⟨⟨_, rfl⟩, _, rfl, _, L, (vaultLs v).map lineS, rfl, rfl, .inl (.of hL2), room, q H2 (s1.trans s12)⟩
end
end Tx

end M

set_option Elab.async false
set_option linter.all false
set_option maxRecDepth 100000
set_option maxHeartbeats 2000000
namespace M
open PySem PySem.Spec PyProof.Rows L2

/-! ### min(xs), xs a list of two ints -/
section
variable {prog : Program} {w : World} {A : Around} {E : Value → Shared → Prop} {s : Shared} {l : Addr}
theorem minL2_num {Q : Value → Shared → Prop} {a b : Value} (hh : A.handled = none) (hl : s.heap.IsList l #[a, b]) (ha : Flt.NumV a) (hb : Flt.NumV b)
    (h : ∀ h' tk, (∀ d o, s.heap.get? d = some o → h'.get? d = some o) → Q (if Flt.ltV b a = true then b else a) { s with heap := h', toks := tk }) :
    wpAny (model prog w) A (call (.builtin "min") [.ref l]) Q E s := by
  refine call_min_walk (iter_anyList hl fun s₂ e st hfp hlI => ?_)
  subst e
  refine ⟨_, _, _, _, _, _, _, rfl, Walks.list (A := A.in1) hh _ l hlI #[a, b], st, hfp, by simp, Flt.cmpOf_lt #[a, b] (by simp [ha, hb]), fun v h' tk hP hk => ?_⟩
  have := h h' tk (PySem.old_kept hk)
  have hv : (if Flt.ltV b a = true then b else a) = v := by
    cases h1 : Flt.ltV b a <;> simp [argBest, h1] at hP <;> simp <;> exact hP
  rw [hv] at this
  exact this
end
section
variable {X : Cx}
def rMinL2 (K : PySem.W.Frag) : List V → Hp → VK → Prop := fun vs H Q => ∃ (p : Addr) (i j : Int), vs = [.ref p] ∧ SqL K H p [.int i, .int j] ∧ Q (.int (if j < i then j else i)) H
theorem call_minL2 (hc : X.calm = true) : CallR X (.builtin "min") (rMinL2 X.K) := by
  intro pins s σ H vs us Q I r h
  obtain ⟨p, i, j, rfl, hs, q⟩ := h
  obtain ⟨its, rv, hl, _⟩ := I.list hs
  rw [Vals.ref1 r]
  obtain ⟨u1, u2, rfl, r1, r2⟩ := vals2 rv
  obtain ⟨n2, n1, hl1⟩ := lt_nu r2 r1 rfl
  refine minL2_num (I.ok.hd hc) hl.isList n1 n2 fun h' tk k => ⟨_, H, I.kept k, ?_, q⟩
  rw [hl1]
  by_cases c : j < i
  · rw [if_pos c, if_pos (by simpa using c)]
    exact r2
  · rw [if_neg c, if_neg (by simpa using c)]
    exact r1
end

end M

set_option Elab.async false
set_option linter.all false
set_option maxRecDepth 100000
set_option maxHeartbeats 2000000
namespace M
open PySem PySem.Spec PyProof.Rows L2

/-! ### what stays but for some places -/
def BtS (S : List Addr) (H H' : Hp) : Prop := ∀ b o, b ∉ S → H b = some o → H' b = some o
section
variable {S S2 : List Addr} {K : PySem.W.Frag} {H H' H2 : Hp}
theorem BtS.refl (S : List Addr) (H : Hp) : BtS S H H := fun _ _ _ e => e
theorem BtS.trans (h : BtS S H H') (k : BtS S H' H2) : BtS S H H2 := fun b o n e => k b o n (h b o n e)
theorem BtS.mono (h : BtS S H H') (i : ∀ x ∈ S, x ∈ S2) : BtS S2 H H' := fun b o n e => h b o (fun z => n (i b z)) e
theorem BtS.same (s : Same H H') : BtS S H H' := fun b o _ e => s b o e
theorem BtS.but {D : Addr} (s : But D H H') (h : D ∈ S) : BtS S H H' := fun b o n e => s b o (fun z => n (z ▸ h)) e
theorem sqT_bts (c : ∀ D ∈ S, Ch H D) (s : BtS S H H') {a : Addr} {xs : List V} (h : SqT K H a xs) : SqT K H' a xs := by
  rcases h with (h | ⟨o, h⟩) | h
  · exact .inl (.inl (s _ _ (fun e => (c a e).1 _ h) h))
  · exact .inl (.inr ⟨o, s _ _ (fun e => (c a e).2 _ _ h) h⟩)
  · exact .inr h
mutual
theorem dp_bts (c : ∀ D ∈ S, Ch H D) (s : BtS S H H') : ∀ {v : V} {d : PyData}, Dp K H v d → NoL d → Dp K H' v d
  | _, _, .non, _ => .non
  | _, _, .bl b, _ => .bl b
  | _, _, .int i, _ => .int i
  | _, _, .str x, _ => .str x
  | _, _, .lst _ _, n => nomatch n
  | _, _, .tup h r, n => .tup (sqT_bts c s h) (dps_bts c s r (by cases n with | tup h => exact h))
theorem dps_bts (c : ∀ D ∈ S, Ch H D) (s : BtS S H H') : ∀ {vs : List V} {ds : List PyData}, DpAll K H vs ds → (∀ d ∈ ds, NoL d) → DpAll K H' vs ds
  | _, _, .nil, _ => .nil
  | _, _, .cons h r, n => .cons (dp_bts c s h (n _ List.mem_cons_self)) (dps_bts c s r fun d hd => n d (List.mem_cons_of_mem _ hd))
end
end
/-! ### blocks -/
def bfl (h : V) (n : Int) (oa la : Addr) : List (Str × V) := [("head", h), ("parts", .int n), ("over", .ref oa), ("listed", .ref la)]
theorem bf_head (h : V) (n : Int) (oa la : Addr) : (bfl h n oa la).lookup ("head" : Str) = some h := by kernel_rfl
theorem bf_parts (h : V) (n : Int) (oa la : Addr) : (bfl h n oa la).lookup ("parts" : Str) = some (.int n) := by kernel_rfl
theorem bf_over (h : V) (n : Int) (oa la : Addr) : (bfl h n oa la).lookup ("over" : Str) = some (.ref oa) := by kernel_rfl
theorem bf_listed (h : V) (n : Int) (oa la : Addr) : (bfl h n oa la).lookup ("listed" : Str) = some (.ref la) := by kernel_rfl
theorem bf_no (h : V) (n : Int) (oa la : Addr) : (bfl h n oa la).lookup ("left" : Str) = none ∧ (bfl h n oa la).lookup ("turn" : Str) = none ∧ (bfl h n oa la).lookup ("whole" : Str) = none := ⟨by kernel_rfl, by kernel_rfl, by kernel_rfl⟩
theorem bf_put (h : V) (n : Int) (oa la la' : Addr) : putF "listed" (.ref la') (bfl h n oa la) = bfl h n oa la' := by kernel_rfl
theorem bf_new (h : V) (n : Int) (oa la : Addr) : putF "listed" (.ref la) (putF "over" (.ref oa) (putF "parts" (.int n) (putF "head" h []))) = bfl h n oa la := by kernel_rfl
/-- where a block stands -/
structure BA where
  b : Addr
  dx : Addr
  oa : Addr
  la : Addr
  h : V
def BA.own (A : BA) : List Addr := [A.b, A.oa, A.la]
structure BlkAt (K : PySem.W.Frag) (H : Hp) (A : BA) (x : Blk) : Prop where
  ins : H A.b = some (.ins (He.ga K "Block") A.dx (bfl A.h (x.parts : Nat) A.oa A.la))
  hd : Dp K H A.h (.tuple x.head)
  ov : ∃ vs, H A.oa = some (.lst vs) ∧ DpAll K H vs x.over
  li : ∃ vs, H A.la = some (.lst vs) ∧ DpAll K H vs x.listed
  nh : NoL (.tuple x.head)
  no : ∀ d ∈ x.over, NoL d
  nl : ∀ d ∈ x.listed, NoL d
  f1 : x.over.length ≤ 100000
  f2 : x.listed.length ≤ 100000
section
variable {K : PySem.W.Frag} {H H' : Hp} {A : BA} {x : Blk}
theorem BlkAt.ch (h : BlkAt K H A x) : ∀ D ∈ A.own, Ch H D := fun D hD => by
  obtain ⟨vs, o1, _⟩ := h.ov
  obtain ⟨us, l1, _⟩ := h.li
  simp only [BA.own, List.mem_cons, List.not_mem_nil, or_false] at hD
  rcases hD with rfl | rfl | rfl
  · exact .ins h.ins
  · exact .lst o1
  · exact .lst l1
theorem BlkAt.is (h : BlkAt K H A x) : ∀ D ∈ A.own, ∃ o, H D = some o := fun D hD => by
  obtain ⟨vs, o1, _⟩ := h.ov
  obtain ⟨us, l1, _⟩ := h.li
  simp only [BA.own, List.mem_cons, List.not_mem_nil, or_false] at hD
  rcases hD with rfl | rfl | rfl
  · exact ⟨_, h.ins⟩
  · exact ⟨_, o1⟩
  · exact ⟨_, l1⟩
theorem BlkAt.bts {S : List Addr} (h : BlkAt K H A x) (c : ∀ D ∈ S, Ch H D) (s : BtS S H H') (n : ∀ a ∈ A.own, a ∉ S) : BlkAt K H' A x := by
  obtain ⟨vs, o1, o2⟩ := h.ov
  obtain ⟨us, l1, l2⟩ := h.li
  exact ⟨s _ _ (n _ (by simp [BA.own])) h.ins, dp_bts c s h.hd h.nh, ⟨vs, s _ _ (n _ (by simp [BA.own])) o1, dps_bts c s o2 h.no⟩, ⟨us, s _ _ (n _ (by simp [BA.own])) l1, dps_bts c s l2 h.nl⟩, h.nh, h.no, h.nl, h.f1, h.f2⟩
theorem BlkAt.same (h : BlkAt K H A x) (s : Same H H') : BlkAt K H' A x := h.bts (S := []) (fun _ z => nomatch z) (BtS.same s) (fun _ _ z => nomatch z)
end
namespace Tx
section
variable {P : Program} {w : World} {K : PySem.W.Frag} {mg : Str → Option Value} {base : Heap}
def spBlock (K : PySem.W.Frag) : Sp := fun vs H Q _ => ∃ (p dx : Addr) (h : V) (hd : List PyData) (n : Nat), vs = [.ref p, h, .int (n : Int)] ∧ H p = some (.ins (He.ga K "Block") dx []) ∧ Dp K H h (.tuple hd) ∧ NoL (.tuple hd) ∧ ∀ (A : BA) (H' : Hp), A.b = p → But p H H' → BlkAt K H' A ⟨hd, n, [], []⟩ → A.own.Nodup → H A.oa = none → H A.la = none → Q .non H'
theorem ma_Block (T : Txt w K mg) : Ma P w K mg base 1 "Block" (He.ga K "Block") (spBlock K) := by
  refine ma_of (N := ["self", "head", "parts"]) (ps := ["self", "head", "parts"]) T.f_Block_init T.g_Block T.k_Block ⟨rfl, rfl, rfl, by decide +kernel, rfl, by decide +kernel, by decide +kernel⟩ (fun _ _ _ _ _ _ us hl => match us, hl with | [_, _, _], _ => rfl)
    (fun vs H Q E h => by obtain ⟨p, dx, h, hd, n, rfl, hp, hh, nh, q⟩ := h; rfl) (fun cdv A outer s H vs Q E hr h => ?_)
  have nd : (["self", "head", "parts"] : List Str).Nodup := by decide +kernel
  obtain ⟨p, dx, h, hd, n, rfl, hp, hh, nh, q⟩ := h
  refine ⟨_, (pss_cons (ps_fld (pv 0) (pv 1) rfl)
      (pss_cons (ps_fld (pv 0) (pv 2) rfl)
      (pss_cons (ps_fld (pv 0) (pe_lst pa_nil) rfl)
      (pss_one (ps_fld (pv 0) (pe_lst pa_nil) rfl))))), ?_⟩
  refine ⟨_, rfl, _, rfl, p, _, dx, _, rfl, hp, T.c_Block, T.n_Block_head, (by show 0 < 1000; decide), ?_⟩
  have b1 : But p H (upd H p (.ins (He.ga K "Block") dx (putF "head" h []))) := But.upd
  have e1 : upd H p (.ins (He.ga K "Block") dx (putF "head" h [])) p = some (.ins (He.ga K "Block") dx (putF "head" h [])) := upd_same
  generalize upd H p (.ins (He.ga K "Block") dx (putF "head" h [])) = H1 at b1 e1 ⊢
  refine ⟨_, rfl, _, rfl, p, _, dx, _, rfl, e1, T.c_Block, T.n_Block_parts, (by show 1 < 1000; decide), ?_⟩
  have b2 : But p H1 (upd H1 p (.ins (He.ga K "Block") dx (putF "parts" (.int n) (putF "head" h [])))) := But.upd
  have e2 : upd H1 p (.ins (He.ga K "Block") dx (putF "parts" (.int n) (putF "head" h []))) p = some (.ins (He.ga K "Block") dx (putF "parts" (.int n) (putF "head" h []))) := upd_same
  generalize upd H1 p (.ins (He.ga K "Block") dx (putF "parts" (.int n) (putF "head" h []))) = H2 at b2 e2 ⊢
  have ch : Ch H p := .ins hp
  have b02 := b1.trans b2
  refine ⟨(by show 0 ≤ sizeLine; exact Nat.zero_le _), fun oa no => ?_⟩
  have s3 := same_new (o := .lst []) no
  have e3 : upd H2 oa (.lst []) oa = some (.lst []) := upd_same
  generalize upd H2 oa (.lst []) = H3 at s3 e3 ⊢
  refine ⟨_, rfl, p, _, dx, _, rfl, s3 _ _ e2, T.c_Block, T.n_Block_over, (by show 2 < 1000; decide), ?_⟩
  have b4 : But p H3 (upd H3 p (.ins (He.ga K "Block") dx (putF "over" (.ref oa) (putF "parts" (.int n) (putF "head" h []))))) := But.upd
  have e4 : upd H3 p (.ins (He.ga K "Block") dx (putF "over" (.ref oa) (putF "parts" (.int n) (putF "head" h [])))) p = some (.ins (He.ga K "Block") dx (putF "over" (.ref oa) (putF "parts" (.int n) (putF "head" h [])))) := upd_same
  generalize upd H3 p (.ins (He.ga K "Block") dx (putF "over" (.ref oa) (putF "parts" (.int n) (putF "head" h [])))) = H4 at b4 e4 ⊢
  refine ⟨(by show 0 ≤ sizeLine; exact Nat.zero_le _), fun la nl => ?_⟩
  have s5 := same_new (o := .lst []) nl
  have e5 : upd H4 la (.lst []) la = some (.lst []) := upd_same
  generalize upd H4 la (.lst []) = H5 at s5 e5 ⊢
  refine ⟨_, rfl, p, _, dx, _, rfl, s5 _ _ e4, T.c_Block, T.n_Block_listed, (by show 3 < 1000; decide), ?_⟩
  rw [bf_new]
  have nop : oa ≠ p := fun z => by rw [z, e2] at no; cases no
  have nlp : la ≠ p := fun z => by rw [z, e4] at nl; cases nl
  have e34 : H4 oa = some (.lst []) := b4 _ _ nop e3
  have nla : oa ≠ la := ne_of_none e34 nl
  have b25 : But p H2 H5 := ((same_but s3).trans b4).trans (same_but s5)
  have b05 := b02.trans b25
  have nH : ∀ {z : Addr} {J : Hp}, But p H J → z ≠ p → J z = none → H z = none := fun {z J} bb nz e => by
    cases ez : H z with
    | none => rfl
    | some o => rw [bb _ _ nz ez] at e; cases e
  refine q ⟨p, dx, oa, la, h⟩ _ rfl (b05.trans But.upd) ⟨upd_same, dp_but ch (b05.trans But.upd) hh nh, ⟨[], (by rw [upd_ne nop]; exact s5 _ _ e34), .nil⟩, ⟨[], (by rw [upd_ne nlp]; exact e5), .nil⟩, nh, (fun _ z => nomatch z), (fun _ z => nomatch z), Nat.zero_le _, Nat.zero_le _⟩ ?_ (nH b02 nop no) (nH ((b02.trans (same_but s3)).trans b4) nlp nl)
  show [p, oa, la].Nodup
  simp [Ne.symm nop, Ne.symm nlp, nla]
def spLeft (K : PySem.W.Frag) : Sp := fun vs H Q _ => ∃ (A : BA) (x : Blk), vs = [.ref A.b] ∧ BlkAt K H A x ∧ Q (.int ((x.parts : Nat) - (x.over.length : Nat) : Int)) H
theorem me_Block_left (T : Txt w K mg) : Me P w K mg base 1 (He.ga K "Block") "left" (spLeft K) := by
  refine me_of (N := ["self"]) (ps := ["self"]) T.f_Block_left T.c_Block T.m_Block_left ⟨rfl, rfl, rfl, by decide +kernel, rfl, by decide +kernel, by decide +kernel⟩ (fun _ _ _ _ _ _ us hl => match us, hl with | [_], _ => rfl)
    (fun vs H Q E h => by obtain ⟨A, x, rfl, ha, q⟩ := h; rfl) (fun cdv A outer s H vs Q E hr h => ?_)
  have nd : (["self"] : List Str).Nodup := by decide +kernel
  obtain ⟨A, x, rfl, ha, q⟩ := h
  refine ⟨_, (pss_one (ps_ret (pe_op op_sub (pe_fld (pv 0) rfl) (pe_callB call_len_seq (by rfl) T.b_len PySem.boot_len (pa_cons (pe_fld (pv 0) rfl) pa_nil))))), ?_⟩
  obtain ⟨vs, o1, o2⟩ := ha.ov
  rw [← dps_len o2] at q
  exact ⟨_, rfl, A.b, _, A.dx, _, _, rfl, ha.ins, T.c_Block, T.n_Block_parts, bf_parts .., _, rfl, A.b, _, A.dx, _, _, rfl, ha.ins, T.c_Block, T.n_Block_over, bf_over .., _, _, rfl, .inl (.of o1), _, _, rfl, rfl, q⟩
def spTurn (K : PySem.W.Frag) : Sp := fun vs H Q _ => ∃ (A : BA) (x : Blk), vs = [.ref A.b] ∧ BlkAt K H A x ∧ A.own.Nodup ∧ x.over.length ≤ 99999 ∧ ∀ (la : Addr) (H' : Hp), H la = none → BtS A.own H H' → BlkAt K H' { A with la := la } { x with over := x.over ++ [.tuple x.listed], listed := [] } → H' A.la ≠ none → Q .non H'
theorem me_Block_turn (T : Txt w K mg) : Me P w K mg base 1 (He.ga K "Block") "turn" (spTurn K) := by
  refine me_of (N := ["self"]) (ps := ["self"]) T.f_Block_turn T.c_Block T.m_Block_turn ⟨rfl, rfl, rfl, by decide +kernel, rfl, by decide +kernel, by decide +kernel⟩ (fun _ _ _ _ _ _ us hl => match us, hl with | [_], _ => rfl)
    (fun vs H Q E h => by obtain ⟨A, x, rfl, ha, nd, l3, q⟩ := h; rfl) (fun cdv A outer s H vs Q E hr h => ?_)
  have nd : (["self"] : List Str).Nodup := by decide +kernel
  obtain ⟨A, x, rfl, ha, nd, l3, q⟩ := h
  refine ⟨_, (pss_cons (ps_expr (pe_bm PySem.F.plainAttrs_list PySem.F.slot_list_append PySem.F.type_list_append mt_append (pe_fld (pv 0) rfl) (pa_cons (pe_tupleOf (by rfl) T.b_tuple (pe_fld (pv 0) rfl)) pa_nil)))
      (pss_one (ps_fld (pv 0) (pe_lst pa_nil) rfl))), ?_⟩
  obtain ⟨vs, o1, o2⟩ := ha.ov
  obtain ⟨us, l1, l2⟩ := ha.li
  have lv := dps_len o2
  have lu := dps_len l2
  have f2 := ha.f2
  have n1 : A.b ≠ A.oa ∧ A.b ≠ A.la ∧ A.oa ≠ A.la := by
    have nd : [A.b, A.oa, A.la].Nodup := nd
    simp only [List.nodup_cons, List.mem_cons, List.not_mem_nil, or_false, not_or] at nd
    exact ⟨nd.1.1, nd.1.2, nd.2.1⟩
  refine ⟨_, rfl, A.b, _, A.dx, _, _, rfl, ha.ins, T.c_Block, T.n_Block_over, bf_over .., .inl ⟨rfl, _, .of o1⟩, _, rfl, A.b, _, A.dx, _, _, rfl, ha.ins, T.c_Block, T.n_Block_listed, bf_listed .., .inl ⟨A.la, us, rfl, .of l1, fun t nt => ?_⟩⟩
  have s1 : Same H (upd H t (.tup us)) := same_new nt
  have e1 : upd H t (.tup us) t = some (.tup us) := upd_same
  generalize upd H t (.tup us) = H1 at s1 e1 ⊢
  refine ⟨A.oa, _, _, rfl, rfl, s1 _ _ o1, by rw [lv, sizeLine_eq]; omega, ?_⟩
  have b2 : But A.oa H1 (upd H1 A.oa (.lst (vs ++ [.ref t]))) := But.upd
  have e2 : upd H1 A.oa (.lst (vs ++ [.ref t])) A.oa = some (.lst (vs ++ [.ref t])) := upd_same
  generalize upd H1 A.oa (.lst (vs ++ [.ref t])) = H2 at b2 e2 ⊢
  refine ⟨(by show 0 ≤ sizeLine; exact Nat.zero_le _), fun la nl => ?_⟩
  have s3 : Same H2 (upd H2 la (.lst [])) := same_new nl
  have e3 : upd H2 la (.lst []) la = some (.lst []) := upd_same
  generalize upd H2 la (.lst []) = H3 at s3 e3 ⊢
  have i2 := b2 _ _ n1.1 (s1 _ _ ha.ins)
  have i3 := s3 _ _ i2
  refine ⟨_, rfl, A.b, _, A.dx, _, rfl, i3, T.c_Block, T.n_Block_listed, (by show 4 < 1000; decide), ?_⟩
  rw [bf_put]
  have nlb : la ≠ A.b := fun z => by rw [z, i2] at nl; cases nl
  have nlo : la ≠ A.oa := fun z => by rw [z, e2] at nl; cases nl
  have nto : t ≠ A.oa := fun z => by rw [z, s1 _ _ o1] at e1; cases e1
  have ntb : t ≠ A.b := fun z => by rw [z, s1 _ _ ha.ins] at e1; cases e1
  have c1 : Ch H1 A.oa := .lst (s1 _ _ o1)
  have b13 : But A.oa H1 H3 := b2.trans (same_but s3)
  have cb3 : Ch H3 A.b := .ins i3
  have b34 : But A.b H3 (upd H3 A.b (.ins (He.ga K "Block") A.dx (bfl A.h (x.parts : Nat) A.oa la))) := But.upd
  have i4 : upd H3 A.b (.ins (He.ga K "Block") A.dx (bfl A.h (x.parts : Nat) A.oa la)) A.b = some (.ins (He.ga K "Block") A.dx (bfl A.h (x.parts : Nat) A.oa la)) := upd_same
  generalize upd H3 A.b (.ins (He.ga K "Block") A.dx (bfl A.h (x.parts : Nat) A.oa la)) = H4 at b34 i4 ⊢
  have D : ∀ {v : V} {d : PyData}, Dp K H1 v d → NoL d → Dp K H4 v d := fun h n => dp_but cb3 b34 (dp_but c1 b13 h n) n
  have Ds : ∀ {vs : List V} {ds : List PyData}, DpAll K H1 vs ds → (∀ d ∈ ds, NoL d) → DpAll K H4 vs ds := fun h n => dps_but cb3 b34 (dps_but c1 b13 h n) n
  have nla0 : H la = none := by
    cases e : H la with
    | none => rfl
    | some o => rw [b2 _ _ nlo (s1 _ _ e)] at nl; cases nl
  have nlist : NoL (.tuple x.listed) := .tup ha.nl
  refine q la H4 nla0 (((BtS.same s1).trans ((BtS.but b13 (by simp [BA.own])))).trans (BtS.but b34 (by simp [BA.own]))) ⟨i4, D (dp_same s1 ha.hd) ha.nh, ⟨vs ++ [.ref t], (b34 _ _ (Ne.symm n1.1) (s3 _ _ e2)), ?_⟩, ⟨[], b34 _ _ nlb e3, .nil⟩, ha.nh, fun d hd => ?_, (fun _ z => nomatch z), by rw [List.length_append, List.length_singleton]; omega, Nat.zero_le _⟩ ?_
  · exact dps_snocT (Ds (dps_same s1 o2) ha.no) (D (.tup (.of e1) (dps_same s1 l2)) nlist)
  · rcases List.mem_append.mp hd with h | h
    · exact ha.no d h
    · rw [List.mem_singleton.mp h]
      exact nlist
  · intro z
    rw [b34 _ _ (Ne.symm n1.2.1) (b13 _ _ (Ne.symm n1.2.2) (s1 _ _ l1))] at z
    cases z
def spWhole (K : PySem.W.Frag) : Sp := fun vs H Q _ => ∃ (A : BA) (x : Blk), vs = [.ref A.b] ∧ BlkAt K H A x ∧ x.head ≠ [] ∧ x.head.length ≤ 100 ∧ x.over ≠ [] ∧ ∀ (v : V) (H' : Hp), Same H H' → Dp K H' v (.tuple (x.head ++ x.over)) → Q v H'
theorem me_Block_whole (T : Txt w K mg) : Me P w K mg base 1 (He.ga K "Block") "whole" (spWhole K) := by
  refine me_of (N := ["self"]) (ps := ["self"]) T.f_Block_whole T.c_Block T.m_Block_whole ⟨rfl, rfl, rfl, by decide +kernel, rfl, by decide +kernel, by decide +kernel⟩ (fun _ _ _ _ _ _ us hl => match us, hl with | [_], _ => rfl)
    (fun vs H Q E h => by obtain ⟨A, x, rfl, ha, h1, h2, h3, q⟩ := h; rfl) (fun cdv A outer s H vs Q E hr h => ?_)
  have nd : (["self"] : List Str).Nodup := by decide +kernel
  obtain ⟨A, x, rfl, ha, h1, h2, h3, q⟩ := h
  refine ⟨_, (pss_one (ps_ret (pe_op op_catA (pe_fld (pv 0) rfl) (pe_tupleOf (by rfl) T.b_tuple (pe_fld (pv 0) rfl))))), ?_⟩
  obtain ⟨vs, o1, o2⟩ := ha.ov
  obtain ⟨hx, hvs, eh, hsq, hds⟩ := dp_tup ha.hd
  have lh := dps_len hds
  have lv := dps_len o2
  have f1 := ha.f1
  refine ⟨_, rfl, A.b, _, A.dx, _, _, rfl, ha.ins, T.c_Block, T.n_Block_head, bf_head .., _, rfl, A.b, _, A.dx, _, _, rfl, ha.ins, T.c_Block, T.n_Block_over, bf_over .., .inl ⟨A.oa, vs, rfl, .of o1, fun t nt => ?_⟩⟩
  have s1 : Same H (upd H t (.tup vs)) := same_new nt
  have e1 : upd H t (.tup vs) t = some (.tup vs) := upd_same
  generalize upd H t (.tup vs) = H1 at s1 e1 ⊢
  refine ⟨hx, t, hvs, vs, eh, rfl, same_t s1 hsq, .of e1, by rw [lh, lv, sizeLine_eq]; omega, fun z => ?_, fun _ z => ?_, fun _ _ p np => ?_⟩
  · rw [z] at lh
    exact absurd (List.eq_nil_of_length_eq_zero lh.symm) h1
  · rw [z] at lv
    exact absurd (List.eq_nil_of_length_eq_zero lv.symm) h3
  · exact q _ _ (s1.trans (same_new np)) (.tup (.of upd_same) (dps_same (same_new np) (dps_app (dps_same s1 hds) (dps_same s1 o2))))
end
end Tx

end M

set_option Elab.async false
set_option linter.all false
set_option maxRecDepth 100000
set_option maxHeartbeats 2000000
namespace M
open PySem PySem.Spec PyProof.Rows L2

/-! ### drafts -/
def dfl (ca ra pa : Addr) : List (Str × V) := [("cells", .ref ca), ("around", .ref ra), ("_past", .ref pa)]
theorem df_cells (ca ra pa : Addr) : (dfl ca ra pa).lookup ("cells" : Str) = some (.ref ca) := by kernel_rfl
theorem df_around (ca ra pa : Addr) : (dfl ca ra pa).lookup ("around" : Str) = some (.ref ra) := by kernel_rfl
theorem df_past (ca ra pa : Addr) : (dfl ca ra pa).lookup ("_past" : Str) = some (.ref pa) := by kernel_rfl
theorem df_no (ca ra pa : Addr) : (dfl ca ra pa).lookup ("take" : Str) = none ∧ (dfl ca ra pa).lookup ("deeds" : Str) = none ∧ (dfl ca ra pa).lookup ("_take_cell" : Str) = none ∧ (dfl ca ra pa).lookup ("_take_deed" : Str) = none ∧ (dfl ca ra pa).lookup ("_take_else" : Str) = none ∧ (dfl ca ra pa).lookup ("_take_end" : Str) = none ∧ (dfl ca ra pa).lookup ("_take_row" : Str) = none := ⟨by kernel_rfl, by kernel_rfl, by kernel_rfl, by kernel_rfl, by kernel_rfl, by kernel_rfl, by kernel_rfl⟩
theorem df_new (ca ra pa : Addr) : putF "_past" (.ref pa) (putF "around" (.ref ra) (putF "cells" (.ref ca) [])) = dfl ca ra pa := by kernel_rfl
theorem df_putP (ca ra pa x : Addr) : putF "_past" (.ref x) (dfl ca ra pa) = dfl ca ra x := by kernel_rfl
theorem df_putR (ca ra pa x : Addr) : putF "around" (.ref x) (dfl ca ra pa) = dfl ca x pa := by kernel_rfl
structure DA where
  d : Addr
  dx : Addr
  ca : Addr
  ra : Addr
  pa : Addr
  bs : List BA
def DA.own (D : DA) : List Addr := D.d :: D.ca :: D.ra :: D.pa :: D.bs.flatMap BA.own
/-- nothing of it is too large -/
structure Fit (n : Nat) (s : Dr) : Prop where
  c : s.cells.length ≤ n
  p : s.past.length ≤ n
  a : s.around.length ≤ n
  b : ∀ x ∈ s.around, x.over.length ≤ n ∧ x.listed.length ≤ n
structure DrAt (K : PySem.W.Frag) (H : Hp) (D : DA) (s : Dr) : Prop where
  ins : H D.d = some (.ins (He.ga K "Draft") D.dx (dfl D.ca D.ra D.pa))
  ce : ∃ vs, H D.ca = some (.lst vs) ∧ DpAll K H vs (s.cells.map cellD)
  ar : H D.ra = some (.lst (D.bs.map fun A => V.ref A.b))
  pa : ∃ vs, H D.pa = some (.lst vs) ∧ DpAll K H vs s.past
  np : ∀ d ∈ s.past, NoL d
  bl : D.bs.length = s.around.length
  bk : ∀ (i : Nat) (A : BA) (x : Blk), D.bs[i]? = some A → s.around[i]? = some x → BlkAt K H A x
  nd : D.own.Nodup
section
variable {K : PySem.W.Frag} {H H' : Hp} {D : DA} {s : Dr}
theorem DrAt.blk (h : DrAt K H D s) {A : BA} (ha : A ∈ D.bs) : ∃ x ∈ s.around, BlkAt K H A x := by
  obtain ⟨i, hi, e⟩ := List.mem_iff_getElem.mp ha
  have l := h.bl
  have hi2 : i < s.around.length := by omega
  exact ⟨s.around[i], List.getElem_mem hi2, h.bk i A _ (by rw [List.getElem?_eq_getElem hi, e]) (List.getElem?_eq_getElem hi2)⟩
theorem DrAt.ch (h : DrAt K H D s) : ∀ x ∈ D.own, Ch H x := fun x hx => by
  obtain ⟨vs, c1, _⟩ := h.ce
  obtain ⟨us, p1, _⟩ := h.pa
  rcases List.mem_cons.mp hx with rfl | hx
  · exact .ins h.ins
  rcases List.mem_cons.mp hx with rfl | hx
  · exact .lst c1
  rcases List.mem_cons.mp hx with rfl | hx
  · exact .lst h.ar
  rcases List.mem_cons.mp hx with rfl | hx
  · exact .lst p1
  obtain ⟨A, hA, hx⟩ := List.mem_flatMap.mp hx
  obtain ⟨y, _, hb⟩ := h.blk hA
  exact hb.ch x hx
theorem DrAt.is (h : DrAt K H D s) : ∀ x ∈ D.own, ∃ o, H x = some o := fun x hx => by
  obtain ⟨vs, c1, _⟩ := h.ce
  obtain ⟨us, p1, _⟩ := h.pa
  rcases List.mem_cons.mp hx with rfl | hx
  · exact ⟨_, h.ins⟩
  rcases List.mem_cons.mp hx with rfl | hx
  · exact ⟨_, c1⟩
  rcases List.mem_cons.mp hx with rfl | hx
  · exact ⟨_, h.ar⟩
  rcases List.mem_cons.mp hx with rfl | hx
  · exact ⟨_, p1⟩
  obtain ⟨A, hA, hx⟩ := List.mem_flatMap.mp hx
  obtain ⟨y, _, hb⟩ := h.blk hA
  exact hb.is x hx
theorem DrAt.new (h : DrAt K H D s) {t : Addr} (n : H t = none) : t ∉ D.own := fun z => by
  obtain ⟨o, e⟩ := h.is t z
  rw [n] at e
  cases e
theorem DrAt.noL (h : DrAt K H D s) : ∀ d ∈ s.deeds, NoL d := fun d hd => by
  rcases List.mem_append.mp hd with hd | hd
  · exact h.np d hd
  · obtain ⟨b, hb, rfl⟩ := List.mem_map.mp hd
    obtain ⟨i, hi, e⟩ := List.mem_iff_getElem.mp hb
    have l := h.bl
    have k := h.bk i (D.bs[i]'(by omega)) b (List.getElem?_eq_getElem (by omega)) (by rw [List.getElem?_eq_getElem hi, e])
    refine .tup fun x hx => ?_
    rcases List.mem_append.mp hx with hx | hx
    · have nh := k.nh
      cases nh with | tup f => exact f x hx
    · rw [List.mem_singleton.mp hx]
      exact .tup k.nl
/-- what does not concern it -/
theorem DrAt.bts {S : List Addr} (h : DrAt K H D s) (c : ∀ x ∈ S, Ch H x) (b : BtS S H H') (n : ∀ x ∈ D.own, x ∉ S) : DrAt K H' D s := by
  obtain ⟨vs, c1, c2⟩ := h.ce
  obtain ⟨us, p1, p2⟩ := h.pa
  have m : ∀ x, x ∈ D.own → x ∉ S := n
  refine ⟨b _ _ (m _ (by simp [DA.own])) h.ins, ⟨vs, b _ _ (m _ (by simp [DA.own])) c1, dps_bts c b c2 fun d hd => ?_⟩, b _ _ (m _ (by simp [DA.own])) h.ar, ⟨us, b _ _ (m _ (by simp [DA.own])) p1, dps_bts c b p2 h.np⟩, h.np, h.bl, fun i A x e1 e2 => ?_, h.nd⟩
  · obtain ⟨q, _, rfl⟩ := List.mem_map.mp hd
    exact cell_noL q
  · refine (h.bk i A x e1 e2).bts c b fun y hy => m y ?_
    refine List.mem_cons_of_mem _ (List.mem_cons_of_mem _ (List.mem_cons_of_mem _ (List.mem_cons_of_mem _ (List.mem_flatMap.mpr ⟨A, List.mem_of_getElem? e1, hy⟩))))
theorem DrAt.same (h : DrAt K H D s) (b : Same H H') : DrAt K H' D s := h.bts (S := []) (fun _ z => nomatch z) (BtS.same b) (fun _ _ z => nomatch z)
end
namespace Tx
section
variable {P : Program} {w : World} {K : PySem.W.Frag} {mg : Str → Option Value} {base : Heap}
def spDraft (K : PySem.W.Frag) : Sp := fun vs H Q _ => ∃ (p dx : Addr), vs = [.ref p] ∧ H p = some (.ins (He.ga K "Draft") dx []) ∧ ∀ (D : DA) (H' : Hp), D.d = p → But p H H' → DrAt K H' D .zero → (∀ x ∈ D.own, x = p ∨ H x = none) → Q .non H'
theorem ma_Draft (T : Txt w K mg) : Ma P w K mg base 1 "Draft" (He.ga K "Draft") (spDraft K) := by
  refine ma_of (N := ["self"]) (ps := ["self"]) T.f_Draft_init T.g_Draft T.k_Draft ⟨rfl, rfl, rfl, by decide +kernel, rfl, by decide +kernel, by decide +kernel⟩ (fun _ _ _ _ _ _ us hl => match us, hl with | [_], _ => rfl)
    (fun vs H Q E h => by obtain ⟨p, dx, rfl, hp, q⟩ := h; rfl) (fun cdv A outer s H vs Q E hr h => ?_)
  have nd : (["self"] : List Str).Nodup := by decide +kernel
  obtain ⟨p, dx, rfl, hp, q⟩ := h
  refine ⟨_, (pss_cons (ps_fld (pv 0) (pe_lst pa_nil) rfl)
      (pss_cons (ps_fld (pv 0) (pe_lst pa_nil) rfl)
      (pss_one (ps_fld (pv 0) (pe_lst pa_nil) rfl)))), ?_⟩
  have nH : ∀ {z : Addr} {J : Hp}, But p H J → z ≠ p → J z = none → H z = none := fun {z J} bb nz e => by
    cases ez : H z with
    | none => rfl
    | some o => rw [bb _ _ nz ez] at e; cases e
  refine ⟨(by show 0 ≤ sizeLine; exact Nat.zero_le _), fun ca nc => ?_⟩
  have s1 := same_new (o := .lst []) nc
  have e1 : upd H ca (.lst []) ca = some (.lst []) := upd_same
  generalize upd H ca (.lst []) = H1 at s1 e1 ⊢
  refine ⟨_, rfl, p, _, dx, _, rfl, s1 _ _ hp, T.c_Draft, T.n_Draft_cells, (by show 0 < 1000; decide), ?_⟩
  have b2 : But p H1 (upd H1 p (.ins (He.ga K "Draft") dx (putF "cells" (.ref ca) []))) := But.upd
  have i2 : upd H1 p (.ins (He.ga K "Draft") dx (putF "cells" (.ref ca) [])) p = some (.ins (He.ga K "Draft") dx (putF "cells" (.ref ca) [])) := upd_same
  generalize upd H1 p (.ins (He.ga K "Draft") dx (putF "cells" (.ref ca) [])) = H2 at b2 i2 ⊢
  refine ⟨(by show 0 ≤ sizeLine; exact Nat.zero_le _), fun ra nr => ?_⟩
  have s3 := same_new (o := .lst []) nr
  have e3 : upd H2 ra (.lst []) ra = some (.lst []) := upd_same
  generalize upd H2 ra (.lst []) = H3 at s3 e3 ⊢
  refine ⟨_, rfl, p, _, dx, _, rfl, s3 _ _ i2, T.c_Draft, T.n_Draft_around, (by show 1 < 1000; decide), ?_⟩
  have b4 : But p H3 (upd H3 p (.ins (He.ga K "Draft") dx (putF "around" (.ref ra) (putF "cells" (.ref ca) [])))) := But.upd
  have i4 : upd H3 p (.ins (He.ga K "Draft") dx (putF "around" (.ref ra) (putF "cells" (.ref ca) []))) p = some (.ins (He.ga K "Draft") dx (putF "around" (.ref ra) (putF "cells" (.ref ca) []))) := upd_same
  generalize upd H3 p (.ins (He.ga K "Draft") dx (putF "around" (.ref ra) (putF "cells" (.ref ca) []))) = H4 at b4 i4 ⊢
  refine ⟨(by show 0 ≤ sizeLine; exact Nat.zero_le _), fun pa npa => ?_⟩
  have s5 := same_new (o := .lst []) npa
  have e5 : upd H4 pa (.lst []) pa = some (.lst []) := upd_same
  generalize upd H4 pa (.lst []) = H5 at s5 e5 ⊢
  refine ⟨_, rfl, p, _, dx, _, rfl, s5 _ _ i4, T.c_Draft, T.n_Draft_past, (by show 2 < 1000; decide), ?_⟩
  rw [df_new]
  have ncp : ca ≠ p := fun z => by rw [z, hp] at nc; cases nc
  have nrp : ra ≠ p := fun z => by rw [z, i2] at nr; cases nr
  have npp : pa ≠ p := fun z => by rw [z, i4] at npa; cases npa
  have ec2 := b2 _ _ ncp e1
  have ncr : ca ≠ ra := ne_of_none ec2 nr
  have ec4 := b4 _ _ ncp (s3 _ _ ec2)
  have er4 := b4 _ _ nrp e3
  have ncpa : ca ≠ pa := ne_of_none ec4 npa
  have nrpa : ra ≠ pa := ne_of_none er4 npa
  have b02 : But p H H2 := (same_but s1).trans b2
  have b04 : But p H H4 := b02.trans ((same_but s3).trans b4)
  refine q ⟨p, dx, ca, ra, pa, []⟩ _ rfl (b04.trans ((same_but s5).trans But.upd)) ⟨upd_same, ⟨[], (by rw [upd_ne ncp]; exact s5 _ _ ec4), .nil⟩, (by rw [upd_ne nrp]; exact s5 _ _ er4), ⟨[], (by rw [upd_ne npp]; exact e5), .nil⟩, (fun _ z => nomatch z), rfl, (fun i A x z => by simp at z), ?_⟩ fun x hx => ?_
  · show [p, ca, ra, pa].Nodup
    simp [Ne.symm ncp, Ne.symm nrp, Ne.symm npp, ncr, ncpa, nrpa]
  · have hx : x ∈ [p, ca, ra, pa] := hx
    simp only [List.mem_cons, List.not_mem_nil, or_false] at hx
    rcases hx with rfl | rfl | rfl | rfl
    · exact .inl rfl
    · exact .inr nc
    · exact .inr (nH b02 nrp nr)
    · exact .inr (nH b04 npp npa)
def spDeeds (K : PySem.W.Frag) : Sp := fun vs H Q _ => ∃ (D : DA) (s : Dr), vs = [.ref D.d] ∧ DrAt K H D s ∧ Fit 100000 s ∧ (∀ b ∈ s.around, b.head ≠ [] ∧ b.head.length ≤ 100) ∧ ∀ (l : Addr) (us : List V) (H' : Hp), H l = none → Same H H' → H' l = some (.lst us) → DpAll K H' us s.deeds → Q (.ref l) H'
theorem me_Draft_deeds (T : Txt w K mg) : Me P w K mg base 1 (He.ga K "Draft") "deeds" (spDeeds K) := by
  refine me_of (N := ["self", "found", "block"]) (ps := ["self"]) T.f_Draft_deeds T.c_Draft T.m_Draft_deeds ⟨rfl, rfl, rfl, by decide +kernel, rfl, by decide +kernel, by decide +kernel⟩ (fun _ _ _ _ _ _ us hl => match us, hl with | [_], _ => rfl)
    (fun vs H Q E h => by obtain ⟨D, s, rfl, hd, ft, hhd, q⟩ := h; rfl) (fun cdv A outer s H vs Q E hr h => ?_)
  have nd : (["self", "found", "block"] : List Str).Nodup := by decide +kernel
  obtain ⟨D, s, rfl, hd, ft, hhd, q⟩ := h
  refine ⟨_, (pss_cons (ps_set (i := 1) nd rfl (.inl rfl) (pe_callTy call_list_of (by rfl) T.b_list boot_list (pa_cons (pe_fld (pv 0) rfl) pa_nil)))
      (pss_cons (ps_for PassesOwn.never rfl (pi_list (pe_fld (pv 0) rfl)) (pg_name (i := 2) nd rfl (.inl rfl)) (pss_one (ps_expr (pe_bm PySem.F.plainAttrs_list PySem.F.slot_list_append PySem.F.type_list_append mt_append (pv 1) (pa_cons (pe_op op_catA (pe_fld (pv 2) rfl) (pe_tup (pa_cons (pe_tupleOf (by rfl) T.b_tuple (pe_fld (pv 2) rfl)) pa_nil))) pa_nil)))))
      (pss_one (ps_ret (pv 1))))), ?_⟩
  obtain ⟨ps, p1, p2⟩ := hd.pa
  have lp := dps_len p2
  have fp := ft.p
  have fa := ft.a
  refine ⟨_, rfl, D.d, _, D.dx, _, _, rfl, hd.ins, T.c_Draft, T.n_Draft_past, df_past .., D.pa, ps, rfl, .inl (.of p1), fun l nl => ?_⟩
  have s1 := same_new (o := .lst ps) nl
  have e1 : upd H l (.lst ps) l = some (.lst ps) := upd_same
  generalize upd H l (.lst ps) = H1 at s1 e1 ⊢
  have hd1 := hd.same s1
  have nlo := hd.new nl
  have nra : D.ra ≠ l := fun z => nlo (z ▸ (by simp [DA.own]))
  have ndl : D.d ≠ l := fun z => nlo (z ▸ (by simp [DA.own]))
  have c1 : ∀ x ∈ [l], Ch H1 x := fun x hx => by rw [List.mem_singleton.mp hx]; exact .lst e1
  have noL := hd.noL
  refine ⟨_, rfl, D.d, _, D.dx, _, _, rfl, hd1.ins, T.c_Draft, T.n_Draft_around, df_around .., D.ra, rfl, ⟨_, .of hd1.ar⟩, for_list (xs := D.bs.map fun A => V.ref A.b) (fun i σ' H' => ∃ (z : Option V) (us : List V), σ' = [some (.ref D.d), some (.ref l), z] ∧ BtS [l] H1 H' ∧ H' l = some (.lst us) ∧ DpAll K H' us (s.past ++ (s.around.take i).map fun b => .tuple (b.head ++ [.tuple b.listed]))) ⟨none, ps, rfl, BtS.refl _ _, e1, by rw [List.take_zero, List.map_nil, List.append_nil]; exact dps_same s1 p2⟩ (fun i σ' H' _ ⟨_, _, _, b, _⟩ => .of (b _ _ (fun z => nra (List.mem_singleton.mp z)) hd1.ar)) ?_ ?_⟩
  · rintro i x σ' H' hx ⟨z, us, rfl, bt, hl, hus⟩
    obtain ⟨A, eA, rfl⟩ := get_mapA hx
    have hi : i < s.around.length := by rw [← hd.bl]; exact (List.getElem?_eq_some_iff.mp eA).1
    have ex := List.getElem?_eq_getElem hi
    generalize s.around[i]'hi = y at ex
    have hm := List.mem_of_getElem? ex
    have nA : ∀ a ∈ A.own, a ∉ [l] := fun a ha z => nlo (by
      rw [← List.mem_singleton.mp z]
      exact List.mem_cons_of_mem _ (List.mem_cons_of_mem _ (List.mem_cons_of_mem _ (List.mem_cons_of_mem _ (List.mem_flatMap.mpr ⟨A, List.mem_of_getElem? eA, ha⟩)))))
    have k := (hd1.bk i A y eA ex).bts c1 bt nA
    obtain ⟨ls, l1, l2⟩ := k.li
    have lls := dps_len l2
    have f2 := k.f2
    have lus := dps_len hus
    rw [List.length_append, List.length_map, List.length_take] at lus
    obtain ⟨h1, h2⟩ := hhd y hm
    obtain ⟨hx2, hvs, eh, hsq, hds⟩ := dp_tup k.hd
    have lh := dps_len hds
    refine ⟨_, rfl, .inl ⟨rfl, _, .of hl⟩, _, rfl, A.b, _, A.dx, _, _, rfl, k.ins, T.c_Block, T.n_Block_head, bf_head .., _, rfl, A.b, _, A.dx, _, _, rfl, k.ins, T.c_Block, T.n_Block_listed, bf_listed .., .inl ⟨A.la, ls, rfl, .of l1, fun t1 n1 => ⟨(by show 1 ≤ sizeLine; decide), fun t2 n2 => ?_⟩⟩⟩
    have w1 : Same H' (upd H' t1 (.tup ls)) := same_new n1
    have g1 : upd H' t1 (.tup ls) t1 = some (.tup ls) := upd_same
    generalize upd H' t1 (.tup ls) = H2 at w1 g1 n2 ⊢
    have w2 : Same H2 (upd H2 t2 (.tup [.ref t1])) := same_new n2
    have g2 : upd H2 t2 (.tup [.ref t1]) t2 = some (.tup [.ref t1]) := upd_same
    generalize upd H2 t2 (.tup [.ref t1]) = H3 at w2 g2 ⊢
    have w12 := w1.trans w2
    refine ⟨hx2, t2, hvs, [.ref t1], eh, rfl, same_t w12 hsq, .of g2, by rw [lh, List.length_singleton, sizeLine_eq]; omega, fun z => ?_, (fun _ z => nomatch z), fun _ _ p np => ?_⟩
    · rw [z] at lh
      exact absurd (List.eq_nil_of_length_eq_zero lh.symm) h1
    have w3 : Same H3 (upd H3 p (.tup (hvs ++ [.ref t1]))) := same_new np
    have g3 : upd H3 p (.tup (hvs ++ [.ref t1])) p = some (.tup (hvs ++ [.ref t1])) := upd_same
    generalize upd H3 p (.tup (hvs ++ [.ref t1])) = H4 at w3 g3 ⊢
    have w13 := w12.trans w3
    have hl4 := w13 _ _ hl
    refine ⟨l, _, _, rfl, rfl, hl4, by rw [lus, sizeLine_eq]; omega, ?_⟩
    have c4 : ∀ x ∈ [l], Ch H4 x := fun x hx => by rw [List.mem_singleton.mp hx]; exact .lst hl4
    have bL : BtS [l] H4 (upd H4 l (.lst (us ++ [.ref p]))) := BtS.but But.upd (List.mem_singleton.mpr rfl)
    refine ⟨_, us ++ [.ref p], rfl, (bt.trans (BtS.same w13)).trans bL, upd_same, ?_⟩
    have dd : Dp K H4 (.ref p) (.tuple (y.head ++ [.tuple y.listed])) := .tup (.of g3) (dps_app (dps_same w13 hds) (.cons (.tup (.of ((w2.trans w3) _ _ g1)) (dps_same w13 l2)) .nil))
    have hmem : PyData.tuple (y.head ++ [.tuple y.listed]) ∈ s.deeds := List.mem_append_right _ (List.mem_map_of_mem (f := fun b : Blk => PyData.tuple (b.head ++ [.tuple b.listed])) hm)
    rw [take_more ex, List.map_append, ← List.append_assoc]
    refine dps_snocT (dps_bts c4 bL (dps_same w13 hus) fun d hd' => noL d ?_) (dp_bts c4 bL dd (noL _ hmem))
    rcases List.mem_append.mp hd' with h | h
    · exact List.mem_append_left _ h
    · refine List.mem_append_right _ ?_
      obtain ⟨b, hb, rfl⟩ := List.mem_map.mp h
      exact List.mem_map_of_mem (f := fun b : Blk => PyData.tuple (b.head ++ [.tuple b.listed])) (List.mem_of_mem_take hb)
  · rintro σ' H' ⟨z, us, rfl, bt, hl, hus⟩
    rw [List.length_map, hd.bl, List.take_length] at hus
    exact ⟨_, rfl, q l us H' nl (fun b o e => bt _ _ (fun z => ne_of_none e nl (List.mem_singleton.mp z)) (s1 _ _ e)) hl hus⟩
end
end Tx

end M

set_option Elab.async false
set_option linter.all false
set_option maxRecDepth 100000
set_option maxHeartbeats 2000000
namespace M
open PySem PySem.Spec PyProof.Rows L2

/-- what a line taken comes to -/
def TakeQ (K : PySem.W.Frag) (H : Hp) (D : DA) (t : Dr) (Q : VK) : Prop := ∀ (D' : DA) (H' : Hp), D'.d = D.d → BtS D.own H H' → DrAt K H' D' t → (∀ x ∈ D'.own, x ∈ D.own ∨ H x = none) → Q (.bl true) H'
theorem Fit.mono {n m : Nat} {s : Dr} (h : Fit n s) (l : n ≤ m) : Fit m s := ⟨Nat.le_trans h.c l, Nat.le_trans h.p l, Nat.le_trans h.a l, fun x hx => ⟨Nat.le_trans (h.b x hx).1 l, Nat.le_trans (h.b x hx).2 l⟩⟩
theorem num_dg {a i : Int} (h : 0 ≤ a ∧ a ≤ 9) (n : NumOf (dg a) i) : i = a := by
  rcases n with n | ⟨n, _⟩
  · rw [digI_dg h] at n
    exact (Option.some.inj n).symm
  · rw [digI_dg h] at n
    cases n
namespace Tx
section
variable {P : Program} {w : World} {K : PySem.W.Frag} {mg : Str → Option Value} {base : Heap}
def spTkCell (K : PySem.W.Frag) : Sp := fun vs H Q _ => ∃ (D : DA) (wa : Addr) (s : Dr) (c : Int × Int), vs = [.ref D.d, .ref wa] ∧ H wa = some (.lst ((cellW c).map V.str)) ∧ DrAt K H D s ∧ Fit 99999 s ∧ s.around = [] ∧ (0 ≤ c.1 ∧ c.1 ≤ 9) ∧ (0 ≤ c.2 ∧ c.2 ≤ 9) ∧ TakeQ K H D { s with cells := s.cells ++ [c] } Q
theorem me_Draft_take_cell (T : Txt w K mg) : Me P w K mg base 3 (He.ga K "Draft") "_take_cell" (spTkCell K) := by
  refine me_of (N := ["self", "words", "word", "numbers"]) (ps := ["self", "words"]) T.f_Draft_take_cell T.c_Draft T.m_Draft_take_cell ⟨rfl, rfl, rfl, by decide +kernel, rfl, by decide +kernel, by decide +kernel⟩ (fun _ _ _ _ _ _ us hl => match us, hl with | [_, _], _ => rfl)
    (fun vs H Q E h => by obtain ⟨D, wa, s, c, rfl, hw, hd, ft, ha, h1, h2, q⟩ := h; rfl) (fun cdv A outer s H vs Q E hr h => ?_)
  have nd : (["self", "words", "word", "numbers"] : List Str).Nodup := by decide +kernel
  obtain ⟨D, wa, s, c, rfl, hw, hd, ft, ha, h1, h2, q⟩ := h
  refine ⟨_, (pss_cons (ps_setLc (i := 3) (own := [("word", 2)]) (tt := tYes) rfl nd rfl rfl (by rfl) (pi_list (pe_slice sl_list (pv 1) (po_some pe_int) po_none)) (blkOk_by (N := ["self", "words", "word", "numbers"]) (sc := defScope s_Draft_take_cell) (by decide +kernel)) (fun _ _ _ _ _ => pg_name (i := 2) nd rfl (.inl rfl)) (fun _ _ _ _ _ => pts_nil) (fun _ _ _ _ _ => pe_ca (G.ca_number_in T) hr (pa_cons (pv 2) pa_nil)))
      (pss_cons (ps_if (PW.pt (pw_or (pt_cmpR op_gt (pe_callB call_len_seq (by rfl) T.b_len PySem.boot_len (pa_cons (pe_fld (pv 0) rfl) pa_nil)) pe_int (nomark _)) (pw_or (pt_cmpR op_ne (pe_callB call_len_seq (by rfl) T.b_len PySem.boot_len (pa_cons (pv 3) pa_nil)) pe_int (nomark _)) (pw_or1 (pt_cmpR op_lt (pe_callB (call_minL2 rfl) (by rfl) T.b_min boot_min (pa_cons (pv 3) pa_nil)) pe_int (nomark _)))))) (pss_one (ps_ret pe_bl)) pss_nil)
      (pss_cons (ps_expr (pe_bm PySem.F.plainAttrs_list PySem.F.slot_list_append PySem.F.type_list_append mt_append (pe_fld (pv 0) rfl) (pa_cons (pe_tup (pa_cons (pe_ix ix_list (pv 3) pe_int (fun _ _ => rfl)) (pa_cons (pe_ix ix_list (pv 3) pe_int (fun _ _ => rfl)) pa_nil))) pa_nil)))
      (pss_one (ps_ret pe_bl))))), ?_⟩
  obtain ⟨cv, c1, c2⟩ := hd.ce
  have lcv := dps_len c2
  rw [List.length_map] at lcv
  have fc := ft.c
  have hw : H wa = some (.lst (V.str "cell" :: [c.1, c.2].map fun a => V.str (dg a))) := hw
  refine ⟨_, rfl, _, rfl, wa, _, rfl, .of hw, fun p np => ?_⟩
  rw [cut1]
  have s1 := same_new (o := .lst ([c.1, c.2].map fun a => V.str (dg a))) np
  have e1 : upd H p (.lst ([c.1, c.2].map fun a => V.str (dg a))) p = some (.lst ([c.1, c.2].map fun a => V.str (dg a))) := upd_same
  generalize upd H p (.lst ([c.1, c.2].map fun a => V.str (dg a))) = H1 at s1 e1 ⊢
  refine ⟨p, rfl, ⟨_, .of e1⟩, fun N nN => ?_⟩
  refine it_any (n := ([c.1, c.2].map fun a => V.str (dg a)).length) walk_list (fun i J => Same H1 J ∧ J N = some (.lst (([c.1, c.2].take i).map V.int))) ⟨same_new nN, upd_same⟩ (fun i J _ ⟨s, _⟩ => .of (s _ _ e1)) ?_ ?_
  · rintro i x J0 J hi ⟨sJ, hN⟩ ⟨rfl, ex⟩
    obtain ⟨a, ea, rfl⟩ := get_mapA ex
    have ra : 0 ≤ a ∧ a ≤ 9 := by
      rcases List.mem_cons.mp (List.mem_of_getElem? ea) with rfl | h
      · exact h1
      · rw [List.mem_singleton.mp h]; exact h2
    refine ⟨rfl, _, rfl, dg a, rfl, by rw [len_dg]; decide, fun i' ni => ⟨_, hN, by rw [List.length_map, List.length_take, sizeLine_eq]; show min i 2 < _; omega, fun b o e => ?_, ?_⟩⟩
    · rw [upd_ne (ne_of_none e nN)]
      exact sJ _ _ e
    · rw [upd_same, take_more ea, List.map_append, num_dg ra ni]
      rfl
  rintro J ⟨sJ, hN⟩
  have hN : J N = some (.lst [.int c.1, .int c.2]) := hN
  have s1J := s1.trans sJ
  have hdJ := hd.same s1J
  have l0 : (D.bs.map fun A => V.ref A.b).length = 0 := by rw [List.length_map, hd.bl, ha]; rfl
  refine ⟨_, rfl, D.d, _, D.dx, _, _, rfl, hdJ.ins, T.c_Draft, T.n_Draft_around, df_around .., _, _, rfl, .inl (.of hdJ.ar), _, _, rfl, rfl, _, rfl, ?_⟩
  rw [l0, decide_eq_false (show ¬ (0 : Int) < ((0 : Nat) : Int) by decide)]
  refine iteF ⟨_, rfl, _, _, rfl, .inl (.of hN), rfl, _, rfl, ?_⟩
  rw [decide_eq_true (show V.int (([.int c.1, .int c.2] : List V).length : Nat) = V.int 2 from rfl)]
  refine iteF ⟨_, rfl, N, c.1, c.2, rfl, .of hN, _, _, rfl, rfl, _, rfl, ?_⟩
  rw [decide_eq_false (show ¬ (if c.2 < c.1 then c.2 else c.1) < 0 by split <;> omega)]
  refine iteF ⟨_, rfl, D.d, _, D.dx, _, _, rfl, hdJ.ins, T.c_Draft, T.n_Draft_cells, df_cells .., .inl ⟨rfl, _, .of (s1J _ _ c1)⟩, _, rfl, _, _, _, _, rfl, rfl, .of hN, at0, _, rfl, _, _, _, _, rfl, rfl, .of hN, at1, (by show 2 ≤ sizeLine; decide), fun t nt => ?_⟩
  have s2 := same_new (o := .tup [.int c.1, .int c.2]) nt
  have e2 : upd J t (.tup [.int c.1, .int c.2]) t = some (.tup [.int c.1, .int c.2]) := upd_same
  generalize upd J t (.tup [.int c.1, .int c.2]) = H2 at s2 e2 ⊢
  have s12 := s1J.trans s2
  have hd2 := hd.same s12
  have c12 := s12 _ _ c1
  refine ⟨D.ca, _, _, rfl, rfl, c12, by rw [lcv, sizeLine_eq]; omega, ?_⟩
  have ch : Ch H2 D.ca := .lst c12
  have bb : But D.ca H2 (upd H2 D.ca (.lst (cv ++ [.ref t]))) := But.upd
  have hcu : upd H2 D.ca (.lst (cv ++ [.ref t])) D.ca = some (.lst (cv ++ [.ref t])) := upd_same
  generalize upd H2 D.ca (.lst (cv ++ [.ref t])) = H3 at bb hcu ⊢
  have nd := hd.nd
  have nn : D.d ≠ D.ca ∧ D.ra ≠ D.ca ∧ D.pa ≠ D.ca ∧ ∀ A ∈ D.bs, ∀ x ∈ A.own, x ≠ D.ca := by
    unfold DA.own at nd
    obtain ⟨a1, a2⟩ := List.nodup_cons.mp nd
    obtain ⟨a3, a4⟩ := List.nodup_cons.mp a2
    refine ⟨fun z => a1 (z ▸ List.mem_cons_self), fun z => a3 (z ▸ List.mem_cons_self), fun z => a3 (z ▸ List.mem_cons_of_mem _ List.mem_cons_self), fun A hA x hx z => a3 (z ▸ List.mem_cons_of_mem _ (List.mem_cons_of_mem _ (List.mem_flatMap.mpr ⟨A, hA, hx⟩)))⟩
  obtain ⟨us, p1, p2⟩ := hd2.pa
  refine q D H3 rfl ((BtS.same s12).trans (BtS.but bb (by simp [DA.own]))) ⟨bb _ _ nn.1 hd2.ins, ⟨_, hcu, ?_⟩, bb _ _ nn.2.1 hd2.ar, ⟨us, bb _ _ nn.2.2.1 p1, dps_but ch bb p2 hd.np⟩, hd.np, hd.bl, fun i A x ea ex => ?_, nd⟩ fun x hx => .inl hx
  · rw [List.map_append]
    refine dps_snocT (dps_but ch bb (dps_same s12 c2) fun d hd' => ?_) (dp_but ch bb (.tup (.of e2) (.cons (.int _) (.cons (.int _) .nil))) (cell_noL c))
    obtain ⟨y, _, rfl⟩ := List.mem_map.mp hd'
    exact cell_noL y
  · rw [ha] at ex
    simp at ex
def spTkDeed (K : PySem.W.Frag) : Sp := fun vs H Q _ => ∃ (D : DA) (wa : Addr) (s : Dr) (d : Str × Int × List Row), vs = [.ref D.d, .ref wa] ∧ H wa = some (.lst ((deedW d).map V.str)) ∧ DrAt K H D s ∧ Fit 99999 s ∧ (∀ b ∈ s.around, b.head ≠ [] ∧ b.head.length ≤ 100) ∧ s.around.length ≤ 1 ∧ NameOk d.1 ∧ (0 ≤ d.2.1 ∧ d.2.1 ≤ 9) ∧ TakeQ K H D { s with past := s.deeds, around := [⟨[.str d.1, .int d.2.1], 1, [], []⟩] } Q
theorem me_Draft_take_deed (T : Txt w K mg) : Me P w K mg base 3 (He.ga K "Draft") "_take_deed" (spTkDeed K) := by
  refine me_of (N := ["self", "words"]) (ps := ["self", "words"]) T.f_Draft_take_deed T.c_Draft T.m_Draft_take_deed ⟨rfl, rfl, rfl, by decide +kernel, rfl, by decide +kernel, by decide +kernel⟩ (fun _ _ _ _ _ _ us hl => match us, hl with | [_, _], _ => rfl)
    (fun vs H Q E h => by obtain ⟨D, wa, s, d, rfl, hw, hd, ft, hhd, ha, hn, h2, q⟩ := h; rfl) (fun cdv A outer s H vs Q E hr h => ?_)
  have nd : (["self", "words"] : List Str).Nodup := by decide +kernel
  obtain ⟨D, wa, s, d, rfl, hw, hd, ft, hhd, ha, hn, h2, q⟩ := h
  refine ⟨_, (pss_cons (ps_if (PW.pt (pw_or (pt_cmpR op_gt (pe_callB call_len_seq (by rfl) T.b_len PySem.boot_len (pa_cons (pe_fld (pv 0) rfl) pa_nil)) pe_int (nomark _)) (pw_or (pt_cmpR op_ne (pe_callB call_len_seq (by rfl) T.b_len PySem.boot_len (pa_cons (pv 1) pa_nil)) pe_int (nomark _)) (pw_or (pt_not (pt_val (pe_ca (ca_is_name T) hr (pa_cons (pe_ix ix_list (pv 1) pe_int (fun _ _ => rfl)) pa_nil)))) (pw_or1 (pt_cmpR op_lt (pe_ca (G.ca_number_in T) hr (pa_cons (pe_ix ix_list (pv 1) pe_int (fun _ _ => rfl)) pa_nil)) pe_int (nomark _))))))) (pss_one (ps_ret pe_bl)) pss_nil)
      (pss_cons (ps_fld (pv 0) (pe_me0 (Tx.me_Draft_deeds T) hr (pv 0)) rfl)
      (pss_cons (ps_fld (pv 0) (pe_lst (pa_cons (pe_ma (Tx.ma_Block T) hr (pa_cons (pe_tup (pa_cons (pe_ix ix_list (pv 1) pe_int (fun _ _ => rfl)) (pa_cons (pe_ca (G.ca_number_in T) hr (pa_cons (pe_ix ix_list (pv 1) pe_int (fun _ _ => rfl)) pa_nil)) pa_nil))) (pa_cons pe_int pa_nil))) pa_nil)) rfl)
      (pss_one (ps_ret pe_bl))))), ?_⟩
  have lb : ¬ (1 : Int) < ((D.bs.map fun A => V.ref A.b).length : Nat) := by rw [List.length_map, hd.bl]; omega
  have hw : H wa = some (.lst [V.str "deed", .str d.1, .str (dg d.2.1)]) := hw
  refine ⟨_, rfl, D.d, _, D.dx, _, _, rfl, hd.ins, T.c_Draft, T.n_Draft_around, df_around .., _, _, rfl, .inl (.of hd.ar), _, _, rfl, rfl, _, rfl, ?_⟩
  rw [decide_eq_false lb]
  refine iteF ⟨_, rfl, _, _, rfl, .inl (.of hw), rfl, _, rfl, ?_⟩
  rw [decide_eq_true (show V.int (([V.str "deed", .str d.1, .str (dg d.2.1)] : List V).length : Nat) = V.int 3 from rfl)]
  refine iteF ⟨_, rfl, _, _, _, _, rfl, rfl, .of hw, at1, d.1, rfl, hn, _, rfl, iteF ?_⟩
  refine ⟨_, rfl, _, _, _, _, rfl, rfl, .of hw, at2, dg d.2.1, rfl, by rw [len_dg]; decide, fun i ni => ⟨_, _, rfl, rfl, _, rfl, ?_⟩⟩
  obtain rfl := num_dg h2 ni
  rw [decide_eq_false (show ¬ d.2.1 < 0 by omega)]
  refine iteF ?_
  -- what was read so far
  refine ⟨_, rfl, D.d, D.dx, _, rfl, hd.ins, (df_no ..).2.1, D, s, rfl, hd, ft.mono (by decide), hhd, fun l us H1 nl s1 hl hus => ?_⟩
  have hd1 := hd.same s1
  refine ⟨_, rfl, D.d, _, D.dx, _, rfl, hd1.ins, T.c_Draft, T.n_Draft_past, (by show 3 < 1000; decide), ?_⟩
  rw [df_putP]
  have nlo := hd.new nl
  have ndl : l ≠ D.d := fun z => nlo (z ▸ (by simp [DA.own]))
  have b2 : But D.d H1 (upd H1 D.d (.ins (He.ga K "Draft") D.dx (dfl D.ca D.ra l))) := But.upd
  have i2 : upd H1 D.d (.ins (He.ga K "Draft") D.dx (dfl D.ca D.ra l)) D.d = some (.ins (He.ga K "Draft") D.dx (dfl D.ca D.ra l)) := upd_same
  generalize upd H1 D.d (.ins (He.ga K "Draft") D.dx (dfl D.ca D.ra l)) = H2 at b2 i2 ⊢
  have ch1 : Ch H1 D.d := .ins hd1.ins
  have nwd : wa ≠ D.d := fun z => by rw [z, hd.ins] at hw; cases hw
  have hw2 := b2 _ _ nwd (s1 _ _ hw)
  have hl2 := b2 _ _ ndl hl
  have hus2 := dps_but ch1 b2 hus hd.noL
  -- the block of the deed
  refine ⟨_, rfl, _, _, _, _, rfl, rfl, .of hw2, at1, _, rfl, _, _, _, _, rfl, rfl, .of hw2, at2, dg d.2.1, rfl, by rw [len_dg]; decide, fun i ni => ?_⟩
  obtain rfl := num_dg h2 ni
  refine ⟨(by show 2 ≤ sizeLine; decide), fun t nt => ?_⟩
  have s3 := same_new (o := .tup [.str d.1, .int d.2.1]) nt
  have e3 : upd H2 t (.tup [.str d.1, .int d.2.1]) t = some (.tup [.str d.1, .int d.2.1]) := upd_same
  generalize upd H2 t (.tup [.str d.1, .int d.2.1]) = H3 at s3 e3 ⊢
  intro b bx hb hbx ne
  have s4 : Same H3 (upd (upd H3 bx (.own b)) b (.ins (He.ga K "Block") bx [])) := (same_new hbx).trans (same_new (by rw [upd_ne (Ne.symm ne)]; exact hb))
  have nhd : NoL (.tuple [.str d.1, .int d.2.1]) := .tup fun x hx => by
    simp only [List.mem_cons, List.not_mem_nil, or_false] at hx
    rcases hx with rfl | rfl
    · exact .str _
    · exact .int _
  refine ⟨b, bx, .ref t, [.str d.1, .int d.2.1], 1, rfl, upd_same, dp_same s4 (.tup (.of e3) (.cons (.str _) (.cons (.int _) .nil))), nhd, fun A H5 eb b5 kA ndA nA1 nA2 => ⟨rfl, ?_⟩⟩
  have s35 : Same H3 H5 := fun x o e => b5 _ _ (ne_of_none e (by rw [eb] at *; exact hb)) (s4 _ _ e)
  refine ⟨(by show 1 ≤ sizeLine; decide), fun ra nra => ?_⟩
  have s6 := same_new (o := .lst [.ref b]) nra
  have e6 : upd H5 ra (.lst [.ref b]) ra = some (.lst [.ref b]) := upd_same
  generalize upd H5 ra (.lst [.ref b]) = H6 at s6 e6 ⊢
  have s25 := s3.trans s35
  have s26 := s25.trans s6
  have i6 := s26 _ _ i2
  refine ⟨_, rfl, D.d, _, D.dx, _, rfl, i6, T.c_Draft, T.n_Draft_around, (by show 3 < 1000; decide), ?_⟩
  rw [df_putR]
  have b7 : But D.d H6 (upd H6 D.d (.ins (He.ga K "Draft") D.dx (dfl D.ca ra l))) := But.upd
  have i7 : upd H6 D.d (.ins (He.ga K "Draft") D.dx (dfl D.ca ra l)) D.d = some (.ins (He.ga K "Draft") D.dx (dfl D.ca ra l)) := upd_same
  generalize upd H6 D.d (.ins (He.ga K "Draft") D.dx (dfl D.ca ra l)) = H7 at b7 i7 ⊢
  have ch6 : Ch H6 D.d := .ins i6
  obtain ⟨cv, c1, c2⟩ := hd.ce
  have nd := hd.nd
  have ncd : D.ca ≠ D.d := fun z => by
    unfold DA.own at nd
    exact (List.nodup_cons.mp nd).1 (z ▸ List.mem_cons_self)
  have c12 := b2 _ _ ncd (s1 _ _ c1)
  have c16 := s26 _ _ c12
  -- nothing of the block stood there
  have own3 : ∀ y ∈ A.own, H3 y = none := fun y hy => by
    simp only [BA.own, List.mem_cons, List.not_mem_nil, or_false] at hy
    rcases hy with rfl | rfl | rfl
    · rw [eb]; exact hb
    · exact none_of s4 nA1
    · exact none_of s4 nA2
  have i3 := s3 _ _ i2
  have dif : ∀ {x : Addr} {o : HO}, H3 x = some o → ∀ y ∈ A.own, x ≠ y := fun e y hy z => by
    have := own3 y hy
    rw [← z, e] at this
    cases this
  have kA5 := kA
  have raA : ∀ y ∈ A.own, ra ≠ y := fun y hy z => by
    obtain ⟨o, e⟩ := kA5.is y hy
    rw [← z, nra] at e
    cases e
  have i5 := s25 _ _ i2
  have nrd : ra ≠ D.d := fun z => by rw [z, i5] at nra; cases nra
  have nrc : ra ≠ D.ca := fun z => by rw [z, s25 _ _ c12] at nra; cases nra
  have nrl : ra ≠ l := fun z => by rw [z, s25 _ _ hl2] at nra; cases nra
  have ncl : D.ca ≠ l := fun z => by rw [← z, c1] at nl; cases nl
  have up : ∀ {x : Addr} {o : HO}, x ≠ D.d → H x = some o → H2 x = some o := fun n e => b2 _ _ n (s1 _ _ e)
  refine q ⟨D.d, D.dx, D.ca, ra, l, [A]⟩ H7 rfl ((((BtS.same s1).trans (BtS.but b2 (by simp [DA.own]))).trans (BtS.same s26)).trans (BtS.but b7 (by simp [DA.own]))) ⟨i7, ⟨cv, b7 _ _ ncd c16, dps_but ch6 b7 (dps_same s26 (dps_but ch1 b2 (dps_same s1 c2) ?_)) ?_⟩, ?_, ⟨us, b7 _ _ ndl (s26 _ _ hl2), dps_but ch6 b7 (dps_same s26 hus2) hd.noL⟩, hd.noL, rfl, fun i B x eB ex => ?_, ?_⟩ fun x hx => ?_
  · exact fun d' hd' => by obtain ⟨y, _, rfl⟩ := List.mem_map.mp hd'; exact cell_noL y
  · exact fun d' hd' => by obtain ⟨y, _, rfl⟩ := List.mem_map.mp hd'; exact cell_noL y
  · show H7 ra = some (.lst [.ref A.b])
    rw [eb]
    exact b7 _ _ nrd e6
  · cases i with
    | zero =>
      cases (Option.some.inj eB)
      cases (Option.some.inj ex)
      exact (kA5.same s6).bts (S := [D.d]) (fun y hy => by rw [List.mem_singleton.mp hy]; exact ch6) (BtS.but b7 (List.mem_singleton.mpr rfl)) fun y hy z => dif i3 y hy (List.mem_singleton.mp z).symm
    | succ i => simp at eB
  · show ([D.d, D.ca, ra, l] ++ (A.own ++ [])).Nodup
    rw [List.append_nil, List.nodup_append]
    refine ⟨by simp [Ne.symm ncd, Ne.symm nrd, Ne.symm ndl, Ne.symm nrc, ncl, nrl], ndA, fun x hx y hy => ?_⟩
    simp only [List.mem_cons, List.not_mem_nil, or_false] at hx
    rcases hx with rfl | rfl | rfl | rfl
    · exact dif i3 y hy
    · exact dif (s3 _ _ c12) y hy
    · exact raA y hy
    · exact dif (s3 _ _ hl2) y hy
  · have hx : x ∈ [D.d, D.ca, ra, l] ++ (A.own ++ []) := hx
    rw [List.append_nil] at hx
    rcases List.mem_append.mp hx with hx | hx
    · simp only [List.mem_cons, List.not_mem_nil, or_false] at hx
      rcases hx with rfl | rfl | rfl | rfl
      · exact .inl (by simp [DA.own])
      · exact .inl (by simp [DA.own])
      · refine .inr ?_
        cases e : H x with
        | none => rfl
        | some o => rw [s25 _ _ (up nrd e)] at nra; cases nra
      · exact .inr nl
    · refine .inr ?_
      cases e : H x with
      | none => rfl
      | some o =>
        have n : x ≠ D.d := fun z => dif i3 x hx z.symm
        have := own3 x hx
        rw [s3 _ _ (up n e)] at this
        cases this
end
end Tx

end M

set_option Elab.async false
set_option linter.all false
set_option maxRecDepth 100000
set_option maxHeartbeats 2000000
namespace M
open PySem PySem.Spec PyProof.Rows L2

/-! ### the last block of a draft -/
section
variable {K : PySem.W.Frag} {H H' : Hp} {D : DA} {s : Dr}
def DA.top (D : DA) : List Addr := [D.d, D.ca, D.ra, D.pa]
theorem own_app (D : DA) (Bs : List BA) (A : BA) : ({ D with bs := Bs ++ [A] } : DA).own = (D.top ++ Bs.flatMap BA.own) ++ A.own := by
  show D.d :: D.ca :: D.ra :: D.pa :: (Bs ++ [A]).flatMap BA.own = _
  rw [List.flatMap_append, List.flatMap_cons, List.flatMap_nil, List.append_nil]
  simp [DA.top]
theorem own_bs (D : DA) : D.own = D.top ++ D.bs.flatMap BA.own := by simp [DA.own, DA.top]
theorem DrAt.last {xs : List Blk} {x : Blk} (h : DrAt K H D s) (e : s.around = xs ++ [x]) : ∃ Bs A, D.bs = Bs ++ [A] ∧ Bs.length = xs.length ∧ BlkAt K H A x ∧ ∀ (i : Nat) (B : BA) (y : Blk), Bs[i]? = some B → xs[i]? = some y → BlkAt K H B y := by
  have l := h.bl
  rw [e, List.length_append, List.length_singleton] at l
  rcases List.eq_nil_or_concat D.bs with z | ⟨Bs, A, z⟩
  · rw [z] at l
    cases l
  · have z : D.bs = Bs ++ [A] := by rw [z, List.concat_eq_append]
    have lB : Bs.length = xs.length := by rw [z, List.length_append, List.length_singleton] at l; omega
    refine ⟨Bs, A, z, lB, h.bk Bs.length A x (by rw [z, List.getElem?_append_right (Nat.le_refl _), Nat.sub_self]; rfl) (by rw [e, lB, List.getElem?_append_right (Nat.le_refl _), Nat.sub_self]; rfl), fun i B y e1 e2 => h.bk i B y ?_ ?_⟩
    · rw [z, List.getElem?_append_left (List.getElem?_eq_some_iff.mp e1).1]
      exact e1
    · rw [e, List.getElem?_append_left (List.getElem?_eq_some_iff.mp e2).1]
      exact e2
theorem DrAt.apart {Bs : List BA} {A : BA} (h : DrAt K H D s) (e : D.bs = Bs ++ [A]) : A.own.Nodup ∧ (D.top ++ Bs.flatMap BA.own).Nodup ∧ ∀ x ∈ D.top ++ Bs.flatMap BA.own, x ∉ A.own := by
  have nd := h.nd
  rw [own_bs, e, List.flatMap_append, List.flatMap_cons, List.flatMap_nil, List.append_nil, ← List.append_assoc, List.nodup_append] at nd
  exact ⟨nd.2.1, nd.1, fun x hx hy => nd.2.2 x hx x hy rfl⟩
theorem mem_own {Bs : List BA} {A B : BA} {i : Nat} (e : Bs[i]? = some B) {y : Addr} (hy : y ∈ B.own) : y ∈ D.top ++ Bs.flatMap BA.own := List.mem_append_right _ (List.mem_flatMap.mpr ⟨B, List.mem_of_getElem? e, hy⟩)
/-- the last block changes -/
theorem DrAt.setLast {xs : List Blk} {x x' : Blk} {Bs : List BA} {A A' : BA} (h : DrAt K H D s) (es : s.around = xs ++ [x]) (eD : D.bs = Bs ++ [A]) (b : BtS A.own H H') (k : BlkAt K H' A' x') (eb : A'.b = A.b) (nd : A'.own.Nodup) (fr : ∀ y ∈ A'.own, y ∈ A.own ∨ H y = none) :
    DrAt K H' { D with bs := Bs ++ [A'] } { s with around := xs ++ [x'] } ∧ ∀ y ∈ ({ D with bs := Bs ++ [A'] } : DA).own, y ∈ D.own ∨ H y = none := by
  obtain ⟨nA, nT, dis⟩ := h.apart eD
  have lB : Bs.length = xs.length := by
    have l := h.bl
    rw [eD, es, List.length_append, List.length_append, List.length_singleton, List.length_singleton] at l
    omega
  have old : ∀ y ∈ D.top ++ Bs.flatMap BA.own, y ∈ D.own := fun y hy => by
    rw [own_bs, eD, List.flatMap_append]
    rcases List.mem_append.mp hy with hy | hy
    · exact List.mem_append_left _ hy
    · exact List.mem_append_right _ (List.mem_append_left _ hy)
  have oldA : ∀ y ∈ A.own, y ∈ D.own := fun y hy => by
    rw [own_bs, eD, List.flatMap_append]
    exact List.mem_append_right _ (List.mem_append_right _ (by simpa using hy))
  have chA : ∀ y ∈ A.own, Ch H y := fun y hy => h.ch y (oldA y hy)
  have top : ∀ y ∈ D.top, y ∉ A.own := fun y hy => dis y (List.mem_append_left _ hy)
  obtain ⟨cv, c1, c2⟩ := h.ce
  obtain ⟨us, p1, p2⟩ := h.pa
  refine ⟨⟨b _ _ (top _ (by simp [DA.top])) h.ins, ⟨cv, b _ _ (top _ (by simp [DA.top])) c1, dps_bts chA b c2 fun d hd => ?_⟩, ?_, ⟨us, b _ _ (top _ (by simp [DA.top])) p1, dps_bts chA b p2 h.np⟩, h.np, ?_, fun i B y e1 e2 => ?_, ?_⟩, fun y hy => ?_⟩
  · obtain ⟨q, _, rfl⟩ := List.mem_map.mp hd
    exact cell_noL q
  · have e : (Bs ++ [A']).map (fun A => V.ref A.b) = D.bs.map fun A => V.ref A.b := by rw [eD, List.map_append, List.map_append, List.map_cons, List.map_cons, eb]
    show H' D.ra = some (.lst ((Bs ++ [A']).map fun A => V.ref A.b))
    rw [e]
    exact b _ _ (top _ (by simp [DA.top])) h.ar
  · show (Bs ++ [A']).length = (xs ++ [x']).length
    rw [List.length_append, List.length_append, lB]
    rfl
  · have e1 : (Bs ++ [A'])[i]? = some B := e1
    have e2 : (xs ++ [x'])[i]? = some y := e2
    rcases Nat.lt_or_ge i Bs.length with lt | ge
    · rw [List.getElem?_append_left lt] at e1
      rw [List.getElem?_append_left (by omega)] at e2
      refine (h.bk i B y (by rw [eD, List.getElem?_append_left lt]; exact e1) (by rw [es, List.getElem?_append_left (by omega)]; exact e2)).bts chA b fun z hz => dis z (mem_own (A := A) e1 hz)
    · rw [List.getElem?_append_right ge] at e1
      rw [List.getElem?_append_right (by omega), ← lB] at e2
      cases ez : i - Bs.length with
      | zero =>
        rw [ez] at e1 e2
        cases (Option.some.inj e1)
        cases (Option.some.inj e2)
        exact k
      | succ n => rw [ez] at e1; simp at e1
  · rw [own_app, List.nodup_append]
    refine ⟨nT, nd, fun y hy z hz e => ?_⟩
    subst e
    rcases fr y hz with h1 | h1
    · exact dis y hy h1
    · obtain ⟨o, e⟩ := h.is y (old y hy)
      rw [h1] at e
      cases e
  · rw [own_app] at hy
    rcases List.mem_append.mp hy with hy | hy
    · exact .inl (old y hy)
    · rcases fr y hy with h1 | h1
      · exact .inl (oldA y h1)
      · exact .inr h1
/-- the last block is taken away -/
theorem DrAt.pop {xs : List Blk} {x : Blk} {Bs : List BA} {A : BA} (h : DrAt K H D s) (es : s.around = xs ++ [x]) (eD : D.bs = Bs ++ [A]) (b : But D.ra H H') (e : H' D.ra = some (.lst (Bs.map fun A => V.ref A.b))) : DrAt K H' { D with bs := Bs } { s with around := xs } ∧ BlkAt K H' A x := by
  obtain ⟨nA, nT, dis⟩ := h.apart eD
  have lB : Bs.length = xs.length := by
    have l := h.bl
    rw [eD, es, List.length_append, List.length_append, List.length_singleton, List.length_singleton] at l
    omega
  have ch : Ch H D.ra := .lst h.ar
  have nn : D.d ≠ D.ra ∧ D.ca ≠ D.ra ∧ D.pa ≠ D.ra := by
    have n := (List.nodup_append.mp nT).1
    simp only [DA.top, List.nodup_cons, List.mem_cons, List.not_mem_nil, or_false, not_or] at n
    exact ⟨n.1.2.1, n.2.1.1, Ne.symm n.2.2.1⟩
  have bA : ∀ {B : BA} {y : Blk}, D.ra ∉ B.own → BlkAt K H B y → BlkAt K H' B y := fun nb k => k.bts (S := [D.ra]) (fun z hz => by rw [List.mem_singleton.mp hz]; exact ch) (BtS.but b (List.mem_singleton.mpr rfl)) fun z hz m => nb (List.mem_singleton.mp m ▸ hz)
  obtain ⟨cv, c1, c2⟩ := h.ce
  obtain ⟨us, p1, p2⟩ := h.pa
  refine ⟨⟨b _ _ nn.1 h.ins, ⟨cv, b _ _ nn.2.1 c1, dps_but ch b c2 fun d hd => ?_⟩, e, ⟨us, b _ _ nn.2.2 p1, dps_but ch b p2 h.np⟩, h.np, lB, fun i B y e1 e2 => ?_, ?_⟩, ?_⟩
  · obtain ⟨q, _, rfl⟩ := List.mem_map.mp hd
    exact cell_noL q
  · have e1 : Bs[i]? = some B := e1
    have e2 : xs[i]? = some y := e2
    have lt := (List.getElem?_eq_some_iff.mp e1).1
    refine bA (fun z => ?_) (h.bk i B y (by rw [eD, List.getElem?_append_left lt]; exact e1) (by rw [es, List.getElem?_append_left (by omega)]; exact e2))
    exact (List.nodup_append.mp nT).2.2 D.ra (by simp [DA.top]) D.ra (List.mem_flatMap.mpr ⟨B, List.mem_of_getElem? e1, z⟩) rfl
  · rw [own_bs]
    exact nT
  · refine bA (dis D.ra (List.mem_append_left _ (by simp [DA.top]))) (h.bk Bs.length A x (by rw [eD, List.getElem?_append_right (Nat.le_refl _), Nat.sub_self]; rfl) (by rw [es, lB, List.getElem?_append_right (Nat.le_refl _), Nat.sub_self]; rfl))
/-- a block is put to the others -/
theorem DrAt.push {x : Blk} {A : BA} (h : DrAt K H D s) (k : BlkAt K H A x) (nd : A.own.Nodup) (dis : ∀ y ∈ A.own, y ∉ D.own) (b : But D.ra H H') (e : H' D.ra = some (.lst ((D.bs.map fun A => V.ref A.b) ++ [.ref A.b]))) : DrAt K H' { D with bs := D.bs ++ [A] } { s with around := s.around ++ [x] } := by
  have ch : Ch H D.ra := .lst h.ar
  have nT := h.nd
  rw [own_bs] at nT
  have nn : D.d ≠ D.ra ∧ D.ca ≠ D.ra ∧ D.pa ≠ D.ra := by
    have n := (List.nodup_append.mp nT).1
    simp only [DA.top, List.nodup_cons, List.mem_cons, List.not_mem_nil, or_false, not_or] at n
    exact ⟨n.1.2.1, n.2.1.1, Ne.symm n.2.2.1⟩
  have bA : ∀ {B : BA} {y : Blk}, D.ra ∉ B.own → BlkAt K H B y → BlkAt K H' B y := fun nb k => k.bts (S := [D.ra]) (fun z hz => by rw [List.mem_singleton.mp hz]; exact ch) (BtS.but b (List.mem_singleton.mpr rfl)) fun z hz m => nb (List.mem_singleton.mp m ▸ hz)
  have raO : D.ra ∈ D.own := by simp [DA.own]
  obtain ⟨cv, c1, c2⟩ := h.ce
  obtain ⟨us, p1, p2⟩ := h.pa
  refine ⟨b _ _ nn.1 h.ins, ⟨cv, b _ _ nn.2.1 c1, dps_but ch b c2 fun d hd => ?_⟩, ?_, ⟨us, b _ _ nn.2.2 p1, dps_but ch b p2 h.np⟩, h.np, ?_, fun i B y e1 e2 => ?_, ?_⟩
  · obtain ⟨q, _, rfl⟩ := List.mem_map.mp hd
    exact cell_noL q
  · show H' D.ra = some (.lst ((D.bs ++ [A]).map fun A => V.ref A.b))
    rw [List.map_append]
    exact e
  · show (D.bs ++ [A]).length = (s.around ++ [x]).length
    rw [List.length_append, List.length_append, h.bl]
    rfl
  · have e1 : (D.bs ++ [A])[i]? = some B := e1
    have e2 : (s.around ++ [x])[i]? = some y := e2
    have l := h.bl
    rcases Nat.lt_or_ge i D.bs.length with lt | ge
    · rw [List.getElem?_append_left lt] at e1
      rw [List.getElem?_append_left (by omega)] at e2
      refine bA (fun z => ?_) (h.bk i B y e1 e2)
      exact (List.nodup_append.mp nT).2.2 D.ra (by simp [DA.top]) D.ra (List.mem_flatMap.mpr ⟨B, List.mem_of_getElem? e1, z⟩) rfl
    · rw [List.getElem?_append_right ge] at e1
      rw [List.getElem?_append_right (by omega), ← l] at e2
      cases ez : i - D.bs.length with
      | zero =>
        rw [ez] at e1 e2
        cases (Option.some.inj e1)
        cases (Option.some.inj e2)
        exact bA (fun z => dis _ z raO) k
      | succ n => rw [ez] at e1; simp at e1
  · rw [own_app, List.nodup_append]
    refine ⟨nT, nd, fun y hy z hz e => ?_⟩
    subst e
    exact dis y hz (by rw [own_bs]; exact hy)
end

end M

set_option Elab.async false
set_option linter.all false
set_option maxRecDepth 100000
set_option maxHeartbeats 2000000
namespace M
open PySem PySem.Spec PyProof.Rows L2

theorem last_at {α : Type} (f : α → V) (l : List α) (a : α) : atI ((l ++ [a]).map f) (-1) = some (f a) := by
  have h := atI_last (l.map f) (f a)
  rw [List.map_append]
  exact h
theorem BA.ne {A : BA} (nd : A.own.Nodup) : A.b ≠ A.oa ∧ A.b ≠ A.la ∧ A.oa ≠ A.la := by
  have nd : [A.b, A.oa, A.la].Nodup := nd
  simp only [List.nodup_cons, List.mem_cons, List.not_mem_nil, or_false, not_or] at nd
  exact ⟨nd.1.1, nd.1.2, nd.2.1⟩
namespace Tx
section
variable {P : Program} {w : World} {K : PySem.W.Frag} {mg : Str → Option Value} {base : Heap}
def spTkEls (K : PySem.W.Frag) : Sp := fun vs H Q _ => ∃ (D : DA) (s : Dr) (xs : List Blk) (x : Blk), vs = [.ref D.d] ∧ DrAt K H D s ∧ Fit 99999 s ∧ s.around = xs ++ [x] ∧ 1 ≤ xs.length ∧ x.parts = x.over.length + 2 ∧ TakeQ K H D { s with around := xs ++ [{ x with over := x.over ++ [.tuple x.listed], listed := [] }] } Q
theorem me_Draft_take_else (T : Txt w K mg) : Me P w K mg base 3 (He.ga K "Draft") "_take_else" (spTkEls K) := by
  refine me_of (N := ["self"]) (ps := ["self"]) T.f_Draft_take_else T.c_Draft T.m_Draft_take_else ⟨rfl, rfl, rfl, by decide +kernel, rfl, by decide +kernel, by decide +kernel⟩ (fun _ _ _ _ _ _ us hl => match us, hl with | [_], _ => rfl)
    (fun vs H Q E h => by obtain ⟨D, s, xs, x, rfl, hd, ft, es, h1, h2, q⟩ := h; rfl) (fun cdv A outer s H vs Q E hr h => ?_)
  have nd : (["self"] : List Str).Nodup := by decide +kernel
  obtain ⟨D, s, xs, x, rfl, hd, ft, es, h1, h2, q⟩ := h
  refine ⟨_, (pss_cons (ps_if (PW.pt (pw_or (pt_cmpR op_le (pe_callB call_len_seq (by rfl) T.b_len PySem.boot_len (pa_cons (pe_fld (pv 0) rfl) pa_nil)) pe_int (nomark _)) (pw_or1 (pt_cmpR op_ne (pe_me0 (Tx.me_Block_left T) hr (pe_ix ix_list (pe_fld (pv 0) rfl) (pe_un un_neg pe_int) (fun _ _ => rfl))) pe_int (nomark _))))) (pss_one (ps_ret pe_bl)) pss_nil)
      (pss_cons (ps_expr (pe_me0 (Tx.me_Block_turn T) hr (pe_ix ix_list (pe_fld (pv 0) rfl) (pe_un un_neg pe_int) (fun _ _ => rfl))))
      (pss_one (ps_ret pe_bl)))), ?_⟩
  obtain ⟨Bs, A, eD, lB, k, _⟩ := hd.last es
  obtain ⟨nA, _, _⟩ := hd.apart eD
  have nn := BA.ne nA
  have ar := hd.ar
  have la := last_at (fun A : BA => V.ref A.b) Bs A
  rw [eD] at ar
  have fo := (ft.b x (by rw [es]; exact List.mem_append_right _ List.mem_cons_self)).1
  refine ⟨_, rfl, D.d, _, D.dx, _, _, rfl, hd.ins, T.c_Draft, T.n_Draft_around, df_around .., _, _, rfl, .inl (.of ar), _, _, rfl, rfl, _, rfl, ?_⟩
  rw [decide_eq_false (show ¬ (((Bs ++ [A]).map fun A => V.ref A.b).length : Nat) ≤ (1 : Int) by rw [List.length_map, List.length_append, List.length_singleton]; omega)]
  refine iteF ⟨_, rfl, D.d, _, D.dx, _, _, rfl, hd.ins, T.c_Draft, T.n_Draft_around, df_around .., _, rfl, _, _, _, _, rfl, rfl, .of ar, la, A.b, A.dx, _, rfl, k.ins, (bf_no ..).1, A, x, rfl, k, rfl, _, rfl, ?_⟩
  rw [decide_eq_true (show V.int ((x.parts : Nat) - (x.over.length : Nat) : Int) = V.int 2 by congr 1; omega)]
  refine iteF ⟨_, rfl, D.d, _, D.dx, _, _, rfl, hd.ins, T.c_Draft, T.n_Draft_around, df_around .., _, rfl, _, _, _, _, rfl, rfl, .of ar, la, A.b, A.dx, _, rfl, k.ins, (bf_no ..).2.1, A, x, rfl, k, nA, by omega, fun l H' nl bt k' _ => ?_⟩
  have nb : l ≠ A.b := fun z => by rw [z, k.ins] at nl; cases nl
  have no : l ≠ A.oa := fun z => by obtain ⟨_, o1, _⟩ := k.ov; rw [z, o1] at nl; cases nl
  obtain ⟨r1, r2⟩ := hd.setLast es eD bt k' rfl (by show [A.b, A.oa, l].Nodup; simp [nn.1, Ne.symm nb, Ne.symm no]) fun y hy => by
    have hy : y ∈ [A.b, A.oa, l] := hy
    simp only [List.mem_cons, List.not_mem_nil, or_false] at hy
    rcases hy with rfl | rfl | rfl
    · exact .inl (by simp [BA.own])
    · exact .inl (by simp [BA.own])
    · exact .inr nl
  exact q { D with bs := Bs ++ [{ A with la := l }] } H' rfl (bt.mono fun y hy => by rw [own_bs, eD, List.flatMap_append]; exact List.mem_append_right _ (List.mem_append_right _ (by simpa using hy))) r1 r2
def spTkEnd (K : PySem.W.Frag) : Sp := fun vs H Q _ => ∃ (D : DA) (s : Dr) (xs : List Blk) (a x : Blk), vs = [.ref D.d] ∧ DrAt K H D s ∧ Fit 99999 s ∧ (∀ b ∈ s.around, b.head ≠ [] ∧ b.head.length ≤ 100) ∧ s.around = xs ++ [a, x] ∧ x.parts = x.over.length + 1 ∧ TakeQ K H D { s with around := xs ++ [{ a with listed := a.listed ++ [.tuple (x.head ++ (x.over ++ [.tuple x.listed]))] }] } Q
theorem me_Draft_take_end (T : Txt w K mg) : Me P w K mg base 3 (He.ga K "Draft") "_take_end" (spTkEnd K) := by
  refine me_of (N := ["self", "block"]) (ps := ["self"]) T.f_Draft_take_end T.c_Draft T.m_Draft_take_end ⟨rfl, rfl, rfl, by decide +kernel, rfl, by decide +kernel, by decide +kernel⟩ (fun _ _ _ _ _ _ us hl => match us, hl with | [_], _ => rfl)
    (fun vs H Q E h => by obtain ⟨D, s, xs, a, x, rfl, hd, ft, hhd, es, h2, q⟩ := h; rfl) (fun cdv A outer s H vs Q E hr h => ?_)
  have nd : (["self", "block"] : List Str).Nodup := by decide +kernel
  obtain ⟨D, s, xs, a, x, rfl, hd, ft, hhd, es, h2, q⟩ := h
  refine ⟨_, (pss_cons (ps_if (PW.pt (pw_or (pt_cmpR op_le (pe_callB call_len_seq (by rfl) T.b_len PySem.boot_len (pa_cons (pe_fld (pv 0) rfl) pa_nil)) pe_int (nomark _)) (pw_or1 (pt_cmpR op_ne (pe_me0 (Tx.me_Block_left T) hr (pe_ix ix_list (pe_fld (pv 0) rfl) (pe_un un_neg pe_int) (fun _ _ => rfl))) pe_int (nomark _))))) (pss_one (ps_ret pe_bl)) pss_nil)
      (pss_cons (ps_set (i := 1) nd rfl (.inl rfl) (pe_bm0 PySem.F.plainAttrs_list PySem.F.slot_list_pop PySem.F.type_list_pop mt_pop (pe_fld (pv 0) rfl)))
      (pss_cons (ps_expr (pe_me0 (Tx.me_Block_turn T) hr (pv 1)))
      (pss_cons (ps_expr (pe_bm PySem.F.plainAttrs_list PySem.F.slot_list_append PySem.F.type_list_append mt_append (pe_fld (pe_ix ix_list (pe_fld (pv 0) rfl) (pe_un un_neg pe_int) (fun _ _ => rfl)) rfl) (pa_cons (pe_me0 (Tx.me_Block_whole T) hr (pv 1)) pa_nil)))
      (pss_one (ps_ret pe_bl)))))), ?_⟩
  have es : s.around = (xs ++ [a]) ++ [x] := by rw [es, List.append_assoc]; rfl
  obtain ⟨Bs, A, eD, lB, k, _⟩ := hd.last es
  obtain ⟨nA, nT, dis⟩ := hd.apart eD
  have nn := BA.ne nA
  have ar := hd.ar
  have la := last_at (fun A : BA => V.ref A.b) Bs A
  have ed : D.bs.map (fun A => V.ref A.b) = (Bs ++ [A]).map fun A => V.ref A.b := by rw [eD]
  rw [ed] at ar
  have mx : x ∈ s.around := by rw [es]; exact List.mem_append_right _ List.mem_cons_self
  have ma : a ∈ s.around := by rw [es]; exact List.mem_append_left _ (List.mem_append_right _ List.mem_cons_self)
  have fo := (ft.b x mx).1
  have fa := (ft.b a ma).2
  rw [List.length_append, List.length_singleton] at lB
  refine ⟨_, rfl, D.d, _, D.dx, _, _, rfl, hd.ins, T.c_Draft, T.n_Draft_around, df_around .., _, _, rfl, .inl (.of ar), _, _, rfl, rfl, _, rfl, ?_⟩
  rw [decide_eq_false (show ¬ (((Bs ++ [A]).map fun A => V.ref A.b).length : Nat) ≤ (1 : Int) by rw [List.length_map, List.length_append, List.length_singleton]; omega)]
  refine iteF ⟨_, rfl, D.d, _, D.dx, _, _, rfl, hd.ins, T.c_Draft, T.n_Draft_around, df_around .., _, rfl, _, _, _, _, rfl, rfl, .of ar, la, A.b, A.dx, _, rfl, k.ins, (bf_no ..).1, A, x, rfl, k, rfl, _, rfl, ?_⟩
  rw [decide_eq_true (show V.int ((x.parts : Nat) - (x.over.length : Nat) : Int) = V.int 1 by congr 1; omega)]
  refine iteF ⟨_, rfl, D.d, _, D.dx, _, _, rfl, hd.ins, T.c_Draft, T.n_Draft_around, df_around .., .inl ⟨rfl, _, .of ar⟩, D.ra, _, .ref A.b, rfl, rfl, ar, by rw [List.length_map, List.length_append, List.length_singleton, Nat.add_sub_cancel, List.map_append, List.getElem?_append_right (by rw [List.length_map]; exact Nat.le_refl _), List.length_map, Nat.sub_self]; rfl, ?_⟩
  have edl : ((Bs ++ [A]).map fun A => V.ref A.b).dropLast = Bs.map fun A => V.ref A.b := by rw [List.map_append]; simp
  rw [edl]
  have b1 : But D.ra H (upd H D.ra (.lst (Bs.map fun A => V.ref A.b))) := But.upd
  have e1 : upd H D.ra (.lst (Bs.map fun A => V.ref A.b)) D.ra = some (.lst (Bs.map fun A => V.ref A.b)) := upd_same
  generalize upd H D.ra (.lst (Bs.map fun A => V.ref A.b)) = H1 at b1 e1 ⊢
  obtain ⟨hd1, k1⟩ := hd.pop es eD b1 e1
  have nA1 : ∀ y ∈ A.own, y ∉ ({ D with bs := Bs } : DA).own := fun y hy z => dis y (by rw [own_bs] at z; exact z) hy
  refine ⟨_, rfl, A.b, A.dx, _, rfl, k1.ins, (bf_no ..).2.1, A, x, rfl, k1, nA, by omega, fun l H2 nl bt k2 _ => ?_⟩
  have ch1 : ∀ y ∈ A.own, Ch H1 y := k1.ch
  have hd2 := hd1.bts ch1 bt fun y hy z => nA1 y z hy
  obtain ⟨Bs0, Aa, eD2, lB2, ka, _⟩ := hd2.last (xs := xs) (x := a) rfl
  have eD2 : Bs = Bs0 ++ [Aa] := eD2
  obtain ⟨nAa, _, dis2⟩ := hd2.apart eD2
  have nna := BA.ne nAa
  have ar2 := hd2.ar
  have ar2 : H2 D.ra = some (.lst ((Bs0 ++ [Aa]).map fun A => V.ref A.b)) := by rw [← eD2]; exact ar2
  have la2 := last_at (fun A : BA => V.ref A.b) Bs0 Aa
  obtain ⟨ls, l1, l2⟩ := ka.li
  have lls := dps_len l2
  obtain ⟨hh1, hh2⟩ := hhd x mx
  refine ⟨_, rfl, D.d, _, D.dx, _, _, rfl, hd2.ins, T.c_Draft, T.n_Draft_around, df_around .., _, rfl, _, _, _, _, rfl, rfl, .of ar2, la2, Aa.b, _, Aa.dx, _, _, rfl, ka.ins, T.c_Block, T.n_Block_listed, bf_listed .., .inl ⟨rfl, _, .of l1⟩, _, rfl, A.b, A.dx, _, rfl, k2.ins, (bf_no ..).2.2, { A with la := l }, _, rfl, k2, hh1, hh2, (by show x.over ++ [_] ≠ []; simp), fun v H3 s3 dv => ⟨Aa.la, _, _, rfl, rfl, s3 _ _ l1, by rw [lls, sizeLine_eq]; omega, ?_⟩⟩
  have hd3 := hd2.same s3
  have ka3 := ka.same s3
  have b4 : But Aa.la H3 (upd H3 Aa.la (.lst (ls ++ [v]))) := But.upd
  have e4 : upd H3 Aa.la (.lst (ls ++ [v])) Aa.la = some (.lst (ls ++ [v])) := upd_same
  generalize upd H3 Aa.la (.lst (ls ++ [v])) = H4 at b4 e4 ⊢
  have nlv : NoL (.tuple (x.head ++ (x.over ++ [.tuple x.listed]))) := .tup fun d hd' => by
    rcases List.mem_append.mp hd' with h | h
    · have nh := k2.nh
      cases nh with | tup f => exact f d h
    · exact k2.no d h
  have ch3 : Ch H3 Aa.la := .lst (s3 _ _ l1)
  obtain ⟨vo, o1, o2⟩ := ka3.ov
  have k4 : BlkAt K H4 Aa { a with listed := a.listed ++ [.tuple (x.head ++ (x.over ++ [.tuple x.listed]))] } := ⟨b4 _ _ nna.2.1 ka3.ins, dp_but ch3 b4 ka3.hd ka3.nh, ⟨vo, b4 _ _ nna.2.2 o1, dps_but ch3 b4 o2 ka3.no⟩, ⟨_, e4, dps_snocT (dps_but ch3 b4 (dps_same s3 l2) ka3.nl) (dp_but ch3 b4 dv nlv)⟩, ka3.nh, ka3.no, (fun d hd' => by
    rcases List.mem_append.mp hd' with h | h
    · exact ka3.nl d h
    · rw [List.mem_singleton.mp h]
      exact nlv), ka3.f1, by rw [List.length_append, List.length_singleton]; omega⟩
  obtain ⟨r1, r2⟩ := hd3.setLast (xs := xs) rfl eD2 (BtS.but b4 (by simp [BA.own])) k4 rfl nAa fun y hy => .inl hy
  have sub : ∀ y ∈ ({ D with bs := Bs } : DA).own, y ∈ D.own := fun y hy => by
    rw [own_bs] at hy
    rw [own_bs, eD, List.flatMap_append, ← List.append_assoc]
    exact List.mem_append_left _ hy
  have subA : ∀ y ∈ A.own, y ∈ D.own := fun y hy => by
    rw [own_bs, eD, List.flatMap_append]
    exact List.mem_append_right _ (List.mem_append_right _ (by simpa using hy))
  refine q { D with bs := Bs0 ++ [Aa] } H4 rfl ((((BtS.but b1 (by simp [DA.own])).trans (bt.mono subA)).trans (BtS.same s3)).trans (BtS.but b4 (sub _ ?_))) r1 fun y hy => .inl (sub y ?_)
  · rw [own_bs]
    show Aa.la ∈ D.top ++ Bs.flatMap BA.own
    rw [eD2, List.flatMap_append]
    exact List.mem_append_right _ (List.mem_append_right _ (by simp [BA.own]))
  · show y ∈ ({ D with bs := Bs } : DA).own
    rw [eD2]
    exact hy
end
end Tx

end M

set_option Elab.async false
set_option linter.all false
set_option maxRecDepth 100000
set_option maxHeartbeats 2000000
namespace M
open PySem PySem.Spec PyProof.Rows L2

section
variable {X : Cx}
/-- x in t, t a tuple of data -/
theorem op_inTd (hu : X.A.units + 65 < cLine) : OpR X (compareOp .In) (fun x y H Q => ∃ d ds, Dp X.K H x d ∧ Dp X.K H y (.tuple ds) ∧ SeqAt.shaped d = true ∧ SeqAt.shaped (.tuple ds) = true ∧ Q (.bl (ds.any fun z => PyData.eqv z d)) H) := by
  intro pins s σ H x y v u Q I rx ry h
  obtain ⟨d, ds, hd, he, sd, se, q⟩ := h
  obtain ⟨as, r1⟩ := Dp.reads I d x v hd rx
  obtain ⟨bs, r2⟩ := Dp.reads I (.tuple ds) y u he ry
  exact SeqAt.in_tuple_reads r2 r1 (by have := SeqAt.canLay_of_shaped se; rw [PyData.canLay0] at this; exact this) (SeqAt.canLay_of_shaped sd) (room_in_shaped sd hu) ⟨.bl _, H, I, rfl, q⟩
end
namespace Tx
section
variable {P : Program} {w : World} {K : PySem.W.Frag} {mg : Str → Option Value} {base : Heap}
def spVal (K : PySem.W.Frag) : Sp := fun vs H Q _ => ∃ (p : Prt) (wd : Str) (c : Int) (deep loops : Nat), vs = [.str p.kind, .str wd] ∧ p.wd = some wd ∧ p.ok c deep loops ∧ c ≤ 9 ∧ ∀ (v : V) (H' : Hp), Same H H' → Dp K H' v p.d → Q v H'
theorem ca_value_in (T : Txt w K mg) : Ca P w K mg base 11 "value_in" (spVal K) := by
  refine ca_of (N := ["kind", "word", "number"]) (ps := ["kind", "word"]) T.f_value_in T.g_value_in ⟨rfl, rfl, rfl, by decide +kernel, rfl, by decide +kernel, by decide +kernel⟩ (fun _ _ _ _ _ _ us hl => match us, hl with | [_, _], _ => rfl)
    (fun vs H Q E h => by obtain ⟨p, wd, c, deep, loops, rfl, hw, ok, hc, q⟩ := h; rfl) (fun cdv A outer s H vs Q E hr h => ?_)
  have nd : (["kind", "word", "number"] : List Str).Nodup := by decide +kernel
  obtain ⟨p, wd, c, deep, loops, rfl, hw, ok, hc, q⟩ := h
  refine ⟨_, (pss_cons (ps_if (pt_cmpR op_eq (pv 0) pe_str (nomark _)) (pss_one (ps_ret (pe_ifExp (pt_cmpR op_in_seq (pv 1) (pe_gr T.g_CHANGED) (by rfl)) (pv 1) pe_non))) pss_nil)
      (pss_cons (ps_if (pt_cmpR op_eq (pv 0) pe_str (nomark _)) (pss_one (ps_ret (pe_ca (Y.ca_expression_in T) hr (pa_cons (pv 1) pa_nil)))) pss_nil)
      (pss_cons (ps_set (i := 2) nd rfl (.inl rfl) (pe_ca (G.ca_number_in T) hr (pa_cons (pv 1) pa_nil)))
      (pss_one (ps_ret (pe_ifExp (pt_cmpR op_ge (pv 2) pe_int (nomark _)) (pv 2) pe_non)))))), ?_⟩
  cases p with
  | rows rs => cases hw
  | reg r =>
    cases hw
    have ok : wd ∈ regs4 := ok
    have e : inV (.str wd) (regs4.map V.str) = true := by rw [inV_strs]; exact decide_eq_true ok
    refine ⟨_, rfl, rfl, _, rfl, ?_⟩
    rw [decide_eq_true (show V.str (Prt.kind (.reg wd)) = V.str "REG" from rfl)]
    refine iteT ⟨_, rfl, _, _, rfl, .inr (sq_CHANGED T H), rfl, flat_strs regs4, _, rfl, ?_⟩
    rw [if_neg (by decide), e]
    exact iteT ⟨_, rfl, q _ H (Same.refl _) (.str wd)⟩
  | ex e =>
    cases hw
    have ok : e.good := ok
    have hi : inE (TL.tl (estr e)) = some e := inE_iff.mpr ⟨good_EOk ok, rfl⟩
    refine ⟨_, rfl, rfl, _, rfl, ?_⟩
    rw [decide_eq_false (show ¬ V.str (Prt.kind (.ex e)) = V.str "REG" from fun z => (show ¬ (("E" : Str) = "REG") by decide +kernel) (V.str.inj z))]
    refine iteF ⟨_, rfl, rfl, _, rfl, ?_⟩
    rw [decide_eq_true (show V.str (Prt.kind (.ex e)) = V.str "E" from rfl)]
    refine iteT ⟨_, rfl, estr e, rfl, by have := estr_253 ok; omega, ?_⟩
    rw [hi]
    exact fun v H' s d => q v H' s d
  | cell k =>
    cases hw
    have ok : 0 ≤ k ∧ k < c := ok
    refine ⟨_, rfl, rfl, _, rfl, ?_⟩
    rw [decide_eq_false (show ¬ V.str (Prt.kind (.cell k)) = V.str "REG" from fun z => (show ¬ (("CELL" : Str) = "REG") by decide +kernel) (V.str.inj z))]
    refine iteF ⟨_, rfl, rfl, _, rfl, ?_⟩
    rw [decide_eq_false (show ¬ V.str (Prt.kind (.cell k)) = V.str "E" from fun z => (show ¬ (("CELL" : Str) = "E") by decide +kernel) (V.str.inj z))]
    refine iteF ⟨_, rfl, dg k, rfl, by rw [len_dg]; decide, fun i ni => ?_⟩
    obtain rfl := num_dg (a := k) ⟨by omega, by omega⟩ ni
    refine ⟨_, rfl, _, _, rfl, rfl, _, rfl, ?_⟩
    rw [decide_eq_true (show (0 : Int) ≤ i by omega)]
    exact iteT ⟨_, rfl, q _ H (Same.refl _) (.int i)⟩
end
end Tx

end M

set_option Elab.async false
set_option linter.all false
set_option maxRecDepth 100000
set_option maxHeartbeats 2000000
namespace M
open PySem PySem.Spec PyProof.Rows L2

def Row.sm (r : Row) : List Prt := r.prts.filter fun p => !p.isRows
def rowHead (r : Row) : List PyData := .str r.word :: r.sm.map Prt.d
theorem head_row {r : Row} (h : r.pn = 0) : r.d = .tuple (rowHead r) := by
  cases r <;> first | rfl | cases h
theorem head_opn {r : Row} (h : r.pn ≠ 0) : r.hd = rowHead r := by
  cases r <;> first | rfl | exact absurd rfl h
theorem sm_pn (r : Row) : r.prts.length = r.sm.length + r.pn := by cases r <;> rfl
theorem sm_wds : ∀ l : List Prt, l.filterMap Prt.wd = (l.filter fun p => !p.isRows).map fun p => estr p.xp
  | [] => rfl
  | p :: l => by
    cases e : p.isRows with
    | false => rw [List.filterMap_cons, prt_wd e, List.filter_cons_of_pos (by simp [e]), List.map_cons, sm_wds l]
    | true =>
      rw [List.filterMap_cons, List.filter_cons_of_neg (by simp [e]), ← sm_wds l]
      cases p with
      | rows _ => rfl
      | _ => cases e
theorem wds_sm (r : Row) : r.wds = r.word :: r.sm.map fun p => estr p.xp := by
  unfold Row.wds
  rw [sm_wds]
  rfl
theorem exp_lay : ∀ {e : Exp}, e.ok → e.d.canLay0 = true ∧ e.d.depth ≤ e.dep ∧ True
  | .num i, _ => ⟨by simp [Exp.d, PyData.canLay0], by simp [Exp.d, PyData.depth], trivial⟩
  | .reg r, h => ⟨by
      have h : r ∈ regs5 := h
      obtain ⟨c, rfl, hc⟩ := mem_regs.mp h
      show (PyData.str (sg1 c)).canLay0 = true
      rw [PyData.canLay0]
      rcases regC_cases hc with rfl | rfl | rfl | rfl | rfl <;> decide +kernel, by simp [Exp.d, PyData.depth], trivial⟩
  | .op s a b, ⟨h1, h2, h3⟩ => by
    obtain ⟨a1, a2, _⟩ := exp_lay h2
    obtain ⟨b1, b2, _⟩ := exp_lay h3
    obtain ⟨c, rfl, hc⟩ := mem_signs.mp h1
    refine ⟨?_, ?_, trivial⟩
    · have sc : (PyData.str (sg1 c)).canLay0 = true := by
        rw [PyData.canLay0]
        rcases opC_cases hc with rfl | rfl | rfl | rfl | rfl <;> decide +kernel
      show (PyData.tuple [.str (sg1 c), a.d, b.d]).canLay0 = true
      rw [PyData.canLay0, PyData.canLayAll0, PyData.canLayAll0, PyData.canLayAll0, PyData.canLayAll0, sc, a1, b1]
      rfl
    · show (PyData.tuple [.str (sg1 c), a.d, b.d]).depth ≤ Nat.max a.dep b.dep + 1
      rw [PyData.depth, PyData.depthAll, PyData.depthAll, PyData.depthAll, PyData.depthAll, PyData.depth]
      have h1 : a.d.depth ≤ Nat.max a.dep b.dep := Nat.le_trans a2 (Nat.le_max_left _ _)
      have h2 : b.d.depth ≤ Nat.max a.dep b.dep := Nat.le_trans b2 (Nat.le_max_right _ _)
      have h3 : max (0 : Nat) (max a.d.depth (max b.d.depth 0)) ≤ Nat.max a.dep b.dep := Nat.max_le.mpr ⟨Nat.zero_le _, Nat.max_le.mpr ⟨h1, Nat.max_le.mpr ⟨h2, Nat.zero_le _⟩⟩⟩
      omega
theorem lays_of : ∀ {ds : List PyData}, (∀ d ∈ ds, d.canLay0 = true ∧ d.depth ≤ 60) → PyData.canLayAll0 ds = true ∧ PyData.depthAll ds ≤ 60
  | [], _ => ⟨by rw [PyData.canLayAll0], by rw [PyData.depthAll]; exact Nat.zero_le _⟩
  | d :: ds, h => by
    obtain ⟨h1, h2⟩ := h d List.mem_cons_self
    obtain ⟨h3, h4⟩ := lays_of fun x hx => h x (List.mem_cons_of_mem _ hx)
    exact ⟨by rw [PyData.canLayAll0, h1, h3]; rfl, by rw [PyData.depthAll]; exact Nat.max_le.mpr ⟨h2, h4⟩⟩
theorem word_lay : ∀ s ∈ (["read", "set", "swap", "keep", "coin", "if", "times", "answer"] : List Str), PyData.strOk s = true := by decide +kernel
theorem head_shaped {c : Int} {deep loops : Nat} {r : Row} (ok : r.ok c deep loops) (hc : c ≤ 9) : SeqAt.shaped (.tuple (rowHead r)) = true ∧ (rowHead r).any (fun z => PyData.eqv z .none) = false := by
  have each : ∀ d ∈ rowHead r, d.canLay0 = true ∧ d.depth ≤ 60 := fun d hd => by
    rcases List.mem_cons.mp hd with rfl | hd
    · refine ⟨?_, by rw [PyData.depth]; decide⟩
      rw [PyData.canLay0]
      exact word_lay _ (by cases r <;> simp [Row.word])
    · obtain ⟨p, hp, rfl⟩ := List.mem_map.mp hd
      obtain ⟨hp1, hp2⟩ := List.mem_filter.mp hp
      have e : p.isRows = false := by simpa using hp2
      have pk := row_prts ok p hp1
      have x1 := (prt_xp e pk hc).1
      rw [← x1]
      have gd : p.xp.ok ∧ p.xp.dep ≤ 6 := by
        cases p with
        | reg r =>
          refine ⟨?_, Nat.zero_le _⟩
          have pk : r ∈ regs4 := pk
          show r ∈ regs5
          simp only [regs4, regs5, List.mem_cons] at pk ⊢
          rcases pk with h | h | h | h | h <;> simp [h]
        | cell k => exact ⟨by have pk : 0 ≤ k ∧ k < c := pk; show 0 ≤ k ∧ k ≤ 9; omega, Nat.zero_le _⟩
        | ex e => exact pk
        | rows rs => cases e
      obtain ⟨l1, l2, _⟩ := exp_lay gd.1
      exact ⟨l1, by omega⟩
  obtain ⟨l1, l2⟩ := lays_of each
  refine ⟨?_, ?_⟩
  · unfold SeqAt.shaped
    rw [PyData.canLay0, l1, PyData.depth, decide_eq_true (show PyData.depthAll (rowHead r) + 1 ≤ 64 by omega)]
    rfl
  · rw [List.any_eq_false]
    intro d hd
    have nn : d ≠ .none := fun z => by
      subst z
      rcases List.mem_cons.mp hd with h | h
      · cases h
      · obtain ⟨p, hp, e⟩ := List.mem_map.mp h
        cases p with
        | ex x => cases x <;> cases e
        | _ => cases e
    cases d <;> simp [PyData.eqv] at nn ⊢
theorem it_zipL {K : PySem.W.Frag} {a b : Addr} {xs ys : List V} (hl : xs.length = ys.length) {B : (Hp → Prop) → V → Hp → Prop} {H1 : Hp} {Qd : Hp → Prop} (Pv : Nat → Hp → Prop) (h0 : Pv 0 H1) (hq : ∀ i H, Pv i H → SqL K H a xs ∧ SqL K H b ys) (hs : ∀ (i : Nat) (x y : V) (T : Addr) (H : Hp), xs[i]? = some x → ys[i]? = some y → Pv i H → H T = none → B (Pv (i + 1)) (.ref T) (upd H T (.tup [x, y]))) (hd : ∀ H, Pv xs.length H → Qd H) :
    ∃ W : Nat → Nat → Hp → Prop, (∃ m, W 0 m H1) ∧ ∀ i m H, W i m H → ((Itz K a b).stop i H ∧ Qd H) ∨ ((Itz K a b).go i H ∧ ∃ Nx : Hp → Prop, (∀ H', Nx H' → ∃ m', m' < m ∧ W (i + 1) m' H') ∧ ∀ x H', (Itz K a b).yld i H x H' → B Nx x H') := by
  refine ⟨fun i m H => m = xs.length - i ∧ i ≤ xs.length ∧ Pv i H, ⟨xs.length, rfl, Nat.zero_le _, h0⟩, ?_⟩
  rintro i m H ⟨rfl, hi, p⟩
  obtain ⟨qx, qy⟩ := hq i H p
  by_cases hlt : i < xs.length
  · have hx : xs[i]? = some xs[i] := List.getElem?_eq_getElem hlt
    have hlt2 : i < ys.length := by omega
    have hy : ys[i]? = some ys[i] := List.getElem?_eq_getElem hlt2
    refine .inr ⟨⟨xs, ys, _, _, qx, qy, hx, hy⟩, Pv (i + 1), fun H' p' => ⟨xs.length - (i + 1), by omega, rfl, hlt, p'⟩, fun v H' y => ?_⟩
    obtain ⟨T, x', y', rfl, hT, rfl, f1, f2⟩ := y
    exact hs i x' y' T H (f1 xs qx) (f2 ys qy) p hT
  · have e : i = xs.length := by omega
    subst e
    exact .inl ⟨⟨xs, ys, qx, qy, Or.inl (Nat.le_refl _)⟩, hd H p⟩
theorem head_noL (r : Row) : NoL (.tuple (rowHead r)) := .tup fun d hd => by
  rcases List.mem_cons.mp hd with rfl | hd
  · exact .str _
  · obtain ⟨p, _, rfl⟩ := List.mem_map.mp hd
    exact prt_noL p
theorem sm_pos (r : Row) : 1 ≤ r.sm.length ∧ r.sm.length ≤ 4 := by
  cases r <;> exact ⟨Nat.le_add_left 1 _, by show _ ≤ 4; simp [Row.sm, Row.prts, Prt.isRows]⟩
namespace Tx
section
variable {P : Program} {w : World} {K : PySem.W.Frag} {mg : Str → Option Value} {base : Heap}
def spTkRow (K : PySem.W.Frag) : Sp := fun vs H Q _ => ∃ (D : DA) (wa : Addr) (s : Dr) (r : Row) (c : Int) (deep loops : Nat), vs = [.ref D.d, .ref wa] ∧ H wa = some (.lst (r.wds.map V.str)) ∧ wa ∉ D.own ∧ DrAt K H D s ∧ Fit 99999 s ∧ (1 ≤ s.around.length ∧ s.around.length ≤ 12) ∧ r.ok c deep loops ∧ c ≤ 9 ∧
  (r.pn = 0 → ∀ xs x, s.around = xs ++ [x] → TakeQ K H D { s with around := xs ++ [{ x with listed := x.listed ++ [r.d] }] } Q) ∧ (r.pn ≠ 0 → TakeQ K H D { s with around := s.around ++ [⟨r.hd, r.pn, [], []⟩] } Q)
theorem me_Draft_take_row (T : Txt w K mg) : Me P w K mg base 14 (He.ga K "Draft") "_take_row" (spTkRow K) := by
  refine me_of (N := ["self", "words", "form", "kind", "kinds", "word", "head"]) (ps := ["self", "words"]) T.f_Draft_take_row T.c_Draft T.m_Draft_take_row ⟨rfl, rfl, rfl, by decide +kernel, rfl, by decide +kernel, by decide +kernel⟩ (fun _ _ _ _ _ _ us hl => match us, hl with | [_, _], _ => rfl)
    (fun vs H Q E h => by obtain ⟨D, wa, s, r, c, deep, loops, rfl, hw, nwa, hd, ft, ha, ok, hc, q1, q2⟩ := h; rfl) (fun cdv A outer s H vs Q E hr h => ?_)
  have nd : (["self", "words", "form", "kind", "kinds", "word", "head"] : List Str).Nodup := by decide +kernel
  obtain ⟨D, wa, s, r, c, deep, loops, rfl, hw, nwa, hd, ft, ha, ok, hc, q1, q2⟩ := h
  obtain ⟨es, nn, DD⟩ := T.t_FORMS
  refine ⟨_, (pss_cons (ps_set (i := 2) nd rfl (.inl rfl) (pe_kget DD (pe_gr T.g_FORMS) (pe_ix ix_list (pv 1) pe_int (fun _ _ => rfl)) ⟨rfl, rfl, rfl, rfl⟩))
      (pss_cons (ps_if (PW.pt (pw_or (pt_cmp (pc_isN (pv 2))) (pw_or1 (pt_not (pt_chain op_le op_le pe_int (pe_callB call_len_seq (by rfl) T.b_len PySem.boot_len (pa_cons (pe_fld (pv 0) rfl) pa_nil)) (pe_gi T.i_DEEPEST_ROW)))))) (pss_one (ps_ret pe_bl)) pss_nil)
      (pss_cons (ps_setLc (i := 4) (own := [("kind", 3)]) rfl nd rfl rfl (by rfl) (pi_tup (pv 2)) (blkOk_by (N := ["self", "words", "form", "kind", "kinds", "word", "head"]) (sc := defScope s_Draft_take_row) (by decide +kernel)) (fun _ _ _ _ _ => pg_name (i := 3) nd rfl (.inl rfl)) (fun _ _ _ _ _ => pts_one (pt_cmpR op_ne (pv 3) pe_str (nomark _))) (fun _ _ _ _ _ => pv 3))
      (pss_cons (ps_if (pt_cmpR op_ne (pe_callB call_len_seq (by rfl) T.b_len PySem.boot_len (pa_cons (pv 1) pa_nil)) (pe_op op_add pe_int (pe_callB call_len_seq (by rfl) T.b_len PySem.boot_len (pa_cons (pv 4) pa_nil))) (nomark _)) (pss_one (ps_ret pe_bl)) pss_nil)
      (pss_cons (ps_set (i := 6) nd rfl (.inl rfl) (pe_op op_catA (pe_tup (pa_cons (pe_ix ix_list (pv 1) pe_int (fun _ _ => rfl)) pa_nil)) (pe_tupleOf (by rfl) T.b_tuple (pe_lc (own := [("kind", 3), ("word", 5)]) (tt := tYes) rfl nd (RZ.pi_zipA (by rfl) T.b_zip (pa_cons (pv 4) (pa_cons (pe_slice sl_list (pv 1) (po_some pe_int) po_none) pa_nil))) (blkOk_by (N := ["self", "words", "form", "kind", "kinds", "word", "head"]) (sc := defScope s_Draft_take_row) (by decide +kernel)) (fun _ _ _ _ _ => pg_two K 3 5 rfl rfl nd rfl rfl (.inl rfl) (.inl rfl) (.inr rfl) (.inr rfl)) (fun _ _ _ _ _ => pts_nil) (fun _ _ _ _ _ => pe_ca (Tx.ca_value_in T) hr (pa_cons (pv 3) (pa_cons (pv 5) pa_nil)))))))
      (pss_cons (ps_if (pt_cmpR (op_inTd (by have := hr.un; show _ + 65 < cLine; exact Nat.lt_of_le_of_lt (Nat.add_le_add_left (by omega) _) this)) pe_non (pv 6) (by rfl)) (pss_one (ps_ret pe_bl)) pss_nil)
      (pss_cons (ps_if (pt_cmpR op_lt (pe_callB call_len_seq (by rfl) T.b_len PySem.boot_len (pa_cons (pv 4) pa_nil)) (pe_callB call_len_seq (by rfl) T.b_len PySem.boot_len (pa_cons (pv 2) pa_nil)) (nomark _)) (pss_one (ps_expr (pe_bm PySem.F.plainAttrs_list PySem.F.slot_list_append PySem.F.type_list_append mt_append (pe_fld (pv 0) rfl) (pa_cons (pe_ma (Tx.ma_Block T) hr (pa_cons (pv 6) (pa_cons (pe_op op_sub (pe_callB call_len_seq (by rfl) T.b_len PySem.boot_len (pa_cons (pv 2) pa_nil)) (pe_callB call_len_seq (by rfl) T.b_len PySem.boot_len (pa_cons (pv 4) pa_nil))) pa_nil))) pa_nil)))) (pss_one (ps_expr (pe_bm PySem.F.plainAttrs_list PySem.F.slot_list_append PySem.F.type_list_append mt_append (pe_fld (pe_ix ix_list (pe_fld (pv 0) rfl) (pe_un un_neg pe_int) (fun _ _ => rfl)) rfl) (pa_cons (pv 6) pa_nil)))))
      (pss_one (ps_ret pe_bl))))))))), ?_⟩
  obtain ⟨f, hf, hfs⟩ := form_at T r H
  have ew : r.wds.map V.str = V.str r.word :: r.sm.map fun p => V.str (estr p.xp) := by rw [wds_sm, List.map_cons, List.map_map]; rfl
  rw [ew] at hw
  obtain ⟨sp1, sp4⟩ := sm_pos r
  have pl := sm_pn r
  have p4 : r.prts.length ≤ 4 := by cases r <;> simp [Row.prts]
  have lb : (D.bs.map fun A => V.ref A.b).length = s.around.length := by rw [List.length_map, hd.bl]
  refine ⟨rfl, _, rfl, _, _, _, _, rfl, rfl, .of hw, at0, r.word, _, .ref f, rfl, hf, rfl, ?_⟩
  refine ⟨_, rfl, _, rfl, iteF ?_⟩
  refine ⟨_, rfl, D.d, _, D.dx, _, _, rfl, hd.ins, T.c_Draft, T.n_Draft_around, df_around .., _, _, rfl, .inl (.of hd.ar), _, _, rfl, rfl, _, rfl, ?_⟩
  rw [lb, decide_eq_true (show (1 : Int) ≤ ((s.around.length : Nat) : Int) by omega)]
  refine iteT ⟨_, _, rfl, rfl, _, rfl, ?_⟩
  rw [decide_eq_true (show ((s.around.length : Nat) : Int) ≤ (12 : Int) by omega)]
  refine iteF ?_
  -- the kinds
  refine ⟨_, rfl, f, rfl, ⟨_, hfs⟩, fun W nW => ?_⟩
  refine it_any (n := ((r.prts.map Prt.kind).map V.str).length) walk_tup (fun i J => Same H J ∧ J W = some (.lst (((r.prts.take i).filter fun p => !p.isRows).map fun p => V.str p.kind))) ⟨same_new nW, upd_same⟩ (fun i J _ ⟨s, _⟩ => same_t s hfs) ?_ ?_
  · rintro i x J0 J hi ⟨sJ, hW⟩ ⟨rfl, ex⟩
    obtain ⟨kk, hk, rfl⟩ := get_mapA ex
    obtain ⟨pp, hp, rfl⟩ := get_mapA hk
    refine ⟨rfl, _, rfl, rfl, _, rfl, ?_⟩
    rw [prt_kind]
    cases e : pp.isRows with
    | false =>
      refine iteT ⟨_, rfl, _, hW, by rw [List.length_map]; have := List.length_filter_le (fun p : Prt => !p.isRows) (r.prts.take i); rw [List.length_take] at this; rw [sizeLine_eq]; omega, fun b o e' => ?_, ?_⟩
      · rw [upd_ne (ne_of_none e' nW)]
        exact sJ _ _ e'
      · rw [upd_same, take_more hp, List.filter_append, List.map_append, List.filter_cons_of_pos (by simp [e])]
        rfl
    | true =>
      refine iteF ⟨sJ, ?_⟩
      rw [hW, take_more hp, List.filter_append, List.filter_cons_of_neg (by simp [e])]
      simp
  rintro J ⟨sJ, hW⟩
  rw [List.length_map, List.length_map, List.take_length] at hW
  have hW : J W = some (.lst (r.sm.map fun p => V.str p.kind)) := hW
  have hwJ := sJ _ _ hw
  refine ⟨_, rfl, _, _, rfl, .inl (.of hwJ), _, rfl, _, _, rfl, .inl (.of hW), _, _, rfl, rfl, rfl, _, rfl, ?_⟩
  rw [decide_eq_true (show V.int ((V.str r.word :: r.sm.map fun p => V.str (estr p.xp)).length : Nat) = V.int (1 + ((r.sm.map fun p => V.str p.kind).length : Nat)) by rw [List.length_cons, List.length_map, List.length_map]; congr 1; omega)]
  refine iteF ?_
  -- the head
  refine ⟨_, rfl, _, _, _, _, rfl, rfl, .of hwJ, at0, (by show 1 ≤ sizeLine; decide), fun t1 n1 => ?_⟩
  have s1 := same_new (o := .tup [.str r.word]) n1
  have e1 : upd J t1 (.tup [.str r.word]) t1 = some (.tup [.str r.word]) := upd_same
  generalize upd J t1 (.tup [.str r.word]) = H1 at s1 e1 ⊢
  refine ⟨_, rfl, _, rfl, _, rfl, wa, _, rfl, .of (s1 _ _ hwJ), fun p np => ?_⟩
  rw [cut1]
  have s2 := same_new (o := .lst (r.sm.map fun p => V.str (estr p.xp))) np
  have e2 : upd H1 p (.lst (r.sm.map fun p => V.str (estr p.xp))) p = some (.lst (r.sm.map fun p => V.str (estr p.xp))) := upd_same
  generalize upd H1 p (.lst (r.sm.map fun p => V.str (estr p.xp))) = H2 at s2 e2 ⊢
  have s12 := s1.trans s2
  refine ⟨W, p, _, _, rfl, .inl ⟨.of (s12 _ _ hW), .of e2, fun N nN => ?_⟩⟩
  refine it_zipL (xs := r.sm.map fun p => V.str p.kind) (ys := r.sm.map fun p => V.str (estr p.xp)) (by rw [List.length_map, List.length_map]) (fun i G => ∃ vs : List V, Same H2 G ∧ G N = some (.lst vs) ∧ DpAll K G vs ((r.sm.take i).map Prt.d)) ⟨[], same_new nN, upd_same, .nil⟩ (fun i G ⟨_, s, _⟩ => ⟨.of ((s12.trans s) _ _ hW), .of (s _ _ e2)⟩) ?_ ?_
  · rintro i x y t G hx hy ⟨vs, sG, hN, hvs⟩ nt
    obtain ⟨pp, hp, rfl⟩ := get_mapA hx
    obtain ⟨pp', hp', rfl⟩ := get_mapA hy
    rw [hp] at hp'
    cases hp'
    obtain ⟨m1, m2⟩ := List.mem_filter.mp (List.mem_of_getElem? hp)
    have nr : pp.isRows = false := by simpa using m2
    have st := same_new (o := .tup [.str pp.kind, .str (estr pp.xp)]) nt
    have lvs := dps_len hvs
    rw [List.length_map, List.length_take] at lvs
    refine ⟨t, _, rfl, .of upd_same, rfl, _, _, rfl, _, _, rfl, rfl, rfl, _, rfl, _, rfl, pp, estr pp.xp, c, deep, r.lp loops, rfl, prt_wd nr, row_prts ok pp m1, hc, fun v G2 s3 dv => ?_⟩
    have hN2 := s3 _ _ (st _ _ hN)
    refine ⟨vs, hN2, by rw [sizeLine_eq]; omega, vs ++ [v], fun b o e' => ?_, upd_same, ?_⟩
    · rw [upd_ne (ne_of_none e' nN)]
      exact s3 _ _ (st _ _ (sG _ _ e'))
    · rw [take_more hp, List.map_append]
      have cN : Ch G2 N := .lst hN2
      refine dps_snocT (dps_but cN But.upd (dps_same (st.trans s3) hvs) fun d hd' => ?_) (dp_but cN But.upd dv (prt_noL pp))
      obtain ⟨q', _, rfl⟩ := List.mem_map.mp hd'
      exact prt_noL q'
  rintro G ⟨vs, sG, hN, hvs⟩
  rw [List.length_map, List.take_length] at hvs
  have lvs := dps_len hvs
  rw [List.length_map] at lvs
  refine .inl ⟨N, vs, rfl, .of hN, fun t2 n2 => ?_⟩
  have s4 := same_new (o := .tup vs) n2
  have e4 : upd G t2 (.tup vs) t2 = some (.tup vs) := upd_same
  generalize upd G t2 (.tup vs) = H4 at s4 e4 ⊢
  have s14 := s2.trans (sG.trans s4)
  refine ⟨t1, t2, [.str r.word], vs, rfl, rfl, .of (s14 _ _ e1), .of e4, by rw [List.length_singleton, sizeLine_eq]; omega, (fun z => nomatch z), fun _ z => ?_, fun _ _ h nh => ?_⟩
  · rw [z] at lvs
    rw [List.length_nil] at lvs
    omega
  have s5 := same_new (o := .tup ([.str r.word] ++ vs)) nh
  have e5 : upd H4 h (.tup ([.str r.word] ++ vs)) h = some (.tup ([.str r.word] ++ vs)) := upd_same
  generalize upd H4 h (.tup ([.str r.word] ++ vs)) = H5 at s5 e5 ⊢
  have hh : Dp K H5 (.ref h) (.tuple (rowHead r)) := .tup (.of e5) (.cons (.str _) (dps_same (s4.trans s5) hvs))
  obtain ⟨sh1, sh2⟩ := head_shaped ok hc
  refine ⟨_, rfl, .none, rowHead r, .non, hh, rfl, sh1, _, rfl, ?_⟩
  rw [sh2]
  refine iteF ?_
  have s05 : Same H H5 := ((sJ.trans s1).trans s14).trans s5
  have sJ5 : Same J H5 := (s1.trans s14).trans s5
  have hd5 := hd.same s05
  have hW5 := sJ5 _ _ hW
  have hf5 := same_t s05 hfs
  refine ⟨_, rfl, _, _, rfl, .inl (.of hW5), _, rfl, _, _, rfl, .inr hf5, _, _, rfl, rfl, _, rfl, ?_⟩
  rw [List.length_map, List.length_map, List.length_map]
  have own0 : ∀ {y : Addr}, H5 y = none → H y = none := fun e => none_of s05 e
  by_cases pn : r.pn = 0
  · -- a row without rows
    rw [decide_eq_false (show ¬ ((r.sm.length : Nat) : Int) < ((r.prts.length : Nat) : Int) by omega)]
    refine iteF ?_
    obtain ⟨xs, x, es⟩ : ∃ xs x, s.around = xs ++ [x] := by
      rcases List.eq_nil_or_concat s.around with z | ⟨xs, x, z⟩
      · rw [z] at ha; exact absurd ha.1 (by decide)
      · exact ⟨xs, x, by rw [z, List.concat_eq_append]⟩
    have q := q1 pn xs x es
    obtain ⟨Bs, A, eD, lB, k, _⟩ := hd5.last es
    obtain ⟨nA, _, _⟩ := hd5.apart eD
    have nna := BA.ne nA
    have ar := hd5.ar
    have la := last_at (fun A : BA => V.ref A.b) Bs A
    rw [eD] at ar
    obtain ⟨ls, l1, l2⟩ := k.li
    have lls := dps_len l2
    have fl := (ft.b x (by rw [es]; exact List.mem_append_right _ List.mem_cons_self)).2
    refine ⟨_, rfl, D.d, _, D.dx, _, _, rfl, hd5.ins, T.c_Draft, T.n_Draft_around, df_around .., _, rfl, _, _, _, _, rfl, rfl, .of ar, la, A.b, _, A.dx, _, _, rfl, k.ins, T.c_Block, T.n_Block_listed, bf_listed .., .inl ⟨rfl, _, .of l1⟩, _, rfl, A.la, _, _, rfl, rfl, l1, by rw [lls, sizeLine_eq]; omega, ?_⟩
    have b6 : But A.la H5 (upd H5 A.la (.lst (ls ++ [.ref h]))) := But.upd
    have e6 : upd H5 A.la (.lst (ls ++ [.ref h])) A.la = some (.lst (ls ++ [.ref h])) := upd_same
    generalize upd H5 A.la (.lst (ls ++ [.ref h])) = H6 at b6 e6 ⊢
    have ch : Ch H5 A.la := .lst l1
    obtain ⟨vo, o1, o2⟩ := k.ov
    have hr6 : Dp K H6 (.ref h) r.d := by rw [head_row pn]; exact dp_but ch b6 hh (head_noL r)
    have k6 : BlkAt K H6 A { x with listed := x.listed ++ [r.d] } := ⟨b6 _ _ nna.2.1 k.ins, dp_but ch b6 k.hd k.nh, ⟨vo, b6 _ _ nna.2.2 o1, dps_but ch b6 o2 k.no⟩, ⟨_, e6, dps_snocT (dps_but ch b6 l2 k.nl) hr6⟩, k.nh, k.no, (fun d hd' => by
      rcases List.mem_append.mp hd' with h | h
      · exact k.nl d h
      · rw [List.mem_singleton.mp h]
        exact r.noL), k.f1, by rw [List.length_append, List.length_singleton]; omega⟩
    obtain ⟨r1, r2⟩ := hd5.setLast es eD (BtS.but b6 (by simp [BA.own])) k6 rfl nA fun y hy => .inl hy
    refine q { D with bs := Bs ++ [A] } H6 rfl ((BtS.same s05).trans (BtS.but b6 ?_)) r1 fun y hy => (r2 y hy).imp id own0
    rw [own_bs, eD, List.flatMap_append]
    exact List.mem_append_right _ (List.mem_append_right _ (by simp [BA.own]))
  · -- a row with rows
    have q := q2 pn
    rw [decide_eq_true (show ((r.sm.length : Nat) : Int) < ((r.prts.length : Nat) : Int) by omega)]
    refine iteT ⟨_, rfl, D.d, _, D.dx, _, _, rfl, hd5.ins, T.c_Draft, T.n_Draft_around, df_around .., .inl ⟨rfl, _, .of hd5.ar⟩, _, rfl, _, rfl, _, _, rfl, .inr hf5, _, rfl, _, _, rfl, .inl (.of hW5), _, _, rfl, rfl, ?_⟩
    have epn : (((r.prts.map Prt.kind).map V.str).length : Nat) - ((r.sm.map fun p => V.str p.kind).length : Nat) = ((r.pn : Nat) : Int) := by
      rw [List.length_map, List.length_map, List.length_map]
      omega
    intro b bx hb hbx ne
    have s6 : Same H5 (upd (upd H5 bx (.own b)) b (.ins (He.ga K "Block") bx [])) := (same_new hbx).trans (same_new (by rw [upd_ne (Ne.symm ne)]; exact hb))
    refine ⟨b, bx, .ref h, rowHead r, r.pn, congrArg (fun i => [V.ref b, V.ref h, V.int i]) epn, upd_same, dp_same s6 hh, head_noL r, fun A H7 eb b7 kA ndA nA1 nA2 => ⟨rfl, ?_⟩⟩
    have s57 : Same H5 H7 := fun x o e => b7 _ _ (ne_of_none e hb) (s6 _ _ e)
    have hd7 := hd5.same s57
    have fa := ft.a
    refine ⟨D.ra, _, _, rfl, rfl, hd7.ar, by rw [lb, sizeLine_eq]; omega, ?_⟩
    have fr : ∀ y ∈ A.own, H5 y = none := fun y hy => by
      simp only [BA.own, List.mem_cons, List.not_mem_nil, or_false] at hy
      rcases hy with rfl | rfl | rfl
      · rw [eb]; exact hb
      · exact none_of s6 nA1
      · exact none_of s6 nA2
    have dis : ∀ y ∈ A.own, y ∉ D.own := fun y hy => hd5.new (fr y hy)
    have e8 : upd H7 D.ra (.lst ((D.bs.map fun A => V.ref A.b) ++ [.ref b])) D.ra = some (.lst ((D.bs.map fun A => V.ref A.b) ++ [.ref A.b])) := by rw [upd_same, eb]
    have r1 := hd7.push kA ndA dis But.upd e8
    rw [← head_opn pn] at r1
    refine q { D with bs := D.bs ++ [A] } _ rfl (((BtS.same s05).trans (BtS.same s57)).trans (BtS.but But.upd (by simp [DA.own]))) r1 fun y hy => ?_
    rw [own_app] at hy
    rcases List.mem_append.mp hy with hy | hy
    · exact .inl (by rw [own_bs]; exact hy)
    · exact .inr (own0 (fr y hy))
end
end Tx

end M

set_option Elab.async false
set_option linter.all false
set_option maxRecDepth 100000
set_option maxHeartbeats 2000000
namespace M
open PySem PySem.Spec PyProof.Rows L2

def HdOk (s : Dr) : Prop := ∀ b ∈ s.around, b.head ≠ [] ∧ b.head.length ≤ 100
theorem hd_len (r : Row) (h : r.pn ≠ 0) : r.hd ≠ [] ∧ r.hd.length ≤ 100 := by
  cases r <;> first | exact absurd rfl h | exact ⟨List.cons_ne_nil _ _, by show 2 ≤ 100; decide⟩
theorem Tk.hd {s t : Dr} {l : List Str} (h : Tk s l t) (k : HdOk s) : HdOk t := by
  cases h with
  | cell => exact k
  | deed => exact fun b hb => by rw [List.mem_singleton.mp hb]; exact ⟨List.cons_ne_nil _ _, by show 2 ≤ 100; decide⟩
  | @row bs b r c deep loops h =>
    intro x hx
    rcases List.mem_append.mp hx with hx | hx
    · exact k x (by rw [h]; exact List.mem_append_left _ hx)
    · rw [List.mem_singleton.mp hx]
      exact k b (by rw [h]; exact List.mem_append_right _ List.mem_cons_self)
  | @opn r c deep loops _ _ h2 =>
    intro x hx
    rcases List.mem_append.mp hx with hx | hx
    · exact k x hx
    · rw [List.mem_singleton.mp hx]
      exact hd_len r h2
  | @els bs b h =>
    intro x hx
    rcases List.mem_append.mp hx with hx | hx
    · exact k x (by rw [h]; exact List.mem_append_left _ hx)
    · rw [List.mem_singleton.mp hx]
      exact k b (by rw [h]; exact List.mem_append_right _ List.mem_cons_self)
  | @fin bs a b h =>
    intro x hx
    rcases List.mem_append.mp hx with hx | hx
    · exact k x (by rw [h]; exact List.mem_append_left _ hx)
    · rw [List.mem_singleton.mp hx]
      exact k a (by rw [h]; exact List.mem_append_right _ List.mem_cons_self)
theorem Tk.fit {s t : Dr} {l : List Str} {n : Nat} (h : Tk s l t) (k : Fit n s) : Fit (n + 1) t := by
  have up := k.mono (Nat.le_succ n)
  cases h with
  | cell => exact ⟨by show (_ ++ [_]).length ≤ n + 1; rw [List.length_append, List.length_singleton]; have := k.c; omega, up.p, up.a, up.b⟩
  | deed h =>
    refine ⟨up.c, ?_, (by show 1 ≤ n + 1; omega), fun x hx => by rw [List.mem_singleton.mp hx]; exact ⟨Nat.zero_le _, Nat.zero_le _⟩⟩
    show s.deeds.length ≤ n + 1
    unfold Dr.deeds
    rw [List.length_append, List.length_map]
    have := k.p
    omega
  | @row bs b r c deep loops h =>
    have la : (bs ++ [b]).length = s.around.length := by rw [h]
    have mb : b ∈ s.around := by rw [h]; exact List.mem_append_right _ List.mem_cons_self
    refine ⟨up.c, up.p, ?_, fun x hx => ?_⟩
    · show (bs ++ [_]).length ≤ n + 1
      rw [List.length_append, List.length_singleton] at la ⊢
      have := up.a
      omega
    · rcases List.mem_append.mp hx with hx | hx
      · exact up.b x (by rw [h]; exact List.mem_append_left _ hx)
      · rw [List.mem_singleton.mp hx]
        refine ⟨(up.b b mb).1, ?_⟩
        show (b.listed ++ [_]).length ≤ n + 1
        rw [List.length_append, List.length_singleton]
        have := (k.b b mb).2
        omega
  | opn =>
    refine ⟨up.c, up.p, ?_, fun x hx => ?_⟩
    · show (s.around ++ [_]).length ≤ n + 1
      rw [List.length_append, List.length_singleton]
      have := k.a
      omega
    · rcases List.mem_append.mp hx with hx | hx
      · exact up.b x hx
      · rw [List.mem_singleton.mp hx]
        exact ⟨Nat.zero_le _, Nat.zero_le _⟩
  | @els bs b h =>
    have la : (bs ++ [b]).length = s.around.length := by rw [h]
    have mb : b ∈ s.around := by rw [h]; exact List.mem_append_right _ List.mem_cons_self
    refine ⟨up.c, up.p, ?_, fun x hx => ?_⟩
    · show (bs ++ [_]).length ≤ n + 1
      rw [List.length_append, List.length_singleton] at la ⊢
      have := up.a
      omega
    · rcases List.mem_append.mp hx with hx | hx
      · exact up.b x (by rw [h]; exact List.mem_append_left _ hx)
      · rw [List.mem_singleton.mp hx]
        refine ⟨?_, Nat.zero_le _⟩
        show (b.over ++ [_]).length ≤ n + 1
        rw [List.length_append, List.length_singleton]
        have := (k.b b mb).1
        omega
  | @fin bs a b h =>
    have la : (bs ++ [a, b]).length = s.around.length := by rw [h]
    have mb : a ∈ s.around := by rw [h]; exact List.mem_append_right _ List.mem_cons_self
    refine ⟨up.c, up.p, ?_, fun x hx => ?_⟩
    · show (bs ++ [_]).length ≤ n + 1
      rw [List.length_append] at la ⊢
      rw [List.length_singleton]
      have la : bs.length + 2 = s.around.length := la
      have := up.a
      omega
    · rcases List.mem_append.mp hx with hx | hx
      · exact up.b x (by rw [h]; exact List.mem_append_left _ hx)
      · rw [List.mem_singleton.mp hx]
        refine ⟨(up.b a mb).1, ?_⟩
        show (a.listed ++ [_]).length ≤ n + 1
        rw [List.length_append, List.length_singleton]
        have := (k.b a mb).2
        omega
theorem strs_dp {K : PySem.W.Frag} {H : Hp} : ∀ l : List Str, DpAll K H (l.map V.str) (l.map PyData.str)
  | [] => .nil
  | x :: l => .cons (.str x) (strs_dp l)
theorem eqv_strs : ∀ a b : List Str, PyData.eqvAll (a.map PyData.str) (b.map PyData.str) = decide (a = b)
  | [], [] => by rw [List.map_nil, PyData.eqvAll]; rfl
  | [], _ :: _ => by rw [List.map_nil, List.map_cons, PyData.eqvAll]; rfl
  | _ :: _, [] => by rw [List.map_nil, List.map_cons, PyData.eqvAll]; rfl
  | x :: a, y :: b => by
    rw [List.map_cons, List.map_cons, PyData.eqvAll, eqv_strs a b, PyData.eqv, Bool.eq_iff_iff]
    simp
theorem wok_strOk {w : Str} (h : PyData.strOk w = true) : (PyData.str w).canLay0 = true := by rw [PyData.canLay0]; exact h
theorem strs_shaped {l : List Str} (h : ∀ w ∈ l, PyData.strOk w = true) : SeqAt.shaped (.list (l.map PyData.str)) = true := by
  obtain ⟨l1, l2⟩ := lays_of (ds := l.map PyData.str) fun d hd => by
    obtain ⟨w, hw, rfl⟩ := List.mem_map.mp hd
    exact ⟨wok_strOk (h w hw), by rw [PyData.depth]; exact Nat.zero_le _⟩
  unfold SeqAt.shaped
  rw [PyData.canLay0, l1, PyData.depth, decide_eq_true (show PyData.depthAll (l.map PyData.str) + 1 ≤ 64 by omega)]
  rfl
theorem word_nes : ∀ w ∈ (["read", "set", "swap", "keep", "coin", "if", "times", "answer"] : List Str), w ≠ "cell" ∧ w ≠ "deed" ∧ w ≠ "else" ∧ w ≠ "end" := by decide +kernel
theorem word_ne (r : Row) : r.word ≠ "cell" ∧ r.word ≠ "deed" ∧ r.word ≠ "else" ∧ r.word ≠ "end" := word_nes _ (by cases r <;> simp [Row.word])
theorem word_one : (("deed" : Str) ≠ "cell") ∧ (("else" : Str) ≠ "cell") ∧ (("else" : Str) ≠ "deed") ∧ (("end" : Str) ≠ "cell") ∧ (("end" : Str) ≠ "deed") ∧ (("end" : Str) ≠ "else") := by decide +kernel
theorem TakeQ.same {K : PySem.W.Frag} {H H1 : Hp} {D : DA} {t : Dr} {Q : VK} (s : Same H H1) (h : TakeQ K H D t Q) : TakeQ K H1 D t Q := fun D' H' e b k f => h D' H' e ((BtS.same s).trans b) k fun x hx => (f x hx).imp id (none_of s)
namespace Tx
section
variable {P : Program} {w : World} {K : PySem.W.Frag} {mg : Str → Option Value} {base : Heap}
def spTake (K : PySem.W.Frag) : Sp := fun vs H Q _ => ∃ (D : DA) (wa : Addr) (s t : Dr) (ws : List Str), vs = [.ref D.d, .ref wa] ∧ H wa = some (.lst (ws.map V.str)) ∧ wa ∉ D.own ∧ DrAt K H D s ∧ Fit 99999 s ∧ HdOk s ∧ Tk s ws t ∧ (∀ w ∈ ws, PyData.strOk w = true) ∧ TakeQ K H D t Q
theorem me_Draft_take (T : Txt w K mg) : Me P w K mg base 16 (He.ga K "Draft") "take" (spTake K) := by
  refine me_of (N := ["self", "words"]) (ps := ["self", "words"]) T.f_Draft_take T.c_Draft T.m_Draft_take ⟨rfl, rfl, rfl, by decide +kernel, rfl, by decide +kernel, by decide +kernel⟩ (fun _ _ _ _ _ _ us hl => match us, hl with | [_, _], _ => rfl)
    (fun vs H Q E h => by obtain ⟨D, wa, s, t, ws, rfl, hw, nwa, hd, ft, hk, tk, sok, q⟩ := h; rfl) (fun cdv A outer s H vs Q E hr h => ?_)
  have nd : (["self", "words"] : List Str).Nodup := by decide +kernel
  obtain ⟨D, wa, s, t, ws, rfl, hw, nwa, hd, ft, hk, tk, sok, q⟩ := h
  refine ⟨_, (pss_cons (ps_if (pt_cmpR op_eq (pe_ix ix_list (pv 1) pe_int (fun _ _ => rfl)) pe_str (nomark _)) (pss_one (ps_ret (pe_me (Tx.me_Draft_take_cell T) hr (pv 0) (pa_cons (pv 1) pa_nil)))) pss_nil)
      (pss_cons (ps_if (pt_cmpR op_eq (pe_ix ix_list (pv 1) pe_int (fun _ _ => rfl)) pe_str (nomark _)) (pss_one (ps_ret (pe_me (Tx.me_Draft_take_deed T) hr (pv 0) (pa_cons (pv 1) pa_nil)))) pss_nil)
      (pss_cons (ps_if (pt_cmpR (op_eqD hr.units) (pv 1) (pe_lst (pa_cons pe_str pa_nil)) (nomark _)) (pss_one (ps_ret (pe_me0 (Tx.me_Draft_take_else T) hr (pv 0)))) pss_nil)
      (pss_cons (ps_if (pt_cmpR (op_eqD hr.units) (pv 1) (pe_lst (pa_cons pe_str pa_nil)) (nomark _)) (pss_one (ps_ret (pe_me0 (Tx.me_Draft_take_end T) hr (pv 0)))) pss_nil)
      (pss_one (ps_ret (pe_me (Tx.me_Draft_take_row T) hr (pv 0) (pa_cons (pv 1) pa_nil)))))))), ?_⟩
  obtain ⟨o1, o2, o3, o4, o5, o6⟩ := word_one
  have no := df_no D.ca D.ra D.pa
  -- the words are no list of the one word x
  have isL : ∀ (x : Str) (H1 : Hp) (l : Addr), Same H H1 → H1 l = some (.lst [.str x]) → PyData.strOk x = true → ∀ Z : Bool → Prop, Z (decide (ws = [x])) → rEqD K (.ref wa) (.ref l) H1 (fun v H' => ∃ k, v = V.bl k ∧ Z k) := fun x H1 l s1 hl sx Z hz =>
    ⟨.list (ws.map PyData.str), .list ([x].map PyData.str), .lst (.of (s1 _ _ hw)) (strs_dp ws), .lst (.of hl) (strs_dp [x]), strs_shaped sok, strs_shaped (fun w hw' => by rw [List.mem_singleton.mp hw']; exact sx), _, rfl, by rw [PyData.eqv, eqv_strs]; exact hz⟩
  cases tk with
  | @cell c h h1 h2 =>
    refine ⟨_, rfl, _, _, _, _, rfl, rfl, .of hw, at0, rfl, _, rfl, ?_⟩
    rw [decide_eq_true rfl]
    exact iteT ⟨_, rfl, D.d, D.dx, _, rfl, hd.ins, no.2.2.1, _, rfl, D, wa, s, c, rfl, hw, hd, ft, h, h1, h2, q⟩
  | @deed d h h1 h2 =>
    refine ⟨_, rfl, _, _, _, _, rfl, rfl, .of hw, at0, rfl, _, rfl, ?_⟩
    rw [decide_eq_false (show ¬ V.str "deed" = V.str "cell" from fun z => o1 (V.str.inj z))]
    refine iteF ⟨_, rfl, _, _, _, _, rfl, rfl, .of hw, at0, rfl, _, rfl, ?_⟩
    rw [decide_eq_true rfl]
    exact iteT ⟨_, rfl, D.d, D.dx, _, rfl, hd.ins, no.2.2.2.1, _, rfl, D, wa, s, d, rfl, hw, hd, ft, hk, h, h1, h2, q⟩
  | @els bs b h h1 h2 =>
    refine ⟨_, rfl, _, _, _, _, rfl, rfl, .of hw, at0, rfl, _, rfl, ?_⟩
    rw [decide_eq_false (show ¬ V.str "else" = V.str "cell" from fun z => o2 (V.str.inj z))]
    refine iteF ⟨_, rfl, _, _, _, _, rfl, rfl, .of hw, at0, rfl, _, rfl, ?_⟩
    rw [decide_eq_false (show ¬ V.str "else" = V.str "deed" from fun z => o3 (V.str.inj z))]
    refine iteF ⟨_, rfl, (by show 1 ≤ sizeLine; decide), fun l nl => ?_⟩
    have s1 := same_new (o := .lst [.str "else"]) nl
    have e1 : upd H l (.lst [.str "else"]) l = some (.lst [.str "else"]) := upd_same
    generalize upd H l (.lst [.str "else"]) = H1 at s1 e1 ⊢
    refine isL "else" H1 l s1 e1 (by decide +kernel) _ ?_
    have hd1 := hd.same s1
    rw [decide_eq_true (show elsW = [("else" : Str)] from rfl)]
    exact iteT ⟨_, rfl, D.d, D.dx, _, rfl, hd1.ins, no.2.2.2.2.1, D, s, bs, b, rfl, hd1, ft, h, h1, h2, q.same s1⟩
  | @fin bs a b h h2 =>
    refine ⟨_, rfl, _, _, _, _, rfl, rfl, .of hw, at0, rfl, _, rfl, ?_⟩
    rw [decide_eq_false (show ¬ V.str "end" = V.str "cell" from fun z => o4 (V.str.inj z))]
    refine iteF ⟨_, rfl, _, _, _, _, rfl, rfl, .of hw, at0, rfl, _, rfl, ?_⟩
    rw [decide_eq_false (show ¬ V.str "end" = V.str "deed" from fun z => o5 (V.str.inj z))]
    refine iteF ⟨_, rfl, (by show 1 ≤ sizeLine; decide), fun l nl => ?_⟩
    have s1 := same_new (o := .lst [.str "else"]) nl
    have e1 : upd H l (.lst [.str "else"]) l = some (.lst [.str "else"]) := upd_same
    generalize upd H l (.lst [.str "else"]) = H1 at s1 e1 ⊢
    refine isL "else" H1 l s1 e1 (by decide +kernel) _ ?_
    rw [decide_eq_false (show ¬ endW = [("else" : Str)] from fun z => o6 (List.cons.inj z).1)]
    refine iteF ⟨_, rfl, (by show 1 ≤ sizeLine; decide), fun l2 nl2 => ?_⟩
    have s2 := same_new (o := .lst [.str "end"]) nl2
    have e2 : upd H1 l2 (.lst [.str "end"]) l2 = some (.lst [.str "end"]) := upd_same
    generalize upd H1 l2 (.lst [.str "end"]) = H2 at s2 e2 ⊢
    have s12 := s1.trans s2
    have hd2 := hd.same s12
    refine isL "end" H2 l2 s12 e2 (by decide +kernel) _ ?_
    rw [decide_eq_true (show endW = [("end" : Str)] from rfl)]
    exact iteT ⟨_, rfl, D.d, D.dx, _, rfl, hd2.ins, no.2.2.2.2.2.1, D, s, bs, a, b, rfl, hd2, ft, hk, h, h2, q.same s12⟩
  | @row bs b r c deep loops h h1 h2 ok hc =>
    have n := word_ne r
    refine ⟨_, rfl, _, _, _, _, rfl, rfl, .of hw, at0, rfl, _, rfl, ?_⟩
    rw [decide_eq_false (show ¬ V.str r.word = V.str "cell" from fun z => n.1 (V.str.inj z))]
    refine iteF ⟨_, rfl, _, _, _, _, rfl, rfl, .of hw, at0, rfl, _, rfl, ?_⟩
    rw [decide_eq_false (show ¬ V.str r.word = V.str "deed" from fun z => n.2.1 (V.str.inj z))]
    refine iteF ⟨_, rfl, (by show 1 ≤ sizeLine; decide), fun l nl => ?_⟩
    have s1 := same_new (o := .lst [.str "else"]) nl
    have e1 : upd H l (.lst [.str "else"]) l = some (.lst [.str "else"]) := upd_same
    generalize upd H l (.lst [.str "else"]) = H1 at s1 e1 ⊢
    refine isL "else" H1 l s1 e1 (by decide +kernel) _ ?_
    rw [decide_eq_false (show ¬ r.wds = [("else" : Str)] from fun z => n.2.2.1 (List.cons.inj z).1)]
    refine iteF ⟨_, rfl, (by show 1 ≤ sizeLine; decide), fun l2 nl2 => ?_⟩
    have s2 := same_new (o := .lst [.str "end"]) nl2
    have e2 : upd H1 l2 (.lst [.str "end"]) l2 = some (.lst [.str "end"]) := upd_same
    generalize upd H1 l2 (.lst [.str "end"]) = H2 at s2 e2 ⊢
    have s12 := s1.trans s2
    have hd2 := hd.same s12
    refine isL "end" H2 l2 s12 e2 (by decide +kernel) _ ?_
    rw [decide_eq_false (show ¬ r.wds = [("end" : Str)] from fun z => n.2.2.2 (List.cons.inj z).1)]
    refine iteF ⟨_, rfl, D.d, D.dx, _, rfl, hd2.ins, no.2.2.2.2.2.2, _, rfl, D, wa, s, r, c, deep, loops, rfl, s12 _ _ hw, nwa, hd2, ft, ⟨by rw [h, List.length_append, List.length_singleton]; omega, h1⟩, ok, hc, ?_, ?_⟩
    · intro _ xs x e
      have e := h.symm.trans e
      obtain ⟨rfl, e2⟩ := List.append_inj' e rfl
      cases (List.cons.inj e2).1
      exact q.same s12
    · exact fun z => absurd h2 z
  | @opn r c deep loops h h1 h2 ok hc =>
    have n := word_ne r
    refine ⟨_, rfl, _, _, _, _, rfl, rfl, .of hw, at0, rfl, _, rfl, ?_⟩
    rw [decide_eq_false (show ¬ V.str r.word = V.str "cell" from fun z => n.1 (V.str.inj z))]
    refine iteF ⟨_, rfl, _, _, _, _, rfl, rfl, .of hw, at0, rfl, _, rfl, ?_⟩
    rw [decide_eq_false (show ¬ V.str r.word = V.str "deed" from fun z => n.2.1 (V.str.inj z))]
    refine iteF ⟨_, rfl, (by show 1 ≤ sizeLine; decide), fun l nl => ?_⟩
    have s1 := same_new (o := .lst [.str "else"]) nl
    have e1 : upd H l (.lst [.str "else"]) l = some (.lst [.str "else"]) := upd_same
    generalize upd H l (.lst [.str "else"]) = H1 at s1 e1 ⊢
    refine isL "else" H1 l s1 e1 (by decide +kernel) _ ?_
    rw [decide_eq_false (show ¬ r.wds = [("else" : Str)] from fun z => n.2.2.1 (List.cons.inj z).1)]
    refine iteF ⟨_, rfl, (by show 1 ≤ sizeLine; decide), fun l2 nl2 => ?_⟩
    have s2 := same_new (o := .lst [.str "end"]) nl2
    have e2 : upd H1 l2 (.lst [.str "end"]) l2 = some (.lst [.str "end"]) := upd_same
    generalize upd H1 l2 (.lst [.str "end"]) = H2 at s2 e2 ⊢
    have s12 := s1.trans s2
    have hd2 := hd.same s12
    refine isL "end" H2 l2 s12 e2 (by decide +kernel) _ ?_
    rw [decide_eq_false (show ¬ r.wds = [("end" : Str)] from fun z => n.2.2.2 (List.cons.inj z).1)]
    refine iteF ⟨_, rfl, D.d, D.dx, _, rfl, hd2.ins, no.2.2.2.2.2.2, _, rfl, D, wa, s, r, c, deep, loops, rfl, s12 _ _ hw, nwa, hd2, ft, ⟨h, h1⟩, ok, hc, ?_, ?_⟩
    · exact fun z => absurd z h2
    · exact fun _ => q.same s12
end
end Tx

end M

set_option Elab.async false
set_option linter.all false
set_option maxRecDepth 100000
set_option maxHeartbeats 2000000
namespace M
open PySem PySem.Spec PyProof.Rows L2

theorem wok_str {w : Str} (h : WOk w) : PyData.strOk w = true := by
  unfold PyData.strOk
  rw [Array.all_eq_true_iff_forall_mem]
  intro x hx
  have := (h.1 x (Array.mem_toList_iff.mpr hx)).2
  exact decide_eq_true (by omega)
section
variable {X : Cx} {k j : Nat} {x : Str} {sp : Sp} {C : Addr} {p pos : Pos}
theorem pe_ma0 (c : Ma X.prog X.w X.K X.mg X.base k x C sp) (hr : Room j X.A) (hk : k + 1 ≤ j := by decide) (hg : Gl X x := by rfl) (hdb : (x == ("__debug__" : Str)) = false := by decide) : PE X (.Call (.Name x p) [] [] pos) (tMake C sp [] E0 tNil) := by
  obtain ⟨f, fd, ps, M, F, hm, b⟩ := c.ex
  exact pe_make0 M F (hr.mono hk) hg hm b .nil pass0 hdb
end
namespace Tx
section
variable {P : Program} {w : World} {K : PySem.W.Frag} {mg : Str → Option Value} {base : Heap}
def spReadV (K : PySem.W.Frag) : Sp := fun vs H Q _ => ∃ (v : Vlt), vs = [.str (vaultS v)] ∧ VGood v ∧ ∀ (p : Addr) (H' : Hp), H p = none → Same H H' → VaultAt K H' p v → FlagAt K H' p v → Q (.ref p) H'
theorem ca_read_vault (T : Txt w K mg) : Ca P w K mg base 56 "read_vault" (spReadV K) := by
  refine ca_of (N := ["text", "draft", "lines", "index", "line"]) (ps := ["text"]) T.f_read_vault T.g_read_vault ⟨rfl, rfl, rfl, by decide +kernel, rfl, by decide +kernel, by decide +kernel⟩ (fun _ _ _ _ _ _ us hl => match us, hl with | [_], _ => rfl)
    (fun vs H Q E h => by obtain ⟨v, rfl, g, q⟩ := h; rfl) (fun cdv A outer s H vs Q E hr h => ?_)
  have nd : (["text", "draft", "lines", "index", "line"] : List Str).Nodup := by decide +kernel
  obtain ⟨v, rfl, g, q⟩ := h
  refine ⟨_, (pss_cons (ps_if (pt_not (pt_val (pe_is .str T.b_isinstance (pv 0) T.b_str boot_str))) (pss_one ps_never) pss_nil)
      (pss_cons (ps_set (i := 1) nd rfl (.inl rfl) (pe_ma0 (Tx.ma_Draft T) hr))
      (pss_cons (ps_set (i := 2) nd rfl (.inl rfl) (pe_split (pv 0) pe_str))
      (pss_cons (ps_for PassesOwn.never rfl (pi_enum (by rfl) T.b_enumerate (pa_cons (pv 2) pa_nil)) (pg_two K 3 4 rfl rfl nd rfl rfl (.inl rfl) (.inl rfl) (.inr rfl) (.inr rfl)) (pss_one (ps_if (pt_not (pt_val (pe_me (Tx.me_Draft_take T) hr (pv 1) (pa_cons (pe_split (pv 4) pe_str) pa_nil)))) (pss_one ps_never) pss_nil)))
      (pss_cons (ps_if (pt_cmpR op_gt (pe_callB call_len_seq (by rfl) T.b_len PySem.boot_len (pa_cons (pe_fld (pv 1) rfl) pa_nil)) pe_int (nomark _)) (pss_one ps_never) pss_nil)
      (pss_one (ps_ret (pe_ma (M.F.ma_Vault T) hr (pa_cons (pe_fld (pv 1) rfl) (pa_cons (pe_me0 (Tx.me_Draft_deeds T) hr (pv 1)) pa_nil)))))))))), ?_⟩
  obtain ⟨t, run, tc, ta, td⟩ := run_vault g
  have lok := vault_lok g
  have tl := text_len (vault_ne g) lok
  have ch := vault_ch g
  have few := vault_few g
  have es : Txt.split (vaultS v) ("\n" : Str) = (vaultLs v).map lineS := split_text (vault_ne g) lok
  have tlen : (vaultS v).length + 2 ≤ sizeLine := by
    have : (vaultS v).length + 1 = chL (vaultLs v) := tl
    rw [sizeLine_eq]
    omega
  refine ⟨_, rfl, _, _, rfl, .str _, _, rfl, iteF ?_⟩
  intro d dx hd1 hd2 ne
  have w0 : Same H (upd (upd H dx (.own d)) d (.ins (He.ga K "Draft") dx [])) := (same_new hd2).trans (same_new (by rw [upd_ne (Ne.symm ne)]; exact hd1))
  refine ⟨d, dx, rfl, upd_same, fun D H2 ed b2 hD own => ⟨rfl, ?_⟩⟩
  subst ed
  have s02 : Same H H2 := fun x o e => b2 _ _ (ne_of_none e hd1) (w0 _ _ e)
  have own0 : ∀ x ∈ D.own, H x = none := fun x hx => by
    rcases own x hx with rfl | h
    · exact hd1
    · exact none_of w0 h
  refine ⟨_, rfl, ⟨_, rfl⟩, _, _, rfl, rfl, (by decide +kernel), tlen, fun l nl => ?_⟩
  rw [es]
  have s23 : Same H2 (upd H2 l (.lst (((vaultLs v).map lineS).map V.str))) := same_new nl
  have e3 : upd H2 l (.lst (((vaultLs v).map lineS).map V.str)) l = some (.lst (((vaultLs v).map lineS).map V.str)) := upd_same
  generalize upd H2 l (.lst (((vaultLs v).map lineS).map V.str)) = H3 at s23 e3 ⊢
  have nlD : l ∉ D.own := hD.new nl
  refine ⟨_, rfl, l, _, rfl, .of e3, for_it (n := (((vaultLs v).map lineS).map V.str).length) walk_enum (fun i σ' H' => ∃ (z3 z4 : Option V) (D' : DA) (st : Dr), σ' = [some (.str (vaultS v)), some (.ref D.d), some (.ref l), z3, z4] ∧ D'.d = D.d ∧ BtS D.own H3 H' ∧ DrAt K H' D' st ∧ (∀ x ∈ D'.own, x ∈ D.own ∨ H3 x = none) ∧ TkS st ((vaultLs v).drop i) t ∧ Fit i st ∧ HdOk st) ⟨none, none, D, .zero, rfl, rfl, BtS.refl _ _, hD.same s23, fun x hx => .inl hx, run, ⟨Nat.zero_le _, Nat.zero_le _, Nat.zero_le _, (fun _ z => nomatch z)⟩, (fun _ z => nomatch z)⟩ (fun i σ' H' _ ⟨_, _, _, _, _, _, bt, _⟩ => .of (bt _ _ nlD e3)) ?_ ?_⟩
  · rintro i x σ' H4 H5 hi ⟨z3, z4, D', st, rfl, eD, bt, hd', own', rn, ft, hk⟩ ⟨T, u1, u2, rfl, nT, rfl, eu1, eu2⟩
    cases (Option.some.inj eu1)
    obtain ⟨y, ey, rfl⟩ := get_mapA eu2
    obtain ⟨ws, ew, rfl⟩ := get_mapA ey
    have hi2 : i < (vaultLs v).length := (List.getElem?_eq_some_iff.mp ew).1
    have lw := lok ws (List.mem_of_getElem? ew)
    rw [List.drop_eq_getElem_cons hi2, (List.getElem?_eq_some_iff.mp ew).2] at rn
    cases rn with | @cons _ st' _ _ _ tk rn => ?_
    have sT := same_new (o := .tup [.int (i : Nat), .str (lineS ws)]) nT
    refine ⟨T, _, rfl, .of upd_same, rfl, _, _, rfl, _, _, rfl, rfl, ?_⟩
    generalize upd H4 T (.tup [.int (i : Nat), .str (lineS ws)]) = H5 at sT ⊢
    have hd5 := hd'.same sT
    have ll := line_len lw.1
    have lch : chW ws ≤ 3000 := by
      have key : ∀ us : List Str, (∀ w ∈ us, WOk w) → chW us ≤ 257 * us.length := by
        intro us
        induction us with
        | nil => exact fun _ => Nat.le_refl 0
        | cons u us ih =>
          intro hu
          have h1 := (hu u List.mem_cons_self).2
          have h2 := ih fun w hw => hu w (List.mem_cons_of_mem _ hw)
          rw [chW_cons, List.length_cons]
          omega
      have := key ws lw.2.2
      have := lw.2.1
      omega
    have ins5 : H5 D.d = some (.ins (He.ga K "Draft") D'.dx (dfl D'.ca D'.ra D'.pa)) := eD ▸ hd5.ins
    refine ⟨_, rfl, D.d, D'.dx, _, rfl, ins5, (df_no ..).1, _, rfl, ⟨_, rfl⟩, _, _, rfl, rfl, (by decide +kernel), by rw [sizeLine_eq]; omega, fun wa nwa => ?_⟩
    rw [split_line lw]
    have sW := same_new (o := .lst (ws.map V.str)) nwa
    have eW : upd H5 wa (.lst (ws.map V.str)) wa = some (.lst (ws.map V.str)) := upd_same
    generalize upd H5 wa (.lst (ws.map V.str)) = H6 at sW eW ⊢
    refine ⟨D', wa, st, st', ws, by rw [eD]; rfl, eW, hd5.new nwa, hd5.same sW, ft.mono (by omega), hk, tk, fun w hw => wok_str (lw.2.2 w hw), fun D2 H7 e2 b7 k7 f7 => ⟨_, rfl, iteF ?_⟩⟩
    refine ⟨_, _, D2, st', rfl, e2.trans eD, fun b o n e => ?_, k7, fun x hx => ?_, rn, tk.fit ft, tk.hd hk⟩
    · refine b7 b o (fun m => ?_) (sW _ _ (sT _ _ (bt b o n e)))
      rcases own' b m with h | h
      · exact n h
      · rw [h] at e; cases e
    · rcases f7 x hx with h | h
      · exact own' x h
      · have h4 : H4 x = none := none_of (sT.trans sW) h
        by_cases m : x ∈ D.own
        · exact .inl m
        · refine .inr ?_
          cases e : H3 x with
          | none => rfl
          | some o => rw [bt x o m e] at h4; cases h4
  · rintro σ' H4 ⟨z3, z4, D', st, rfl, eD, bt, hd', own', rn, ft, hk⟩
    rw [List.length_map, List.length_map] at ft rn
    rw [List.drop_length] at rn
    cases rn
    have ins4 : H4 D.d = some (.ins (He.ga K "Draft") D'.dx (dfl D'.ca D'.ra D'.pa)) := eD ▸ hd'.ins
    have s04 : Same H H4 := fun x o e => bt _ _ (fun m => by rw [own0 x m] at e; cases e) (s23 _ _ (s02 _ _ e))
    refine ⟨_, rfl, D.d, _, D'.dx, _, _, rfl, ins4, T.c_Draft, T.n_Draft_around, df_around .., _, _, rfl, .inl (.of hd'.ar), _, _, rfl, rfl, _, rfl, ?_⟩
    rw [List.length_map, hd'.bl, decide_eq_false (show ¬ (1 : Int) < ((t.around.length : Nat) : Int) by omega)]
    obtain ⟨cv, c1, c2⟩ := hd'.ce
    refine iteF ⟨_, rfl, D.d, _, D'.dx, _, _, rfl, ins4, T.c_Draft, T.n_Draft_cells, df_cells .., _, rfl, D.d, D'.dx, _, rfl, ins4, (df_no ..).2.1, D', t, by rw [eD]; rfl, hd', ft.mono (by omega), hk, fun fl us H5 nfl s5 hfl hus => ?_⟩
    intro p px hp hpx nep
    have w6 : Same H5 (upd (upd H5 px (.own p)) p (.ins (He.ga K "Vault") px [])) := (same_new hpx).trans (same_new (by rw [upd_ne (Ne.symm nep)]; exact hp))
    rw [tc] at c2
    rw [td] at hus
    refine ⟨p, px, D'.ca, fl, cv, us, v, rfl, upd_same, .of (w6 _ _ (s5 _ _ c1)), dps_same (s5.trans w6) c2, .of (w6 _ _ hfl), dps_same w6 hus, g, fun H6 b6 vt fl => ⟨rfl, q p H6 ?_ (fun x o e => b6 _ _ (ne_of_none (s5 _ _ (s04 _ _ e)) hp) (w6 _ _ (s5 _ _ (s04 _ _ e)))) vt fl⟩⟩
    exact none_of (s04.trans s5) hp
end
end Tx

end M

set_option Elab.async false
set_option linter.all false
set_option maxRecDepth 100000
set_option maxHeartbeats 2000000
namespace M
open PySem PySem.Spec PyProof.Rows L2

namespace Tx
section
variable {P : Program} {w : World} {K : PySem.W.Frag} {mg : Str → Option Value} {base : Heap}
def spDeepE (K : PySem.W.Frag) : Sp := fun vs H Q _ => ∃ (p : Addr), vs = [.ref p] ∧ PoolAt H p ∧ ∀ (v : V) (e : Exp) (H' : Hp), But p H H' → PoolAt H' p → e.good → Dp K H' v e.d → Q v H'
theorem ca_l_deep (T : Txt w K mg) : Ca P w K mg base 4 "_law_deep" (spDeepE K) := by
  refine ca_of (N := ["_law_pool_here", "_law_e_here", "_law_turn", "_law_sign"]) (ps := ["_law_pool_here"]) T.f_l_deep T.g_law_deep ⟨rfl, rfl, rfl, by decide +kernel, rfl, by decide +kernel, by decide +kernel⟩ (fun _ _ _ _ _ _ us hl => match us, hl with | [_], _ => rfl)
    (fun vs H Q E h => by obtain ⟨p, rfl, hp, q⟩ := h; rfl) (fun cdv A outer s H vs Q E hr h => ?_)
  have nd : (["_law_pool_here", "_law_e_here", "_law_turn", "_law_sign"] : List Str).Nodup := by decide +kernel
  obtain ⟨p, rfl, hp, q⟩ := h
  refine ⟨_, (pss_cons (ps_set (i := 1) nd rfl (.inl rfl) (pe_ca (ca_l_draw T) hr (pa_cons (pv 0) (pa_cons pe_int pa_nil))))
      (pss_cons (ps_for PassesOwn.never rfl (pi_range1 rfl T.b_range (pa_cons pe_int pa_nil)) (pg_name (i := 2) nd rfl (.inl rfl)) (pss_cons (ps_set (i := 3) nd rfl (.inl rfl) (pe_ix ix_str pe_str (pe_ca (ca_l_draw T) hr (pa_cons (pv 0) (pa_cons pe_int pa_nil))) (fun _ _ => rfl)))
      (pss_one (ps_if (pt_cmpR op_eq (pe_ca (ca_l_draw T) hr (pa_cons (pv 0) (pa_cons pe_int pa_nil))) pe_int (nomark _)) (pss_one (ps_set (i := 1) nd rfl (.inl rfl) (pe_tup (pa_cons (pv 3) (pa_cons (pv 1) (pa_cons (pe_ix ix_str pe_str (pe_ca (ca_l_draw T) hr (pa_cons (pv 0) (pa_cons pe_int pa_nil))) (fun _ _ => rfl)) pa_nil)))))) (pss_one (ps_set (i := 1) nd rfl (.inl rfl) (pe_tup (pa_cons (pv 3) (pa_cons (pe_ca (ca_l_draw T) hr (pa_cons (pv 0) (pa_cons pe_int pa_nil))) (pa_cons (pv 1) pa_nil))))))))))
      (pss_one (ps_ret (pv 1))))), ?_⟩
  refine ⟨_, rfl, p, 10, rfl, hp, by omega, fun i0 H1 b1 p1 hi0 => ?_⟩
  refine ⟨6, rfl, by decide, by decide, for_it (n := 6) walk_range (fun i σ' H' => ∃ (v : V) (e : Exp) (z2 z3 : Option V), σ' = [some (.ref p), some v, z2, z3] ∧ But p H H' ∧ PoolAt H' p ∧ e.ok ∧ e.dep ≤ i ∧ Dp K H' v e.d) ⟨.int i0, .num i0, none, none, rfl, b1, p1, (by show 0 ≤ i0 ∧ i0 ≤ 9; omega), Nat.zero_le _, .int i0⟩ (fun _ _ _ _ _ => trivial) ?_ ?_⟩
  · rintro i x σ' H0 H2 hi ⟨v, e, z2, z3, rfl, bt, p2, eo, ed, hv⟩ ⟨rfl, rfl⟩
    refine ⟨_, rfl, p, 5, rfl, p2, by omega, fun j H3 b3 p3 hj => ?_⟩
    obtain ⟨cd, hcd, hsg⟩ := sgn5 hj
    refine ⟨_, j, cd, rfl, rfl, (by decide +kernel), hcd, ?_⟩
    refine ⟨_, rfl, p, 2, rfl, p3, by omega, fun z H4 b4 p4 hz => ⟨rfl, _, rfl, ?_⟩⟩
    have b34 := b3.trans b4
    by_cases c0 : z = 0
    · rw [decide_eq_true (show V.int z = V.int 0 from congrArg V.int c0)]
      refine iteT ⟨_, rfl, _, rfl, _, rfl, p, 5, rfl, p4, by omega, fun k H5 b5 p5 hk => ?_⟩
      obtain ⟨cr, hcr, hrg⟩ := let5 hk
      refine ⟨_, k, cr, rfl, rfl, (by decide +kernel), hcr, (by show 3 ≤ sizeLine; decide), fun t nt => ?_⟩
      have s6 := same_new (o := .tup [.str ⟨#[cd]⟩, v, .str ⟨#[cr]⟩]) nt
      refine ⟨.ref t, .op ⟨#[cd]⟩ e (.reg ⟨#[cr]⟩), _, _, rfl, ((bt.trans b34).trans b5).trans (same_but s6), p5.same s6, ⟨hsg, eo, hrg⟩, ?_, .tup (.of upd_same) (.cons (.str _) (.cons (dp_same s6 (dp_but p2.ch (b34.trans b5) hv e.noL)) (.cons (.str _) .nil)))⟩
      show Nat.max e.dep 0 + 1 ≤ i + 1
      have : Nat.max e.dep 0 ≤ i := Nat.max_le.mpr ⟨ed, Nat.zero_le _⟩
      omega
    · rw [decide_eq_false (show ¬ V.int z = V.int 0 from fun y => c0 (V.int.inj y))]
      refine iteF ⟨_, rfl, _, rfl, p, 10, rfl, p4, by omega, fun k H5 b5 p5 hk => ?_⟩
      refine ⟨_, rfl, (by show 3 ≤ sizeLine; decide), fun t nt => ?_⟩
      have s6 := same_new (o := .tup [.str ⟨#[cd]⟩, .int k, v]) nt
      refine ⟨.ref t, .op ⟨#[cd]⟩ (.num k) e, _, _, rfl, ((bt.trans b34).trans b5).trans (same_but s6), p5.same s6, ⟨hsg, (by show 0 ≤ k ∧ k ≤ 9; omega), eo⟩, ?_, .tup (.of upd_same) (.cons (.str _) (.cons (.int _) (.cons (dp_same s6 (dp_but p2.ch (b34.trans b5) hv e.noL)) .nil)))⟩
      show Nat.max 0 e.dep + 1 ≤ i + 1
      have : Nat.max 0 e.dep ≤ i := Nat.max_le.mpr ⟨Nat.zero_le _, ed⟩
      omega
  · rintro σ' H2 ⟨v, e, z2, z3, rfl, bt, p2, eo, ed, hv⟩
    exact ⟨_, rfl, q v e H2 bt p2 ⟨eo, ed⟩ hv⟩
end
end Tx

end M

set_option Elab.async false
set_option linter.all false
set_option maxRecDepth 100000
set_option maxHeartbeats 2000000
namespace M
open PySem PySem.Spec PyProof.Rows L2

/-- what is left: rows, coins; whether rows go deep, whether a deep expression is due -/
def RoomAt (H : Hp) (b : Addr) (n c f g : Int) : Prop := H b = some (.lst [.int n, .int c, .int f, .int g])
structure RmOk (n c f g : Int) : Prop where
  n0 : 0 ≤ n
  c0 : 0 ≤ c
  f0 : 0 ≤ f ∧ f ≤ 1
  g0 : 0 ≤ g ∧ g ≤ 1
theorem RoomAt.but {H H' : Hp} {p b : Addr} {n c f g : Int} (h : RoomAt H b n c f g) (ne : p ≠ b) (s : But p H H') : RoomAt H' b n c f g := s _ _ (Ne.symm ne) h
theorem RoomAt.same {H H' : Hp} {b : Addr} {n c f g : Int} (h : RoomAt H b n c f g) (s : Same H H') : RoomAt H' b n c f g := s _ _ h
theorem RoomAt.ch {H : Hp} {b : Addr} {n c f g : Int} (h : RoomAt H b n c f g) : Ch H b := .lst h
namespace Tx
section
variable {P : Program} {w : World} {K : PySem.W.Frag} {mg : Str → Option Value} {base : Heap}
def spRowsF (K : PySem.W.Frag) : Nat → Sp
  | 0 => fun _ _ _ _ => False
  | k + 1 => fun vs H Q _ => ∃ (p b : Addr) (many : Int) (level loops : Nat) (n c f g : Int), vs = [.ref p, .int many, .int (level : Int), .int (loops : Int), .ref b] ∧ PoolAt H p ∧ RoomAt H b n c f g ∧ RmOk n c f g ∧ p ≠ b ∧ 14 ≤ level + (k + 1) ∧ (1 ≤ many ∧ many ≤ 6) ∧ loops ≤ 2 ∧
      ∀ (v : V) (rs : List Row) (g' : Int) (H' : Hp), But2 p b H H' → PoolAt H' p → RoomAt H' b (n - rowsCl rs) (c - rowsCc rs) f g' → RmOk (n - rowsCl rs) (c - rowsCc rs) f g' → Dp K H' v (.tuple (rowsD rs)) → rowsOk many level loops rs → Q v H'
def spOneF (K : PySem.W.Frag) (k : Nat) : Sp := fun vs H Q _ => ∃ (p b : Addr) (many : Int) (level loops : Nat) (kind n c f g : Int), vs = [.ref p, .int many, .int (level : Int), .int (loops : Int), .ref b, .int kind] ∧ PoolAt H p ∧ RoomAt H b n c f g ∧ RmOk n c f g ∧ p ≠ b ∧ (14 ≤ level + (k + 1) ∧ level ≤ 12) ∧ (1 ≤ many ∧ many ≤ 6) ∧ loops ≤ 2 ∧ (0 ≤ kind ∧ kind ≤ 7) ∧
      ∀ (v : V) (r : Row) (g' : Int) (H' : Hp), But2 p b H H' → PoolAt H' p → RoomAt H' b (n + 1 - r.cl) (c - r.cc) f g' → RmOk (n + 1 - r.cl) (c - r.cc) f g' → Dp K H' v r.d → r.ok many level loops → Q v H'
theorem ca_l_one1 {k : Nat} (R : Ca P w K mg base (2 * k + 6) "_law_rows" (spRowsF K k)) (T : Txt w K mg) : Ca P w K mg base (2 * k + 7) "_law_one" (spOneF K k) := by
    refine ca_of (N := ["_law_pool_here", "_law_many", "_law_level", "_law_loops", "_law_room", "_law_kind", "_law_cell", "_law_reg", "_law_e_here", "_law_first"]) (ps := ["_law_pool_here", "_law_many", "_law_level", "_law_loops", "_law_room", "_law_kind"]) T.f_l_one T.g_law_one ⟨rfl, rfl, rfl, by decide +kernel, rfl, by decide +kernel, by decide +kernel⟩ (fun _ _ _ _ _ _ us hl => match us, hl with | [_, _, _, _, _, _], _ => rfl)
      (fun vs H Q E h => by obtain ⟨p, b, many, level, loops, kind, n, c, f, g, rfl, hp, hb, rm, npb, hl, hmany, hlo, hkind, q⟩ := h; rfl) (fun cdv A outer s H vs Q E hr h => ?_)
    have nd : (["_law_pool_here", "_law_many", "_law_level", "_law_loops", "_law_room", "_law_kind", "_law_cell", "_law_reg", "_law_e_here", "_law_first"] : List Str).Nodup := by decide +kernel
    obtain ⟨p, b, many, level, loops, kind, n, c, f, g, rfl, hp, hb, rm, npb, hl, hmany, hlo, hkind, q⟩ := h
    refine ⟨_, (pss_cons (ps_set (i := 6) nd rfl (.inl rfl) (pe_ca (ca_l_draw T) hr (pa_cons (pv 0) (pa_cons (pv 1) pa_nil)) (by omega)))
      (pss_cons (ps_set (i := 7) nd rfl (.inl rfl) (pe_ix ix_str pe_str (pe_ca (ca_l_draw T) hr (pa_cons (pv 0) (pa_cons pe_int pa_nil)) (by omega)) (fun _ _ => rfl)))
      (pss_cons (ps_set (i := 8) nd rfl (.inl rfl) (pe_ca (ca_l_e 3 T) hr (pa_cons (pv 0) (pa_cons pe_int pa_nil)) (by omega)))
      (pss_cons (ps_if (PW.pt (pw_and (pt_cmpR op_eq (pe_ix ix_list (pv 4) pe_int (fun _ _ => rfl)) pe_int (nomark _)) (pw_and1 (pt_cmpR op_eq (pe_ca (ca_l_draw T) hr (pa_cons (pv 0) (pa_cons pe_int pa_nil)) (by omega)) pe_int (nomark _))))) (pss_cons (ps_asg pe_int (pg_sub (pv 4) pe_int set_list))
      (pss_one (ps_set (i := 8) nd rfl (.inl rfl) (pe_ca (Tx.ca_l_deep T) hr (pa_cons (pv 0) pa_nil) (by omega))))) pss_nil)
      (pss_cons (ps_if (pt_cmpR op_eq (pv 5) pe_int (nomark _)) (pss_one (ps_ret (pe_tup (pa_cons pe_str (pa_cons (pv 7) (pa_cons (pv 6) pa_nil)))))) pss_nil)
      (pss_cons (ps_if (pt_cmpR op_eq (pv 5) pe_int (nomark _)) (pss_one (ps_ret (pe_tup (pa_cons pe_str (pa_cons (pv 6) (pa_cons (pv 8) pa_nil)))))) pss_nil)
      (pss_cons (ps_if (pt_cmpR op_eq (pv 5) pe_int (nomark _)) (pss_one (ps_ret (pe_tup (pa_cons pe_str (pa_cons (pv 7) (pa_cons (pv 6) (pa_cons (pv 8) (pa_cons (pe_ca (ca_l_e 3 T) hr (pa_cons (pv 0) (pa_cons pe_int pa_nil)) (by omega)) pa_nil)))))))) pss_nil)
      (pss_cons (ps_if (pt_cmpR op_eq (pv 5) pe_int (nomark _)) (pss_one (ps_ret (pe_tup (pa_cons pe_str (pa_cons (pv 8) pa_nil))))) pss_nil)
      (pss_cons (ps_if (PW.pt (pw_and (pt_cmpR op_eq (pv 5) pe_int (nomark _)) (pw_and (pt_cmpR op_eq (pv 3) pe_int (nomark _)) (pw_and1 (pt_cmpR op_gt (pe_ix ix_list (pv 4) pe_int (fun _ _ => rfl)) pe_int (nomark _)))))) (pss_cons (ps_asg (pe_op op_sub (pe_ix ix_list (pv 4) pe_int (fun _ _ => rfl)) pe_int) (pg_sub (pv 4) pe_int set_list))
      (pss_one (ps_ret (pe_tup (pa_cons pe_str (pa_cons (pv 7) pa_nil)))))) pss_nil)
      (pss_cons (ps_if (PW.pt (pw_and (pt_cmpR op_eq (pv 5) pe_int (nomark _)) (pw_and1 (pt_cmpR op_lt (pv 3) pe_int (nomark _))))) (pss_one (ps_ret (pe_tup (pa_cons pe_str (pa_cons (pv 8) (pa_cons (pe_ca R hr (pa_cons (pv 0) (pa_cons (pv 1) (pa_cons (pe_op op_add (pv 2) pe_int) (pa_cons (pe_op op_add (pv 3) pe_int) (pa_cons (pv 4) pa_nil))))) (by omega)) pa_nil)))))) pss_nil)
      (pss_cons (ps_if (pt_cmpR op_eq (pv 5) pe_int (nomark _)) (pss_cons (ps_set (i := 9) nd rfl (.inl rfl) (pe_ca R hr (pa_cons (pv 0) (pa_cons (pv 1) (pa_cons (pe_op op_add (pv 2) pe_int) (pa_cons (pv 3) (pa_cons (pv 4) pa_nil))))) (by omega)))
      (pss_one (ps_ret (pe_tup (pa_cons pe_str (pa_cons (pv 8) (pa_cons (pv 9) (pa_cons (pe_ca R hr (pa_cons (pv 0) (pa_cons (pv 1) (pa_cons (pe_op op_add (pv 2) pe_int) (pa_cons (pv 3) (pa_cons (pv 4) pa_nil))))) (by omega)) pa_nil)))))))) pss_nil)
      (pss_one (ps_ret (pe_tup (pa_cons pe_str (pa_cons (pv 7) (pa_cons (pv 8) pa_nil))))))))))))))))), ?_⟩
    refine ⟨_, rfl, _, rfl, p, many, rfl, hp, by omega, fun cell H1 b1 p1 hcell => ?_⟩
    refine ⟨_, rfl, p, 4, rfl, p1, by omega, fun ri H2 b2 p2 hri => ?_⟩
    obtain ⟨cd, hcd, hreg⟩ := let4 hri
    refine ⟨_, ri, cd, rfl, rfl, (by decide +kernel), hcd, ?_⟩
    refine ⟨_, rfl, p, 2, rfl, p2, by omega, fun ev e H3 b3 p3 eo ed de => ?_⟩
    have b03 := (b1.trans b2).trans b3
    have hb3 := hb.but npb b03
    dsimp only [gName]
    refine (?key : ∀ R : TS, (∀ (ev : V) (e : Exp) (g' : Int) (H2 : Hp), But2 p b H H2 → PoolAt H2 p → RoomAt H2 b n c f g' → (0 ≤ g' ∧ g' ≤ 1) → e.good → Dp K H2 ev e.d → R _ [some (.ref p), some (.int many), some (.int (level : Int)), some (.int (loops : Int)), some (.ref b), some (.int kind), some (.int cell), some (.str ⟨#[cd]⟩), some ev, none] H2) → tSeq (tIfS _ _ _) R _ _ _) _ ?rest
    case key =>
      intro R hR
      refine ⟨_, rfl, _, _, _, _, rfl, rfl, .of hb3, at3, rfl, _, rfl, ?_⟩
      by_cases g1 : g = 1
      · rw [decide_eq_true (show V.int g = V.int 1 from congrArg V.int g1)]
        refine iteT ⟨_, rfl, p, 3, rfl, p3, by omega, fun z H4 b4 p4 hz => ⟨rfl, _, rfl, ?_⟩⟩
        have hb4 := hb3.but npb b4
        by_cases z0 : z = 0
        · rw [decide_eq_true (show V.int z = V.int 0 from congrArg V.int z0)]
          refine iteT ⟨_, rfl, b, _, _, 3, rfl, rfl, hb4, rfl, ?_⟩
          have b5 : But b H4 (upd H4 b (.lst (([.int n, .int c, .int f, .int g] : List V).set 3 (.int 0)))) := But.upd
          have hb5 : RoomAt (upd H4 b (.lst (([.int n, .int c, .int f, .int g] : List V).set 3 (.int 0)))) b n c f 0 := upd_same
          generalize upd H4 b (.lst (([.int n, .int c, .int f, .int g] : List V).set 3 (.int 0))) = H5 at b5 hb5 ⊢
          have p5 := p4.but npb b5
          refine ⟨_, rfl, p, rfl, p5, fun v2 e2 H6 b6 p6 g2 d2 => ?_⟩
          exact hR v2 e2 0 H6 ((((But2.l b03).trans (But2.l b4)).trans (But2.r b5)).trans (But2.l b6)) p6 (hb5.but npb b6) ⟨Int.le_refl _, by decide⟩ g2 d2
        · rw [decide_eq_false (show ¬ V.int z = V.int 0 from fun y => z0 (V.int.inj y))]
          exact iteF (hR ev e g H4 ((But2.l b03).trans (But2.l b4)) p4 hb4 rm.g0 ⟨eo, by omega⟩ (dp_but p3.ch b4 de e.noL))
      · rw [decide_eq_false (show ¬ V.int g = V.int 1 from fun y => g1 (V.int.inj y))]
        exact iteF (iteF (hR ev e g H3 (But2.l b03) p3 hb3 rm.g0 ⟨eo, by omega⟩ de))
    intro ev e g' H4 b4 p4 hb4 hg' ge de
    have rm' : RmOk n c f g' := ⟨rm.n0, rm.c0, rm.f0, hg'⟩
    have i1 : n + 1 - ((1 : Nat) : Int) = n := by omega
    have fin1 : ∀ (v : V) (r : Row) (H5 : Hp), r.cl = 1 → r.cc = 0 → But2 p b H H5 → PoolAt H5 p → RoomAt H5 b n c f g' → Dp K H5 v r.d → r.ok many level loops → Q v H5 := fun v r H5 e1 e2 b5 p5 hb5 dv okr =>
      q v r g' H5 b5 p5 (by rw [e1, e2, i1, show c - ((0 : Nat) : Int) = c by omega]; exact hb5) (by rw [e1, e2, i1, show c - ((0 : Nat) : Int) = c by omega]; exact rm') dv okr
    have dec : ∀ (j : Int), kind ≠ j → decide (V.int kind = V.int j) = false := fun j hj => decide_eq_false fun z => hj (V.int.inj z)
    have keep : ∀ {Z : Prop}, (∀ (t : Addr), H4 t = none → Q (.ref t) (upd H4 t (.tup [.str "keep", .str ⟨#[cd]⟩, ev])) → Z) → (∀ (t : Addr), H4 t = none → Q (.ref t) (upd H4 t (.tup [.str "keep", .str ⟨#[cd]⟩, ev]))) := fun _ t nt => by
      have s5 := same_new (o := .tup [.str "keep", .str ⟨#[cd]⟩, ev]) nt
      exact fin1 (.ref t) (.keep ⟨#[cd]⟩ e) _ rfl rfl (b4.trans (But2.same s5)) (p4.same s5) (hb4.same s5) (.tup (.of upd_same) (.cons (.str _) (.cons (.str _) (.cons (dp_same s5 de) .nil)))) ⟨hreg, ge⟩
    have keep := keep (Z := True) fun _ _ _ => trivial
    refine ⟨_, rfl, rfl, _, rfl, ?_⟩
    by_cases c0 : kind = 0
    · rw [decide_eq_true (show V.int kind = V.int 0 from congrArg V.int c0)]
      refine iteT ⟨_, rfl, _, rfl, (by show 3 ≤ sizeLine; decide), fun t nt => ?_⟩
      have s5 := same_new (o := .tup [.str "read", .str ⟨#[cd]⟩, .int cell]) nt
      exact fin1 (.ref t) (.read ⟨#[cd]⟩ cell) _ rfl rfl (b4.trans (But2.same s5)) (p4.same s5) (hb4.same s5) (.tup (.of upd_same) (.cons (.str _) (.cons (.str _) (.cons (.int _) .nil)))) ⟨hreg, hcell⟩
    rw [dec 0 c0]
    refine iteF ⟨_, rfl, rfl, _, rfl, ?_⟩
    by_cases c1 : kind = 1
    · rw [decide_eq_true (show V.int kind = V.int 1 from congrArg V.int c1)]
      refine iteT ⟨_, rfl, _, rfl, (by show 3 ≤ sizeLine; decide), fun t nt => ?_⟩
      have s5 := same_new (o := .tup [.str "set", .int cell, ev]) nt
      exact fin1 (.ref t) (.set cell e) _ rfl rfl (b4.trans (But2.same s5)) (p4.same s5) (hb4.same s5) (.tup (.of upd_same) (.cons (.str _) (.cons (.int _) (.cons (dp_same s5 de) .nil)))) ⟨hcell, ge⟩
    rw [dec 1 c1]
    refine iteF ⟨_, rfl, rfl, _, rfl, ?_⟩
    by_cases c2 : kind = 2
    · rw [decide_eq_true (show V.int kind = V.int 2 from congrArg V.int c2)]
      refine iteT ⟨_, rfl, _, rfl, _, rfl, _, rfl, p, 1, rfl, p4, by omega, fun v2 e2 H5 b5 p5 o2 d2 y2 => ⟨(by show 5 ≤ sizeLine; decide), fun t nt => ?_⟩⟩
      have s5 := same_new (o := .tup [.str "swap", .str ⟨#[cd]⟩, .int cell, ev, v2]) nt
      exact fin1 (.ref t) (.swap ⟨#[cd]⟩ cell e e2) _ rfl rfl ((b4.trans (But2.l b5)).trans (But2.same s5)) (p5.same s5) ((hb4.but npb b5).same s5) (.tup (.of upd_same) (.cons (.str _) (.cons (.str _) (.cons (.int _) (.cons (dp_same s5 (dp_but p4.ch b5 de e.noL)) (.cons (dp_same s5 y2) .nil)))))) ⟨hreg, hcell, ge, o2, by omega⟩
    rw [dec 2 c2]
    refine iteF ⟨_, rfl, rfl, _, rfl, ?_⟩
    by_cases c3 : kind = 3
    · rw [decide_eq_true (show V.int kind = V.int 3 from congrArg V.int c3)]
      refine iteT ⟨_, rfl, (by show 2 ≤ sizeLine; decide), fun t nt => ?_⟩
      have s5 := same_new (o := .tup [.str "answer", ev]) nt
      exact fin1 (.ref t) (.ans e) _ rfl rfl (b4.trans (But2.same s5)) (p4.same s5) (hb4.same s5) (.tup (.of upd_same) (.cons (.str _) (.cons (dp_same s5 de) .nil))) ge
    rw [dec 3 c3]
    refine iteF ⟨_, rfl, rfl, _, rfl, ?_⟩
    obtain ⟨k', rfl⟩ : ∃ k', k = k' + 1 := ⟨k - 1, by omega⟩
    by_cases c4 : kind = 4
    · rw [decide_eq_true (show V.int kind = V.int 4 from congrArg V.int c4)]
      refine iteT ⟨_, rfl, rfl, _, rfl, ?_⟩
      by_cases l0 : loops = 0
      case neg =>
        rw [decide_eq_false (show ¬ V.int ((loops : Nat) : Int) = V.int 0 from fun z => l0 (by have := V.int.inj z; omega))]
        refine iteF (iteF ⟨_, rfl, rfl, _, rfl, ?_⟩)
        rw [dec 5 (by omega)]
        refine iteF (iteF ⟨_, rfl, rfl, _, rfl, ?_⟩)
        rw [dec 6 (by omega)]
        exact iteF ⟨_, rfl, _, rfl, (by show 3 ≤ sizeLine; decide), keep⟩
      rw [decide_eq_true (show V.int ((loops : Nat) : Int) = V.int 0 by rw [l0]; rfl)]
      refine iteT ⟨_, rfl, _, _, _, _, rfl, rfl, .of hb4, at1, _, _, rfl, rfl, _, rfl, ?_⟩
      by_cases cp : 0 < c
      case neg =>
        rw [decide_eq_false cp]
        refine iteF ⟨_, rfl, rfl, _, rfl, ?_⟩
        rw [dec 5 (by omega)]
        refine iteF (iteF ⟨_, rfl, rfl, _, rfl, ?_⟩)
        rw [dec 6 (by omega)]
        exact iteF ⟨_, rfl, _, rfl, (by show 3 ≤ sizeLine; decide), keep⟩
      rw [decide_eq_true cp]
      refine iteT ⟨_, rfl, _, _, _, _, rfl, rfl, .of hb4, at1, _, _, rfl, rfl, _, rfl, b, _, _, 1, rfl, rfl, hb4, rfl, ?_⟩
      have b5 : But b H4 (upd H4 b (.lst (([.int n, .int c, .int f, .int g'] : List V).set 1 (.int (c - 1))))) := But.upd
      have hb5 : RoomAt (upd H4 b (.lst (([.int n, .int c, .int f, .int g'] : List V).set 1 (.int (c - 1))))) b n (c - 1) f g' := upd_same
      generalize upd H4 b (.lst (([.int n, .int c, .int f, .int g'] : List V).set 1 (.int (c - 1)))) = H5 at b5 hb5 ⊢
      have p5 := p4.but npb b5
      refine ⟨_, rfl, (by show 2 ≤ sizeLine; decide), fun t nt => ?_⟩
      have s5 := same_new (o := .tup [.str "coin", .str ⟨#[cd]⟩]) nt
      exact q (.ref t) (.coin ⟨#[cd]⟩) g' _ ((b4.trans (But2.r b5)).trans (But2.same s5)) (p5.same s5) (by rw [show ((Row.cl (.coin ⟨#[cd]⟩) : Nat) : Int) = 1 from rfl, show n + 1 - 1 = n by omega]; exact hb5.same s5) (by rw [show ((Row.cl (.coin ⟨#[cd]⟩) : Nat) : Int) = 1 from rfl, show n + 1 - 1 = n by omega]; exact ⟨rm.n0, by show 0 ≤ c - 1; omega, rm.f0, hg'⟩) (.tup (.of upd_same) (.cons (.str _) (.cons (.str _) .nil))) ⟨hreg, l0⟩
    rw [dec 4 c4]
    refine iteF (iteF ⟨_, rfl, rfl, _, rfl, ?_⟩)
    by_cases c5 : kind = 5
    · rw [decide_eq_true (show V.int kind = V.int 5 from congrArg V.int c5)]
      refine iteT ⟨_, rfl, _, _, rfl, rfl, _, rfl, ?_⟩
      by_cases l2 : loops < 2
      · rw [decide_eq_true (show ((loops : Nat) : Int) < 2 by omega)]
        refine iteT ⟨_, rfl, _, rfl, _, rfl, _, rfl, _, _, rfl, rfl, _, rfl, _, _, rfl, rfl, _, rfl, p, b, many, level + 1, loops + 1, n, c, f, g', rfl, p4, hb4, rm', npb, by omega, hmany, by omega, fun v2 rs g2 H5 b5 p5 hb5 rm5 d5 ok5 => ⟨(by show 3 ≤ sizeLine; decide), fun t nt => ?_⟩⟩
        have s5 := same_new (o := .tup [.str "times", ev, v2]) nt
        have e1 : n + 1 - ((Row.cl (.times e rs) : Nat) : Int) = n - rowsCl rs := by show n + 1 - ((1 + rowsCl rs : Nat) : Int) = _; omega
        exact q (.ref t) (.times e rs) g2 _ ((b4.trans b5).trans (But2.same s5)) (p5.same s5) (by rw [e1]; exact hb5.same s5) (by rw [e1]; exact rm5) (.tup (.of upd_same) (.cons (.str _) (.cons (dp_same s5 (dp_b2 p4.ch hb4.ch b5 de e.noL)) (.cons (dp_same s5 d5) .nil)))) ⟨ge, l2, ok5⟩
      · rw [decide_eq_false (show ¬ ((loops : Nat) : Int) < 2 by omega)]
        refine iteF ⟨_, rfl, rfl, _, rfl, ?_⟩
        rw [dec 6 (by omega)]
        exact iteF ⟨_, rfl, _, rfl, (by show 3 ≤ sizeLine; decide), keep⟩
    rw [dec 5 c5]
    refine iteF (iteF ⟨_, rfl, rfl, _, rfl, ?_⟩)
    by_cases c6 : kind = 6
    · rw [decide_eq_true (show V.int kind = V.int 6 from congrArg V.int c6)]
      refine iteT ⟨_, rfl, _, rfl, _, rfl, _, _, rfl, rfl, _, rfl, _, rfl, p, b, many, level + 1, loops, n, c, f, g', rfl, p4, hb4, rm', npb, by omega, hmany, hlo, fun v1 r1 g1 H5 b5 p5 hb5 rm5 d5 ok5 => ?_⟩
      refine ⟨_, rfl, _, rfl, _, rfl, _, rfl, _, rfl, _, _, rfl, rfl, _, rfl, _, rfl, p, b, many, level + 1, loops, _, _, f, g1, rfl, p5, hb5, rm5, npb, by omega, hmany, hlo, fun v2 r2 g2 H6 b6 p6 hb6 rm6 d6 ok6 => ⟨(by show 4 ≤ sizeLine; decide), fun t nt => ?_⟩⟩
      have s5 := same_new (o := .tup [.str "if", ev, v1, v2]) nt
      have e1 : n + 1 - ((Row.cl (.iff e r1 r2) : Nat) : Int) = n - rowsCl r1 - rowsCl r2 := by show n + 1 - ((1 + (rowsCl r1 + rowsCl r2) : Nat) : Int) = _; omega
      have e2 : c - ((Row.cc (.iff e r1 r2) : Nat) : Int) = c - rowsCc r1 - rowsCc r2 := by show c - ((rowsCc r1 + rowsCc r2 : Nat) : Int) = _; omega
      exact q (.ref t) (.iff e r1 r2) g2 _ (((b4.trans b5).trans b6).trans (But2.same s5)) (p6.same s5) (by rw [e1, e2]; exact hb6.same s5) (by rw [e1, e2]; exact rm6) (.tup (.of upd_same) (.cons (.str _) (.cons (dp_same s5 (dp_b2 p5.ch hb5.ch b6 (dp_b2 p4.ch hb4.ch b5 de e.noL) e.noL)) (.cons (dp_same s5 (dp_b2 p5.ch hb5.ch b6 d5 (rowsD_noL r1))) (.cons (dp_same s5 d6) .nil))))) ⟨ge, ok5, ok6⟩
    rw [dec 6 c6]
    exact iteF ⟨_, rfl, _, rfl, (by show 3 ≤ sizeLine; decide), keep⟩
end
end Tx

end M

set_option Elab.async false
set_option linter.all false
set_option maxRecDepth 100000
set_option maxHeartbeats 2000000
namespace M
open PySem PySem.Spec PyProof.Rows L2

namespace Tx
section
variable {P : Program} {w : World} {K : PySem.W.Frag} {mg : Str → Option Value} {base : Heap}
theorem ca_l_rows (T : Txt w K mg) : ∀ k : Nat, Ca P w K mg base (2 * k + 6) "_law_rows" (spRowsF K k)
  | 0 => ca_false (ps := ["_law_pool_here", "_law_many", "_law_level", "_law_loops", "_law_room"]) T.f_l_rows T.g_law_rows (fun _ _ _ _ _ _ us hl => match us, hl with | [_, _, _, _, _], _ => rfl)
  | k + 1 => by
    have one := ca_l_one1 (ca_l_rows T k) T
    refine ca_of (N := ["_law_pool_here", "_law_many", "_law_level", "_law_loops", "_law_room", "_law_rows_here", "_law_turn", "_law_kind"]) (ps := ["_law_pool_here", "_law_many", "_law_level", "_law_loops", "_law_room"]) T.f_l_rows T.g_law_rows ⟨rfl, rfl, rfl, by decide +kernel, rfl, by decide +kernel, by decide +kernel⟩ (fun _ _ _ _ _ _ us hl => match us, hl with | [_, _, _, _, _], _ => rfl)
      (fun vs H Q E h => by obtain ⟨p, b, many, level, loops, n, c, f, g, rfl, hp, hb, rm, npb, hlv, hmany, hlo, q⟩ := h; rfl) (fun cdv A outer s H vs Q E hr h => ?_)
    have nd : (["_law_pool_here", "_law_many", "_law_level", "_law_loops", "_law_room", "_law_rows_here", "_law_turn", "_law_kind"] : List Str).Nodup := by decide +kernel
    obtain ⟨p, b, many, level, loops, n, c, f, g, rfl, hp, hb, rm, npb, hlv, hmany, hlo, q⟩ := h
    refine ⟨_, (pss_cons (ps_set (i := 5) nd rfl (.inl rfl) (pe_lst pa_nil))
      (pss_cons (ps_if (pt_cmpR op_gt (pv 2) pe_int (nomark _)) (pss_one (ps_ret (pe_tup pa_nil))) pss_nil)
      (pss_cons (ps_for PassesOwn.never rfl (pi_range1 rfl T.b_range (pa_cons (pe_callB (call_max2 rfl) (by rfl) T.b_max boot_max (pa_cons (pe_ca (ca_l_draw T) hr (pa_cons (pv 0) (pa_cons pe_int pa_nil)) (by omega)) (pa_cons (pe_ix ix_list (pv 4) pe_int (fun _ _ => rfl)) pa_nil))) pa_nil)) (pg_name (i := 6) nd rfl (.inl rfl)) (pss_cons (ps_set (i := 7) nd rfl (.inl rfl) (pe_ca (ca_l_draw T) hr (pa_cons (pv 0) (pa_cons pe_int pa_nil)) (by omega)))
      (pss_cons (ps_if (PW.pt (pw_and (pt_cmpR op_eq (pe_ix ix_list (pv 4) pe_int (fun _ _ => rfl)) pe_int (nomark _)) (pw_and1 (pt_cmpR op_eq (pv 6) pe_int (nomark _))))) (pss_one (ps_set (i := 7) nd rfl (.inl rfl) pe_int)) pss_nil)
      (pss_one (ps_if (pt_cmpR op_gt (pe_ix ix_list (pv 4) pe_int (fun _ _ => rfl)) pe_int (nomark _)) (pss_cons (ps_asg (pe_op op_sub (pe_ix ix_list (pv 4) pe_int (fun _ _ => rfl)) pe_int) (pg_sub (pv 4) pe_int set_list))
      (pss_one (ps_expr (pe_bm PySem.F.plainAttrs_list PySem.F.slot_list_append PySem.F.type_list_append mt_append (pv 5) (pa_cons (pe_ca one hr (pa_cons (pv 0) (pa_cons (pv 1) (pa_cons (pv 2) (pa_cons (pv 3) (pa_cons (pv 4) (pa_cons (pv 7) pa_nil)))))) (by omega)) pa_nil))))) pss_nil)))))
      (pss_one (ps_ret (pe_tupleOf (by rfl) T.b_tuple (pv 5))))))), ?_⟩
    refine ⟨(by show 0 ≤ sizeLine; exact Nat.zero_le _), fun l nl => ?_⟩
    have nlp : l ≠ p := fun e => (pool_ne hp nl) e.symm
    have nlb : l ≠ b := fun e => by
      have h : H b = _ := hb
      rw [← e, nl] at h
      cases h
    have s0 := same_new (o := .lst []) nl
    have e0 : upd H l (.lst []) l = some (.lst []) := upd_same
    generalize upd H l (.lst []) = H0 at s0 e0 ⊢
    have hp0 := hp.same s0
    have hb0 := hb.same s0
    refine ⟨_, rfl, _, _, rfl, rfl, _, rfl, ?_⟩
    by_cases l12 : level ≤ 12
    case neg =>
      rw [decide_eq_true (show (12 : Int) < ((level : Nat) : Int) by omega)]
      refine iteT ⟨(by show 0 ≤ sizeLine; exact Nat.zero_le _), fun t nt => ?_⟩
      have s1 := s0.trans (same_new (o := .tup []) nt)
      exact q (.ref t) [] g _ (But2.same s1) (hp.same s1) (by rw [show n - ((rowsCl [] : Nat) : Int) = n from Int.sub_zero n, show c - ((rowsCc [] : Nat) : Int) = c from Int.sub_zero c]; exact hb.same s1) (by rw [show n - ((rowsCl [] : Nat) : Int) = n from Int.sub_zero n, show c - ((rowsCc [] : Nat) : Int) = c from Int.sub_zero c]; exact rm) (.tup (.of upd_same) .nil) trivial
    rw [decide_eq_false (show ¬ (12 : Int) < ((level : Nat) : Int) by omega)]
    refine iteF ⟨_, rfl, p, 4, rfl, hp0, by omega, fun m H1 b1 p1 hm => ?_⟩
    have hb1 := hb0.but npb b1
    have f0 := rm.f0
    have hx : ∀ x : Int, x = (if f > m then f else m) → 0 ≤ x ∧ x ≤ 3 := fun x e => by rw [e]; split <;> omega
    refine ⟨_, rfl, _, _, _, _, rfl, rfl, .of hb1, at2, _, _, rfl, _, rfl, by have := hx _ rfl; omega, by have := hx _ rfl; omega, for_it (n := (if f > m then f else m).toNat) walk_range (fun i σ' H' => ∃ (z6 z7 : Option V) (ys : List V) (rs : List Row) (g' : Int), σ' = [some (.ref p), some (.int many), some (.int (level : Int)), some (.int (loops : Int)), some (.ref b), some (.ref l), z6, z7] ∧ But2 p b H H' ∧ PoolAt H' p ∧ RoomAt H' b (n - rowsCl rs) (c - rowsCc rs) f g' ∧ RmOk (n - rowsCl rs) (c - rowsCc rs) f g' ∧ H' l = some (.lst ys) ∧ DpAll K H' ys (rs.map Row.d) ∧ rowsOk many level loops rs ∧ ys.length ≤ i) ⟨none, none, [], [], g, rfl, (But2.same s0).trans (But2.l b1), p1, by rw [show n - ((rowsCl [] : Nat) : Int) = n from Int.sub_zero n, show c - ((rowsCc [] : Nat) : Int) = c from Int.sub_zero c]; exact hb1, by rw [show n - ((rowsCl [] : Nat) : Int) = n from Int.sub_zero n, show c - ((rowsCc [] : Nat) : Int) = c from Int.sub_zero c]; exact rm, b1 _ _ nlp e0, .nil, trivial, Nat.le_refl _⟩ (fun _ _ _ _ _ => trivial) ?_ ?_⟩
    · rintro i x σ' Hz H2 hi ⟨z6, z7, ys, rs, g', rfl, bt, p2, hb2, rm2, hl2, hys, hok, lys⟩ ⟨rfl, rfl⟩
      have i3 : i < 3 := by have := hx _ rfl; omega
      refine ⟨_, rfl, p, 8, rfl, p2, by omega, fun kd H3 b3 p3 hkd => ?_⟩
      have hb3 := hb2.but npb b3
      have hl3 := b3 _ _ nlp hl2
      have hys3 := dps_but p2.ch b3 hys rows_noL'
      dsimp only [gName]
      refine (?key : ∀ R : TS, (∀ kd : Int, 0 ≤ kd ∧ kd ≤ 7 → R _ [some (.ref p), some (.int many), some (.int (level : Int)), some (.int (loops : Int)), some (.ref b), some (.ref l), some (.int (0 + (i : Int))), some (.int kd)] H3) → tSeq (tIfS _ _ _) R _ _ _) _ ?rest
      case key =>
        intro R hR
        refine ⟨_, rfl, _, _, _, _, rfl, rfl, .of hb3, at2, rfl, _, rfl, ?_⟩
        by_cases f1 : f = 1
        · rw [decide_eq_true (show V.int f = V.int 1 from congrArg V.int f1)]
          refine iteT ⟨_, rfl, rfl, _, rfl, ?_⟩
          by_cases i0 : i = 0
          · rw [decide_eq_true (show V.int (0 + ((i : Nat) : Int)) = V.int 0 by rw [i0]; rfl)]
            exact iteT (hR 6 (by decide))
          · rw [decide_eq_false (show ¬ V.int (0 + ((i : Nat) : Int)) = V.int 0 from fun z => i0 (by have := V.int.inj z; omega))]
            exact iteF (hR kd (by omega))
        · rw [decide_eq_false (show ¬ V.int f = V.int 1 from fun z => f1 (V.int.inj z))]
          exact iteF (iteF (hR kd (by omega)))
      intro kd hkd
      refine ⟨_, rfl, _, _, _, _, rfl, rfl, .of hb3, at0, _, _, rfl, rfl, _, rfl, ?_⟩
      by_cases n0 : 0 < n - ((rowsCl rs : Nat) : Int)
      · rw [decide_eq_true n0]
        refine iteT ⟨_, rfl, _, _, _, _, rfl, rfl, .of hb3, at0, _, _, rfl, rfl, _, rfl, b, _, _, 0, rfl, rfl, hb3, rfl, ?_⟩
        have b4 : But b H3 (upd H3 b (.lst (([.int (n - rowsCl rs), .int (c - rowsCc rs), .int f, .int g'] : List V).set 0 (.int (n - rowsCl rs - 1))))) := But.upd
        have hb4 : RoomAt (upd H3 b (.lst (([.int (n - rowsCl rs), .int (c - rowsCc rs), .int f, .int g'] : List V).set 0 (.int (n - rowsCl rs - 1))))) b (n - rowsCl rs - 1) (c - rowsCc rs) f g' := upd_same
        generalize upd H3 b (.lst (([.int (n - rowsCl rs), .int (c - rowsCc rs), .int f, .int g'] : List V).set 0 (.int (n - rowsCl rs - 1)))) = H4 at b4 hb4 ⊢
        have p4 := p3.but npb b4
        have hl4 := b4 _ _ nlb hl3
        have hys4 := dps_but hb3.ch b4 hys3 rows_noL'
        refine ⟨_, rfl, .inl ⟨rfl, _, .of hl4⟩, _, rfl, _, rfl, _, rfl, _, rfl, _, rfl, _, rfl, p, b, many, level, loops, kd, _, _, f, g', rfl, p4, hb4, ⟨by omega, rm2.c0, rm2.f0, rm2.g0⟩, npb, ⟨by omega, l12⟩, hmany, hlo, hkd, fun v r g2 H5 b5 p5 hb5 rm5 dv rok => ?_⟩
        have hl5 := b5 _ _ nlp nlb hl4
        have hys5 := dps_b2 p4.ch hb4.ch b5 hys4 rows_noL'
        refine ⟨l, _, _, rfl, rfl, hl5, by rw [sizeLine_eq]; omega, ?_⟩
        have bL : But l H5 (upd H5 l (.lst (ys ++ [v]))) := But.upd
        have cl : Ch H5 l := .lst hl5
        have e1 : n - ((rowsCl rs : Nat) : Int) - 1 + 1 - (r.cl : Nat) = n - ((rowsCl (rs ++ [r]) : Nat) : Int) := by rw [cl_app, show rowsCl [r] = r.cl from rfl]; omega
        have e2 : c - ((rowsCc rs : Nat) : Int) - (r.cc : Nat) = c - ((rowsCc (rs ++ [r]) : Nat) : Int) := by rw [cc_app, show rowsCc [r] = r.cc from rfl]; omega
        rw [e1, e2] at hb5 rm5
        refine ⟨_, _, ys ++ [v], rs ++ [r], g2, rfl, fun a o h1 h2 e => bL _ _ (ne_of_none e nl) (b5 _ _ h1 h2 (b4 _ _ h2 (b3 _ _ h1 (bt _ _ h1 h2 e)))), p5.but (Ne.symm nlp) bL, bL _ _ (Ne.symm nlb) hb5, rm5, upd_same, ?_, ok_app hok ⟨l12, rok, trivial⟩, by rw [List.length_append, List.length_singleton]; omega⟩
        rw [List.map_append]
        exact dps_snocT (dps_but cl bL hys5 rows_noL') (dp_but cl bL dv r.noL)
      · rw [decide_eq_false n0]
        exact iteF ⟨_, _, ys, rs, g', rfl, bt.trans (But2.l b3), p3, hb3, rm2, hl3, hys3, hok, by omega⟩
    · rintro σ' H2 ⟨z6, z7, ys, rs, g', rfl, bt, p2, hb2, rm2, hl2, hys, hok, lys⟩
      refine ⟨_, rfl, .inl ⟨l, ys, rfl, .of hl2, fun t nt => ?_⟩⟩
      have s1 := same_new (o := .tup ys) nt
      exact q (.ref t) rs g' _ (bt.trans (But2.same s1)) (p2.same s1) (hb2.same s1) rm2 (.tup (.of upd_same) (by rw [rowsD_map]; exact dps_same s1 hys)) hok
end
end Tx

end M

set_option Elab.async false
set_option linter.all false
set_option maxRecDepth 100000
set_option maxHeartbeats 2000000
namespace M
open PySem PySem.Spec PyProof.Rows L2

/-- the last letter tells the place, one of eight -/
def EndsE (s : Str) (j : Nat) : Prop := ∃ (p : List Nat) (c : Nat), s.cps.toList = p ++ [c] ∧ 97 ≤ c ∧ ((c : Int) - 97) % 8 = (3 * (j : Int) + 1) % 8
theorem EndsE.ne {s t : Str} {i j : Nat} (h : EndsE s i) (k : EndsE t j) (hi : i < 8) (hj : j < 8) (n : i ≠ j) : s ≠ t := fun e => by
  obtain ⟨p, c, h1, _, h2⟩ := h
  obtain ⟨q, d, k1, _, k2⟩ := k
  rw [e, k1] at h1
  have : d = c := by
    have := congrArg List.getLast? h1
    rw [List.getLast?_append, List.getLast?_append] at this
    exact Option.some.inj this
  subst this
  omega
namespace Tx
section
variable {P : Program} {w : World} {K : PySem.W.Frag} {mg : Str → Option Value} {base : Heap}
def spNmE (K : PySem.W.Frag) : Sp := fun vs H Q _ => ∃ (p : Addr) (k : Nat), vs = [.ref p, .int (k : Int)] ∧ PoolAt H p ∧ k < 8 ∧ ∀ (s : Str) (H' : Hp), But p H H' → PoolAt H' p → NameOk s → EndsE s k → Q (.str s) H'
theorem ca_l_name (T : Txt w K mg) : Ca P w K mg base 4 "_law_name" (spNmE K) := by
  refine ca_of (N := ["_law_pool_here", "_law_k", "_law_letters", "_law_turn", "_law_name_here"]) (ps := ["_law_pool_here", "_law_k"]) T.f_l_name T.g_law_name ⟨rfl, rfl, rfl, by decide +kernel, rfl, by decide +kernel, by decide +kernel⟩ (fun _ _ _ _ _ _ us hl => match us, hl with | [_, _], _ => rfl)
    (fun vs H Q E h => by obtain ⟨p, k, rfl, hp, hk8, q⟩ := h; rfl) (fun cdv A outer s H vs Q E hr h => ?_)
  have nd : (["_law_pool_here", "_law_k", "_law_letters", "_law_turn", "_law_name_here"] : List Str).Nodup := by decide +kernel
  obtain ⟨p, k, rfl, hp, hk8, q⟩ := h
  refine ⟨_, (pss_cons (ps_set (i := 2) nd rfl (.inr rfl) pe_str)
      (pss_cons (ps_set (i := 4) nd rfl (.inl rfl) (pe_join pe_str (pe_lc (own := [("_law_turn", 3)]) (tt := tYes) rfl nd (pi_range1 rfl T.b_range (pa_cons (pe_ca (ca_l_draw T) hr (pa_cons (pv 0) (pa_cons pe_int pa_nil))) pa_nil)) (blkOk_by (N := ["_law_pool_here", "_law_k", "_law_letters", "_law_turn", "_law_name_here"]) (sc := defScope s_l_name) (by decide +kernel)) (fun _ _ _ _ _ => pg_name (i := 3) nd rfl (.inl rfl)) (fun _ _ _ _ _ => pts_nil) (fun _ _ _ _ _ => pe_ix ix_str (pv 2) (pe_ca (ca_l_draw T) hr (pa_cons (pv 0) (pa_cons pe_int pa_nil))) (fun _ _ => rfl)))))
      (pss_one (ps_ret (pe_op op_add_str (pv 4) (pe_ix ix_str (pv 2) (pe_op op_add (pe_op op_mul pe_int (pe_ca (ca_l_draw T) hr (pa_cons (pv 0) (pa_cons pe_int pa_nil)))) (pe_op op_mod (pe_callTy call_int1 (by rfl) T.b_int boot_int (pa_cons (pe_op op_add (pe_op op_mul pe_int (pv 1)) pe_int) pa_nil)) pe_int)) (fun _ _ => rfl))))))), ?_⟩
  refine ⟨⟨_, rfl⟩, _, rfl, p, 8, rfl, hp, by omega, fun m H2 b2 p2 hm => ⟨m, rfl, by omega, by omega, fun D nD => ?_⟩⟩
  have nDp := pool_nl p2 nD
  refine it_any (n := m.toNat) walk_range (fun i J => ∃ ss : List Str, But p H2 J ∧ PoolAt J p ∧ J D = some (.lst (ss.map V.str)) ∧ ss.length = i ∧ ∀ s ∈ ss, ∃ c, s = ⟨#[c]⟩ ∧ 97 ≤ c ∧ c ≤ 122) ⟨[], same_but (same_new nD), p2.same (same_new nD), upd_same, rfl, fun s h => by cases h⟩ (fun _ _ _ _ => trivial) ?_ ?_
  · rintro j z J0 J hj ⟨ss, bj, pj, hD, el, hss⟩ ⟨rfl, rfl⟩
    refine ⟨rfl, _, rfl, _, rfl, p, 26, rfl, pj, by omega, fun c J2 b6 p6 hc => ?_⟩
    have hat := let26 hc
    have hD2 := b6 _ _ nDp hD
    have bb : But D J2 (upd J2 D (.lst (ss.map V.str ++ [.str ⟨#[97 + c.toNat]⟩]))) := But.upd
    refine ⟨_, c, 97 + c.toNat, rfl, rfl, (by decide +kernel), hat, ss.map V.str, hD2, by rw [List.length_map, sizeLine_eq]; omega, ss ++ [⟨#[97 + c.toNat]⟩], fun a o h e => bb _ _ (ne_of_none e nD) (b6 _ _ h (bj _ _ h e)), p6.but (Ne.symm nDp) bb, by rw [List.map_append]; exact upd_same, by simp [el], fun s hs => ?_⟩
    rcases List.mem_append.mp hs with hs | hs
    · exact hss s hs
    · rw [List.mem_singleton.mp hs]
      exact ⟨_, rfl, by omega, by omega⟩
  · rintro H3 ⟨ss, bj, pj, hD, el, hss⟩
    obtain ⟨j1, j2⟩ := join_letters hss
    refine ⟨_, D, ss, rfl, rfl, .inl (.of hD), ?_, ?_⟩
    · have : (ss.map (·.length)).sum ≤ ss.length := by
        clear hD el j1 j2
        induction ss with
        | nil => exact Nat.le_refl _
        | cons s r ih =>
          obtain ⟨c, rfl, _⟩ := hss s List.mem_cons_self
          have := ih fun x hx => hss x (List.mem_cons_of_mem _ hx)
          rw [List.map_cons, List.sum_cons, List.length_cons]
          show 1 + _ ≤ _
          omega
      have e0 : ("" : Str).length = 0 := by decide +kernel
      rw [e0]
      omega
    generalize Txt.join ("" : Str) ss = nm at j1 j2 ⊢
    refine ⟨_, rfl, _, rfl, _, rfl, p, 3, rfl, pj, by omega, fun j H4 b4 p4 hj => ?_⟩
    refine ⟨_, _, rfl, rfl, .inl (by decide), _, rfl, _, _, rfl, rfl, .inl (by decide), _, _, rfl, rfl, .inl ⟨_, rfl, ?_⟩⟩
    refine ⟨_, _, rfl, rfl, (by show (0 : Int) < 8; decide), _, _, rfl, rfl, ?_⟩
    have hidx : 0 ≤ 8 * j + (3 * (k : Int) + 1) % 8 ∧ 8 * j + (3 * (k : Int) + 1) % 8 < 26 := by omega
    have ln : nm.length ≤ 7 := by rw [str_len, j1]; omega
    refine ⟨_, 8 * j + (3 * (k : Int) + 1) % 8, _, rfl, rfl, (by decide +kernel), let26 hidx, _, _, rfl, rfl, by rw [sizeLine_eq]; show nm.length + 1 ≤ _; omega, ?_⟩
    generalize hcode : 97 + (8 * j + (3 * (k : Int) + 1) % 8).toNat = cd
    have en : (nm ++ (⟨#[cd]⟩ : Str)).cps.toList = nm.cps.toList ++ [cd] := TL.tl_append nm ⟨#[cd]⟩
    have nok : NameOk (nm ++ (⟨#[cd]⟩ : Str)) := by
      refine ⟨by rw [str_len, en, List.length_append]; simp, by rw [str_len, en, List.length_append, j1]; simp; omega, fun c hc => ?_⟩
      rw [en] at hc
      rcases List.mem_append.mp hc with hc | hc
      · exact j2 c hc
      · rw [List.mem_singleton.mp hc]
        omega
    have nen : EndsE (nm ++ (⟨#[cd]⟩ : Str)) k := ⟨_, cd, en, by omega, by omega⟩
    exact q _ H4 ((b2.trans bj).trans b4) p4 nok nen
end
end Tx

end M

set_option Elab.async false
set_option linter.all false
set_option maxRecDepth 100000
set_option maxHeartbeats 2000000
namespace M
open PySem PySem.Spec PyProof.Rows L2

namespace Tx
section
variable {P : Program} {w : World} {K : PySem.W.Frag} {mg : Str → Option Value} {base : Heap}
def spVaultD (K : PySem.W.Frag) : Sp := fun vs H Q _ => ∃ (p : Addr), vs = [.ref p] ∧ PoolAt H p ∧
  ∀ (t a d : Addr) (xs ys : List V) (cs : List (Int × Int)) (ds : List (Str × Int × List Row)) (H' : Hp), But p H H' → PoolAt H' p → H' t = some (.tup [.ref a, .ref d]) → H' a = some (.lst xs) → DpAll K H' xs (cs.map cellD) → H' d = some (.lst ys) → DpAll K H' ys (ds.map deedD) → VGood ⟨cs, ds⟩ → (∀ d ∈ ds, rowsCl d.2.2 ≤ 30) → Q (.ref t) H'
theorem ca_l_vault (T : Txt w K mg) : Ca P w K mg base 33 "_law_vault" (spVaultD K) := by
    have R := ca_l_rows (P := P) (base := base) T 13
    refine ca_of (N := ["_law_pool_here", "_law_room", "_law_many", "_law_cells", "_law_k", "_law_size", "_law_deeds", "_law_name_here", "_law_choices"]) (ps := ["_law_pool_here"]) T.f_l_vault T.g_law_vault ⟨rfl, rfl, rfl, by decide +kernel, rfl, by decide +kernel, by decide +kernel⟩ (fun _ _ _ _ _ _ us hl => match us, hl with | [_], _ => rfl)
      (fun vs H Q E h => by obtain ⟨p, rfl, hp, q⟩ := h; rfl) (fun cdv A outer s H vs Q E hr h => ?_)
    have nd : (["_law_pool_here", "_law_room", "_law_many", "_law_cells", "_law_k", "_law_size", "_law_deeds", "_law_name_here", "_law_choices"] : List Str).Nodup := by decide +kernel
    obtain ⟨p, rfl, hp, q⟩ := h
    refine ⟨_, (pss_cons (ps_set (i := 1) nd rfl (.inl rfl) (pe_lst (pa_cons pe_int (pa_cons pe_int (pa_cons (pe_op op_fdiv (pe_ca (ca_l_draw T) hr (pa_cons (pv 0) (pa_cons pe_int pa_nil)) (by omega)) pe_int) (pa_cons (pe_ca (ca_l_draw T) hr (pa_cons (pv 0) (pa_cons pe_int pa_nil)) (by omega)) pa_nil))))))
      (pss_cons (ps_set (i := 2) nd rfl (.inl rfl) (pe_op op_add pe_int (pe_ca (ca_l_draw T) hr (pa_cons (pv 0) (pa_cons pe_int pa_nil)) (by omega))))
      (pss_cons (ps_set (i := 3) nd rfl (.inl rfl) (pe_lst pa_nil))
      (pss_cons (ps_for PassesOwn.never rfl (pi_range1 rfl T.b_range (pa_cons (pv 2) pa_nil)) (pg_name (i := 4) nd rfl (.inl rfl)) (pss_cons (ps_set (i := 5) nd rfl (.inl rfl) (pe_op op_add pe_int (pe_ca (ca_l_draw T) hr (pa_cons (pv 0) (pa_cons pe_int pa_nil)) (by omega))))
      (pss_one (ps_expr (pe_bm PySem.F.plainAttrs_list PySem.F.slot_list_append PySem.F.type_list_append mt_append (pv 3) (pa_cons (pe_tup (pa_cons (pv 5) (pa_cons (pe_ca (ca_l_draw T) hr (pa_cons (pv 0) (pa_cons (pv 5) pa_nil)) (by omega)) pa_nil))) pa_nil))))))
      (pss_cons (ps_set (i := 6) nd rfl (.inl rfl) (pe_lst pa_nil))
      (pss_cons (ps_for PassesOwn.never rfl (pi_range1 rfl T.b_range (pa_cons (pe_op op_add pe_int (pe_ca (ca_l_draw T) hr (pa_cons (pv 0) (pa_cons pe_int pa_nil)) (by omega))) pa_nil)) (pg_name (i := 4) nd rfl (.inl rfl)) (pss_cons (ps_set (i := 7) nd rfl (.inl rfl) (pe_ca (ca_l_name T) hr (pa_cons (pv 0) (pa_cons (pv 4) pa_nil)) (by omega)))
      (pss_cons (ps_set (i := 8) nd rfl (.inl rfl) (pe_op op_add pe_int (pe_ca (ca_l_draw T) hr (pa_cons (pv 0) (pa_cons pe_int pa_nil)) (by omega))))
      (pss_cons (ps_asg pe_int (pg_sub (pv 1) pe_int set_list))
      (pss_one (ps_expr (pe_bm PySem.F.plainAttrs_list PySem.F.slot_list_append PySem.F.type_list_append mt_append (pv 6) (pa_cons (pe_tup (pa_cons (pv 7) (pa_cons (pv 8) (pa_cons (pe_ca R hr (pa_cons (pv 0) (pa_cons (pv 2) (pa_cons pe_int (pa_cons pe_int (pa_cons (pv 1) pa_nil))))) (by omega)) pa_nil)))) pa_nil))))))))
      (pss_one (ps_ret (pe_tup (pa_cons (pv 3) (pa_cons (pv 6) pa_nil))))))))))), ?_⟩
    refine ⟨_, rfl, p, 3, rfl, hp, by omega, fun dp H1 b1 p1 hdp => ?_⟩
    refine ⟨_, _, rfl, rfl, (by show (0 : Int) < 2 ∧ (2 : Int) < 1073741824; decide), _, rfl, p, 2, rfl, p1, by omega, fun g H2 b2 p2 hg => ⟨(by show 4 ≤ sizeLine; decide), fun b nb => ?_⟩⟩
    have nbp := pool_nl p2 nb
    have b12 := b1.trans b2
    have b12' := b12
    have s3 := same_new (o := .lst [.int 30, .int 4, .int (dp / 2), .int g]) nb
    have hb3 : RoomAt (upd H2 b (.lst [.int 30, .int 4, .int (dp / 2), .int g])) b 30 4 (dp / 2) g := upd_same
    have rm3 : RmOk 30 4 (dp / 2) g := ⟨by decide, by decide, by omega, by omega⟩
    have b13 := b12.trans (same_but s3)
    have p3 := p2.same s3
    generalize upd H2 b (.lst [.int 30, .int 4, .int (dp / 2), .int g]) = H3 at s3 hb3 b13 p3 ⊢
    refine ⟨_, rfl, p, 6, rfl, p3, by omega, fun m H4 b4 p4 hm => ⟨_, _, rfl, rfl, (by show 0 ≤ sizeLine; exact Nat.zero_le _), fun la nla => ?_⟩⟩
    have nlap := pool_nl p4 nla
    have hb4 := hb3.but nbp.symm b4
    have nlab : la ≠ b := fun e => by
      have h : H4 b = _ := hb4
      rw [← e, nla] at h
      cases h
    have b14 := b13.trans b4
    have s5 := same_new (o := .lst []) nla
    have hl5 : upd H4 la (.lst []) la = some (.lst []) := upd_same
    have b15 := (b13.trans b4).trans (same_but s5)
    have p5 := p4.same s5
    have hb5 := hb4.same s5
    generalize upd H4 la (.lst []) = H5 at s5 hl5 b15 p5 hb5 ⊢
    refine ⟨_, rfl, 1 + m, rfl, by omega, by omega, ?_⟩
    refine for_it (n := (1 + m).toNat) walk_range (fun i σ' H' => ∃ (x4 x5 : Option V) (ys : List V) (cs : List (Int × Int)), σ' = [some (.ref p), some (.ref b), some (.int (1 + m)), some (.ref la), x4, x5, none, none, none] ∧ But p H H' ∧ PoolAt H' p ∧ RoomAt H' b 30 4 (dp / 2) g ∧ H' la = some (.lst ys) ∧ DpAll K H' ys (cs.map cellD) ∧ cs.length = i ∧ ∀ c ∈ cs, CellOk c) ⟨none, none, [], [], rfl, b15, p5, hb5, hl5, .nil, rfl, fun c h => nomatch h⟩ (fun _ _ _ _ _ => trivial) ?_ ?_
    · rintro i z σ' Hz H' hi ⟨x4, x5, ys, cs, rfl, bt, pt, hbt, hl, hys, hlen, hcs⟩ ⟨rfl, rfl⟩
      have lys : ys.length = i := by rw [dps_len hys, List.length_map, hlen]
      refine ⟨_, rfl, p, 9, rfl, pt, by omega, fun sz H6 b6 p6 hsz => ⟨_, _, rfl, rfl, ?_⟩⟩
      refine ⟨_, rfl, .inl ⟨rfl, _, .of (b6 _ _ nlap hl)⟩, _, rfl, _, rfl, _, rfl, p, _, rfl, p6, by omega, fun x H7 b7 p7 hx => ⟨(by show 2 ≤ sizeLine; decide), fun t nt => ?_⟩⟩
      have b67 := b6.trans b7
      have s8 := same_new (o := .tup [.int (1 + sz), .int x]) nt
      have b8 := b67.trans (same_but s8)
      have dd : Dp K (upd H7 t (.tup [.int (1 + sz), .int x])) (.ref t) (cellD (1 + sz, x)) := .tup (.of upd_same) (.cons (.int _) (.cons (.int _) .nil))
      have hl8 := b8 _ _ nlap hl
      have p8 := p7.same s8
      have hb8 := hbt.but nbp.symm b8
      generalize upd H7 t (.tup [.int (1 + sz), .int x]) = H8 at s8 b8 dd hl8 p8 hb8 ⊢
      have bb : But la H8 (upd H8 la (.lst (ys ++ [.ref t]))) := But.upd
      refine ⟨la, ys, _, rfl, rfl, hl8, by rw [sizeLine_eq]; omega, _, _, ys ++ [.ref t], cs ++ [(1 + sz, x)], rfl, fun a o h e => bb _ _ (ne_of_none (b14 _ _ h e) nla) (b8 _ _ h (bt _ _ h e)), p8.but (Ne.symm nlap) bb, hb8.but nlab bb, upd_same, ?_, by simp [hlen], fun c hc => ?_⟩
      · rw [List.map_append]
        exact dps_app (dps_but (.lst hl8) bb (dps_but pt.ch b8 hys (cells_noL cs)) (cells_noL cs)) (.cons (dp_but (.lst hl8) bb dd (cell_noL _)) .nil)
      · rcases List.mem_append.mp hc with h | h
        · exact hcs c h
        · rw [List.mem_singleton.mp h]
          exact ⟨by show 1 ≤ 1 + sz; omega, by show 1 + sz ≤ 9; omega, hx.1, hx.2⟩
    · rintro σ' H6 ⟨x4, x5, xs, cs, rfl, b6, p6, hb6, hl6, hxs, hlen, hcs⟩
      have em : (1 + m : Int) = ((cs.length : Nat) : Int) := by omega
      refine ⟨(by show 0 ≤ sizeLine; exact Nat.zero_le _), fun ld nld => ?_⟩
      have nldp := pool_nl p6 nld
      have nldb : ld ≠ b := fun e => by
        have h : H6 b = _ := hb6
        rw [← e, nld] at h
        cases h
      have nldl : ld ≠ la := fun e => by
        rw [← e, nld] at hl6
        cases hl6
      have s7 := same_new (o := .lst []) nld
      have hl7 : upd H6 ld (.lst []) ld = some (.lst []) := upd_same
      have b7 := b6.trans (same_but s7)
      have p7 := p6.same s7
      have hb7 := hb6.same s7
      have ha7 := s7 _ _ hl6
      have hxs7 := dps_same s7 hxs
      generalize upd H6 ld (.lst []) = H7 at s7 hl7 b7 p7 hb7 ha7 hxs7 ⊢
      refine ⟨_, rfl, p, 8, rfl, p7, by omega, fun n H8 b8 p8 hn => ⟨_, _, rfl, rfl, 1 + n, rfl, by omega, by omega, ?_⟩⟩
      refine for_it (n := (1 + n).toNat) walk_range (fun i σ' H' => ∃ (x4 x5 x7 x8 : Option V) (ys : List V) (ds : List (Str × Int × List Row)) (n c g : Int), σ' = [some (.ref p), some (.ref b), some (.int (1 + m)), some (.ref la), x4, x5, some (.ref ld), x7, x8] ∧ But p H H' ∧ PoolAt H' p ∧ RoomAt H' b n c (dp / 2) g ∧ (RmOk n c (dp / 2) g ∧ n ≤ 30) ∧ (H' la = some (.lst xs) ∧ DpAll K H' xs (cs.map cellD)) ∧ H' ld = some (.lst ys) ∧ DpAll K H' ys (ds.map deedD) ∧ ds.length = i ∧ (∀ d ∈ ds, DeedOk cs.length d ∧ rowsCl d.2.2 ≤ 30) ∧ ∀ (j : Nat) (d : Str × Int × List Row), ds[j]? = some d → EndsE d.1 j) ⟨x4, x5, none, none, [], [], 30, 4, g, rfl, b7.trans b8, p8, hb7.but nbp.symm b8, ⟨rm3, by decide⟩, ⟨b8 _ _ nlap ha7, dps_but p7.ch b8 hxs7 (cells_noL cs)⟩, b8 _ _ nldp hl7, .nil, rfl, (fun d h => nomatch h), (fun j d h => by simp at h)⟩ (fun _ _ _ _ _ => trivial) ?_ ?_
      · rintro i z σ' Hz H' hi ⟨_, _, _, _, ys, ds, nn, c, g, rfl, bt, pt, hbt, ⟨rmt, n30⟩, ⟨hat, hxt⟩, hl, hys, hlen2, hds, hen⟩ ⟨rfl, rfl⟩
        have lys : ys.length = i := by rw [dps_len hys, List.length_map, hlen2]
        have i8 : i < 8 := by omega
        refine ⟨_, rfl, _, rfl, p, i, by show [V.ref p, V.int (0 + (i : Int))] = _; rw [Int.zero_add], pt, i8, fun nm H9 b9 p9 nok nen => ?_⟩
        refine ⟨_, rfl, p, 9, rfl, p9, by omega, fun ch H10 b10 p10 hch => ⟨_, _, rfl, rfl, ?_⟩⟩
        have hb10 := (hbt.but nbp.symm b9).but nbp.symm b10
        refine ⟨_, rfl, b, _, _, 1, rfl, rfl, hb10, rfl, ?_⟩
        have b11 : But b H10 (upd H10 b (.lst (([.int nn, .int c, .int (dp / 2), .int g] : List V).set 1 (.int 4)))) := But.upd
        have hb11 : RoomAt (upd H10 b (.lst (([.int nn, .int c, .int (dp / 2), .int g] : List V).set 1 (.int 4)))) b nn 4 (dp / 2) g := upd_same
        generalize upd H10 b (.lst (([.int nn, .int c, .int (dp / 2), .int g] : List V).set 1 (.int 4))) = H11 at b11 hb11 ⊢
        have p11 := p10.but nbp.symm b11
        have b910 := b9.trans b10
        have hl11 := b11 _ _ nldb (b910 _ _ nldp hl)
        have ha11 := b11 _ _ nlab (b910 _ _ nlap hat)
        have hxs11 := dps_but hb10.ch b11 (dps_but pt.ch b910 hxt (cells_noL cs)) (cells_noL cs)
        have hys11 := dps_but hb10.ch b11 (dps_but pt.ch b910 hys (deeds_noL ds)) (deeds_noL ds)
        refine ⟨_, rfl, .inl ⟨rfl, _, .of hl11⟩, _, rfl, _, rfl, _, rfl, _, rfl, _, rfl, p, b, _, 1, 0, _, _, _, _, rfl, p11, hb11, ⟨rmt.n0, by decide, rmt.f0, rmt.g0⟩, nbp.symm, by decide, by omega, by decide, fun v rs g2 H12 b12 p12 hb12 rm12 dv okr => ⟨(by show 3 ≤ sizeLine; decide), fun t nt => ?_⟩⟩
        have hl12 := b12 _ _ nldp nldb hl11
        have ha12 := b12 _ _ nlap nlab ha11
        have hxs12 := dps_b2 p11.ch hb11.ch b12 hxs11 (cells_noL cs)
        have hys12 := dps_b2 p11.ch hb11.ch b12 hys11 (deeds_noL ds)
        have s13 := same_new (o := .tup [.str nm, .int (1 + ch), v]) nt
        have b13' : But2 p b H' (upd H12 t (.tup [.str nm, .int (1 + ch), v])) := (((But2.l b910).trans (But2.r b11)).trans b12).trans (But2.same s13)
        have dd : Dp K (upd H12 t (.tup [.str nm, .int (1 + ch), v])) (.ref t) (deedD (nm, 1 + ch, rs)) := .tup (.of upd_same) (.cons (.str _) (.cons (.int _) (.cons (dp_same s13 dv) .nil)))
        have hl13 := s13 _ _ hl12
        have ha13 := s13 _ _ ha12
        have hxs13 := dps_same s13 hxs12
        have hys13 := dps_same s13 hys12
        have p13 := p12.same s13
        have hb13 := hb12.same s13
        generalize upd H12 t (.tup [.str nm, .int (1 + ch), v]) = H13 at s13 b13' dd hl13 ha13 hxs13 hys13 p13 hb13 ⊢
        have bb : But ld H13 (upd H13 ld (.lst (ys ++ [.ref t]))) := But.upd
        have r0 := rm12.n0
        have c0 := rm12.c0
        refine ⟨ld, ys, _, rfl, rfl, hl13, by rw [sizeLine_eq]; omega, _, _, _, _, ys ++ [.ref t], ds ++ [(nm, 1 + ch, rs)], _, _, g2, rfl, fun a o h e => ?_, p13.but (Ne.symm nldp) bb, hb13.but nldb bb, ⟨rm12, by omega⟩, ⟨bb _ _ (Ne.symm nldl) ha13, dps_but (.lst hl13) bb hxs13 (cells_noL cs)⟩, upd_same, ?_, by simp [hlen2], fun d hd => ?_, fun a d hd => ?_⟩
        · have nab : a ≠ b := ne_of_none (b12' _ _ h e) nb
          exact bb _ _ (ne_of_none (b6 _ _ h e) nld) (b13' _ _ h nab (bt _ _ h e))
        · rw [List.map_append]
          exact dps_app (dps_but (.lst hl13) bb hys13 (deeds_noL ds)) (.cons (dp_but (.lst hl13) bb dd (deed_noL _)) .nil)
        · rcases List.mem_append.mp hd with h | h
          · exact hds d h
          · rw [List.mem_singleton.mp h, ← em]
            exact ⟨⟨nok, ⟨by show 1 ≤ 1 + ch; omega, by show 1 + ch ≤ 9; omega⟩, okr, by show rowsCc rs ≤ 4; omega, by show rowsCl rs ≤ 2000; omega⟩, by show rowsCl rs ≤ 30; omega⟩
        · by_cases cc : a < ds.length
          · rw [List.getElem?_append_left cc] at hd
            exact hen a d hd
          · rw [List.getElem?_append_right (by omega)] at hd
            have e0 : a - ds.length = 0 := by
              cases h : a - ds.length with
              | zero => rfl
              | succ k => rw [h] at hd; simp at hd
            rw [e0] at hd
            cases (Option.some.inj hd)
            have : a = i := by omega
            rw [this]
            exact nen
      · rintro σ' H9 ⟨_, _, _, _, ys, ds, nn, c, g, rfl, bt, pt, hbt, ⟨rmt, n30⟩, ⟨hat, hxt⟩, hl, hys, hlen2, hds, hen⟩
        refine ⟨_, rfl, _, rfl, (by show 2 ≤ sizeLine; decide), fun t nt => ?_⟩
        have s9 := same_new (o := .tup [.ref la, .ref ld]) nt
        refine q t la ld xs ys cs ds _ (bt.trans (same_but s9)) (pt.same s9) upd_same (s9 _ _ hat) (dps_same s9 hxt) (s9 _ _ hl) (dps_same s9 hys) ⟨by show 1 ≤ cs.length; omega, by show cs.length ≤ 6; omega, hcs, by show 1 ≤ ds.length; omega, by show ds.length ≤ 8; omega, fun d hd => (hds d hd).1, ?_⟩ (fun d hd => (hds d hd).2)
        refine List.pairwise_iff_getElem.mpr fun a b ha hb hab => ?_
        rw [List.length_map] at ha hb
        rw [List.getElem_map, List.getElem_map]
        have ha' : a < ds.length := ha
        have hb' : b < ds.length := hb
        exact (hen a _ (List.getElem?_eq_getElem ha)).ne (hen b _ (List.getElem?_eq_getElem hb)) (by omega) (by omega) (by omega)
end
end Tx

end M

set_option Elab.async false
set_option linter.all false
set_option maxRecDepth 100000
set_option maxHeartbeats 2000000
namespace M
open PySem PySem.Spec PyProof.Rows L2

theorem cut_take {xs : List V} {m : Nat} (h : m ≤ xs.length) : cutV xs none (some ((m : Nat) : Int)) = xs.take m := by
  unfold cutV
  rw [HT.sIx_nat, HT.sIx_none, Nat.min_eq_left h]
  rfl
theorem cut_drop {xs : List V} {m : Nat} (h : m ≤ xs.length) : cutV xs (some ((m : Nat) : Int)) none = xs.drop m := by
  unfold cutV
  rw [HT.sIx_nat, HT.sIx_none, Nat.min_eq_left h]
  exact List.take_of_length_le (by rw [List.length_drop]; exact Nat.le_refl _)
theorem cut_init (xs : List V) (x : V) : cutV (xs ++ [x]) none (some (-1)) = xs := by
  unfold cutV
  have e : HT.sIx (xs ++ [x]).length (xs ++ [x]).length (some (-1)) = xs.length := by
    rw [List.length_append, List.length_singleton]
    unfold HT.sIx
    simp
    try omega
  rw [e, HT.sIx_none]
  simp
theorem dps_split {K : PySem.W.Frag} {H : Hp} {ys : List V} {as bs : List PyData} (h : DpAll K H ys (as ++ bs)) : ∃ us ws, ys = us ++ ws ∧ DpAll K H us as ∧ DpAll K H ws bs := by
  induction as generalizing ys with
  | nil => exact ⟨[], ys, rfl, .nil, h⟩
  | cons a as ih =>
    cases h with
    | cons x r =>
      obtain ⟨us, ws, rfl, h1, h2⟩ := ih r
      exact ⟨_ :: us, ws, rfl, .cons x h1, h2⟩
theorem ok_inv {c : Int} {l t : Nat} : ∀ {a b : List Row}, rowsOk c l t (a ++ b) → rowsOk c l t a ∧ rowsOk c l t b
  | [], _, h => ⟨trivial, h⟩
  | _ :: _, _, ⟨h1, h2, h3⟩ => ⟨⟨h1, h2, (ok_inv h3).1⟩, (ok_inv h3).2⟩
theorem ok_rep {c : Int} {r : Row} (h : r.ok c 1 0) : ∀ k, rowsOk c 1 0 (List.replicate k r)
  | 0 => trivial
  | k + 1 => ⟨by decide, h, ok_rep h k⟩
theorem cl_rep {r : Row} (h : r.cl = 1) : ∀ k, rowsCl (List.replicate k r) = k
  | 0 => rfl
  | k + 1 => by
    show r.cl + rowsCl (List.replicate k r) = k + 1
    rw [h, cl_rep h k, Nat.add_comm]
theorem cc_rep {r : Row} (h : r.cc = 0) : ∀ k, rowsCc (List.replicate k r) = 0
  | 0 => rfl
  | k + 1 => by
    show r.cc + rowsCc (List.replicate k r) = 0
    rw [h, cc_rep h k]
theorem split_at {α : Type} {l : List α} {i : Nat} (h : i < l.length) : ∃ x, l[i]? = some x ∧ l = l.take i ++ x :: l.drop (i + 1) := by
  refine ⟨l[i], List.getElem?_eq_getElem h, ?_⟩
  rw [← List.drop_eq_getElem_cons h, List.take_append_drop]
/-- one deed is another one of the same name -/
theorem VGood.set {cs : List (Int × Int)} {l r : List (Str × Int × List Row)} {d e : Str × Int × List Row} (g : VGood ⟨cs, l ++ d :: r⟩) (h : DeedOk cs.length e) (n : e.1 = d.1) : VGood ⟨cs, l ++ e :: r⟩ := by
  refine ⟨g.c0, g.c1, g.cs, ?_, ?_, fun x hx => ?_, ?_⟩
  · show 1 ≤ (l ++ e :: r).length
    rw [List.length_append, List.length_cons]
    omega
  · have := g.d1
    show (l ++ e :: r).length ≤ 8
    have z : (l ++ d :: r).length ≤ 8 := this
    rw [List.length_append, List.length_cons] at z ⊢
    exact z
  · have hx : x ∈ l ++ e :: r := hx
    rcases List.mem_append.mp hx with h1 | h1
    · exact g.ds x (List.mem_append_left _ h1)
    · rcases List.mem_cons.mp h1 with rfl | h1
      · exact h
      · exact g.ds x (List.mem_append_right _ (List.mem_cons_of_mem _ h1))
  · have := g.nd
    show ((l ++ e :: r).map (·.1)).Nodup
    have z : ((l ++ d :: r).map (·.1)).Nodup := this
    rw [List.map_append, List.map_cons] at z ⊢
    rw [n]
    exact z
/-- a deed is left out -/
theorem VGood.out {cs : List (Int × Int)} {l r : List (Str × Int × List Row)} {d : Str × Int × List Row} (g : VGood ⟨cs, l ++ d :: r⟩) (h : 1 < (l ++ d :: r).length) : VGood ⟨cs, l ++ r⟩ := by
  have z : (l ++ d :: r).length ≤ 8 := g.d1
  rw [List.length_append, List.length_cons] at z h
  refine ⟨g.c0, g.c1, g.cs, ?_, ?_, fun x hx => ?_, ?_⟩
  · show 1 ≤ (l ++ r).length
    rw [List.length_append]
    omega
  · show (l ++ r).length ≤ 8
    rw [List.length_append]
    omega
  · have hx : x ∈ l ++ r := hx
    rcases List.mem_append.mp hx with h1 | h1
    · exact g.ds x (List.mem_append_left _ h1)
    · exact g.ds x (List.mem_append_right _ (List.mem_cons_of_mem _ h1))
  · have z : ((l ++ d :: r).map (·.1)).Nodup := g.nd
    show ((l ++ r).map (·.1)).Nodup
    rw [List.map_append] at z ⊢
    exact z.sublist (List.Sublist.append_left (List.sublist_cons_self _ _) _)
theorem VGood.rev {cs : List (Int × Int)} {ds : List (Str × Int × List Row)} (g : VGood ⟨cs, ds⟩) : VGood ⟨cs, ds.reverse⟩ := by
  refine ⟨g.c0, g.c1, g.cs, by show 1 ≤ ds.reverse.length; rw [List.length_reverse]; exact g.d0, by show ds.reverse.length ≤ 8; rw [List.length_reverse]; exact g.d1, fun x hx => g.ds x (List.mem_reverse.mp hx), ?_⟩
  have z : (ds.map (·.1)).Nodup := g.nd
  show (ds.reverse.map (·.1)).Nodup
  rw [List.map_reverse]
  exact List.pairwise_reverse.mpr (List.Pairwise.imp Ne.symm z)

end M

set_option Elab.async false
set_option linter.all false
set_option maxRecDepth 100000
set_option maxHeartbeats 2000000
namespace M
open PySem PySem.Spec PyProof.Rows L2

namespace Tx
section
variable {P : Program} {w : World} {K : PySem.W.Frag} {mg : Str → Option Value} {base : Heap}
def spLongD (K : PySem.W.Frag) : Sp := fun vs H Q _ => ∃ (a p : Addr) (ys : List V) (cs : List (Int × Int)) (ds : List (Str × Int × List Row)), vs = [.ref a, .ref p] ∧ PoolAt H p ∧ H a = some (.lst ys) ∧ a ≠ p ∧ DpAll K H ys (ds.map deedD) ∧ VGood ⟨cs, ds⟩ ∧ (∀ d ∈ ds, rowsCl d.2.2 ≤ 30) ∧
  ∀ (d : Addr) (zs : List V) (es : List (Str × Int × List Row)) (H' : Hp), But p H H' → PoolAt H' p → H' d = some (.lst zs) → d ≠ p → DpAll K H' zs (es.map deedD) → VGood ⟨cs, es⟩ → Q (.ref d) H'
theorem ca_l_long (T : Txt w K mg) : Ca P w K mg base 4 "_law_long" (spLongD K) := by
  refine ca_of (N := ["_law_deeds", "_law_pool_here", "_law_row", "_law_turn", "_law_rows_here", "_law_name_here", "_law_choices", "_law_body"]) (ps := ["_law_deeds", "_law_pool_here"]) T.f_l_long T.g_law_long ⟨rfl, rfl, rfl, by decide +kernel, rfl, by decide +kernel, by decide +kernel⟩ (fun _ _ _ _ _ _ us hl => match us, hl with | [_, _], _ => rfl)
    (fun vs H Q E h => by obtain ⟨a, p, ys, cs, ds, rfl, hp, ha, nap, hys, vg, h30, q⟩ := h; rfl) (fun cdv A outer s H vs Q E hr h => ?_)
  have nd : (["_law_deeds", "_law_pool_here", "_law_row", "_law_turn", "_law_rows_here", "_law_name_here", "_law_choices", "_law_body"] : List Str).Nodup := by decide +kernel
  obtain ⟨a, p, ys, cs, ds, rfl, hp, ha, nap, hys, vg, h30, q⟩ := h
  refine ⟨_, (pss_cons (ps_set (i := 2) nd rfl (.inr rfl) (pe_tup (pa_cons pe_str (pa_cons (pe_ix ix_str pe_str (pe_ca (ca_l_draw T) hr (pa_cons (pv 1) (pa_cons pe_int pa_nil))) (fun _ _ => rfl)) (pa_cons (pe_ca (ca_l_draw T) hr (pa_cons (pv 1) (pa_cons pe_int pa_nil))) pa_nil)))))
      (pss_cons (ps_setLc (i := 4) (own := [("_law_turn", 3)]) rfl nd rfl rfl (by rfl) (pi_range1 rfl T.b_range (pa_cons (pe_op op_add pe_int (pe_ca (ca_l_draw T) hr (pa_cons (pv 1) (pa_cons pe_int pa_nil)))) pa_nil)) (blkOk_by (N := ["_law_deeds", "_law_pool_here", "_law_row", "_law_turn", "_law_rows_here", "_law_name_here", "_law_choices", "_law_body"]) (sc := defScope s_l_long) (by decide +kernel)) (fun _ _ _ _ _ => pg_name (i := 3) nd rfl (.inl rfl)) (fun _ _ _ _ _ => pts_nil) (fun _ _ _ _ _ => pv 2))
      (pss_cons (ps_asg (pe_ix ix_list (pv 0) (pe_un un_neg pe_int) (fun _ _ => rfl)) (pg_three K 5 6 7 rfl rfl nd rfl rfl rfl (.inl rfl) (.inl rfl) (.inl rfl) (.inr rfl) (.inr rfl) (.inr rfl)))
      (pss_one (ps_ret (pe_op op_cat (pe_slice sl_list (pv 0) po_none (po_some (pe_un un_neg pe_int))) (pe_lst (pa_cons (pe_tup (pa_cons (pv 5) (pa_cons (pv 6) (pa_cons (pe_op op_catA (pv 7) (pe_tupleOf (by rfl) T.b_tuple (pv 4))) pa_nil)))) pa_nil)))))))), ?_⟩
  refine ⟨_, rfl, p, 4, rfl, hp, by omega, fun ri H1 b1 p1 hri => ?_⟩
  obtain ⟨cd, hcd, hreg⟩ := let4 hri
  refine ⟨_, ri, cd, rfl, rfl, (by decide +kernel), hcd, ?_⟩
  refine ⟨_, rfl, p, 10, rfl, p1, by omega, fun j H2 b2 p2 hj => ⟨(by show 3 ≤ sizeLine; decide), fun t nt => ?_⟩⟩
  have b12 := b1.trans b2
  have s3 := same_new (o := .tup [.str "keep", .str ⟨#[cd]⟩, .int j]) nt
  have dt : Dp K (upd H2 t (.tup [.str "keep", .str ⟨#[cd]⟩, .int j])) (.ref t) (Row.d (.keep ⟨#[cd]⟩ (.num j))) := .tup (.of upd_same) (.cons (.str _) (.cons (.str _) (.cons (.int _) .nil)))
  have rok : Row.ok cs.length 1 0 (.keep ⟨#[cd]⟩ (.num j)) := ⟨hreg, (by show 0 ≤ j ∧ j ≤ 9; omega), (by show (0 : Nat) ≤ 6; decide)⟩
  have rcl : Row.cl (.keep ⟨#[cd]⟩ (.num j)) = 1 := rfl
  have rcc : Row.cc (.keep ⟨#[cd]⟩ (.num j)) = 0 := rfl
  generalize (Row.keep ⟨#[cd]⟩ (.num j)) = kr at dt rok rcl rcc
  have b3 := b12.trans (same_but s3)
  have p3 := p2.same s3
  generalize upd H2 t (.tup [.str "keep", .str ⟨#[cd]⟩, .int j]) = H3 at s3 dt b3 p3 ⊢
  refine ⟨_, rfl, p, 2, rfl, p3, by omega, fun k H4 b4 p4 hk => ⟨_, _, rfl, rfl, 1969 + k, rfl, by omega, by omega, fun D nD => ?_⟩⟩
  have tp : t ≠ p := pool_nl p2 nt
  have dt4 := dp_but p3.ch b4 dt kr.noL
  have nDp := pool_nl p4 nD
  refine it_any (n := (1969 + k).toNat) walk_range (fun i J => Same H4 J ∧ J D = some (.lst (List.replicate i (.ref t)))) ⟨same_new nD, upd_same⟩ (fun _ _ _ _ => trivial) ?_ ?_
  · rintro i z J0 J hi ⟨sj, hD⟩ ⟨rfl, rfl⟩
    refine ⟨rfl, _, rfl, _, hD, by rw [List.length_replicate, sizeLine_eq]; omega, ?_⟩
    have bb : But D J (upd J D (.lst (List.replicate i (.ref t) ++ [.ref t]))) := But.upd
    exact ⟨fun a o e => bb _ _ (ne_of_none e nD) (sj _ _ e), by rw [List.replicate_succ']; exact upd_same⟩
  · rintro H5 ⟨s5, hD⟩
    obtain ⟨ds', d, rfl⟩ : ∃ ds' d, ds = ds' ++ [d] := ⟨ds.dropLast, ds.getLast (fun z => by have h : 1 ≤ ds.length := vg.d0; rw [z] at h; exact absurd h (by simp)), (List.dropLast_concat_getLast _).symm⟩
    rw [List.map_append] at hys
    obtain ⟨us, ws, rfl, hus, hws⟩ := dps_split hys
    obtain ⟨x, rfl⟩ : ∃ x, ws = [x] := by
      cases hws with
      | cons h r => cases r; exact ⟨_, rfl⟩
    have hb : But p H H5 := (b3.trans b4).trans (same_but s5)
    have hus5 := dps_but hp.ch hb hus (deeds_noL ds')
    cases hws with
    | cons hx r =>
    clear r
    have hx5 := dp_but hp.ch hb hx (deed_noL d)
    obtain ⟨ad, xs, rfl, had, hxs⟩ := dp_tup hx5
    cases hxs with
    | cons h1 r1 =>
    cases r1 with
    | cons h2 r2 =>
    cases r2 with
    | cons h3 r3 =>
    cases r3
    cases h1
    cases h2
    obtain ⟨ab, bs, rfl, hab, hbs⟩ := dp_tup h3
    have ha5 := hb _ _ nap ha
    refine ⟨_, rfl, _, rfl, _, _, _, _, rfl, rfl, .of ha5, (by exact atI_last us (.ref ad)), _, _, rfl, had, rfl, _, _, rfl, _, _, rfl, _, _, rfl, rfl, ?_⟩
    refine ⟨_, rfl, _, rfl, _, rfl, a, _, rfl, .of ha5, fun q1 nq1 => ?_⟩
    rw [cut_init us (.ref ad)]
    have s6 := s5.trans (same_new (o := .lst us) nq1)
    have hq1 : upd H5 q1 (.lst us) q1 = some (.lst us) := upd_same
    have s56 := same_new (o := .lst us) nq1
    generalize upd H5 q1 (.lst us) = H6 at s6 s56 hq1 ⊢
    refine ⟨_, rfl, _, rfl, _, rfl, _, rfl, .inl ⟨D, _, rfl, .of (s56 _ _ hD), fun q2 nq2 => ?_⟩⟩
    generalize hrep : List.replicate (1969 + k).toNat (V.ref t) = rs at hD ⊢
    have hrl : rs.length = (1969 + k).toNat := by rw [← hrep, List.length_replicate]
    have s67 := same_new (o := .tup rs) nq2
    have hq2 : upd H6 q2 (.tup rs) q2 = some (.tup rs) := upd_same
    generalize upd H6 q2 (.tup rs) = H7 at s67 hq2 ⊢
    have s57 := s56.trans s67
    have h30d : rowsCl d.2.2 ≤ 30 := h30 d (List.mem_append_right _ List.mem_cons_self)
    have lb : bs.length ≤ 30 := by
      rw [dps_len hbs, rowsD_map, List.length_map]
      exact Nat.le_trans (rows_len _) h30d
    have dts : ∀ k : Nat, DpAll K H7 (List.replicate k (.ref t)) (List.replicate k kr.d) := fun k => by
      induction k with
      | zero => exact .nil
      | succ k ih => exact .cons (dp_same s57 (dp_same s5 dt4)) ih
    have hbs7 := dps_same s57 hbs
    have all : DpAll K H7 (bs ++ rs) (rowsD (d.2.2 ++ List.replicate (1969 + k).toNat kr)) := by
      rw [rowsD_map, List.map_append, ← rowsD_map, List.map_replicate, ← hrep]
      exact dps_app hbs7 (dts _)
    have rne : rs ≠ [] := fun z => by
      rw [z] at hrl
      have : (0 : Nat) = (1969 + k).toNat := hrl
      omega
    refine (?key : ∀ R : VK, (∀ (v : V) (H8 : Hp), Same H7 H8 → Dp K H8 v (.tuple (rowsD (d.2.2 ++ List.replicate (1969 + k).toNat kr))) → R v H8) → rCatA K (.ref ab) (.ref q2) H7 R) _ ?rest
    case key =>
      intro R hR
      refine ⟨ab, q2, bs, rs, rfl, rfl, same_t s57 hab, .of hq2, by rw [sizeLine_eq]; omega, fun z => ?_, fun _ z => absurd z rne, fun _ _ t3 nt3 => ?_⟩
      · rw [z, List.nil_append] at all
        exact hR _ _ (fun _ _ e => e) (.tup (.of hq2) all)
      · have s78 := same_new (o := .tup (bs ++ rs)) nt3
        exact hR _ _ s78 (.tup (.of upd_same) (dps_same s78 all))
    intro v H8 s8 dv
    refine ⟨(by show 3 ≤ sizeLine; decide), fun t3 nt3 => ?_⟩
    have s9 := same_new (o := .tup [.str d.1, .int d.2.1, v]) nt3
    have s69 := s67.trans (s8.trans s9)
    have dd : Dp K (upd H8 t3 (.tup [.str d.1, .int d.2.1, v])) (.ref t3) (deedD (d.1, d.2.1, d.2.2 ++ List.replicate (1969 + k).toNat kr)) := .tup (.of upd_same) (.cons (.str _) (.cons (.int _) (.cons (dp_same s9 dv) .nil)))
    generalize upd H8 t3 (.tup [.str d.1, .int d.2.1, v]) = H9 at s9 s69 dd ⊢
    refine ⟨(by show 1 ≤ sizeLine; decide), fun q3 nq3 => ?_⟩
    have s10 := same_new (o := .lst [.ref t3]) nq3
    have hq3 : upd H9 q3 (.lst [.ref t3]) q3 = some (.lst [.ref t3]) := upd_same
    have s610 := s69.trans s10
    generalize upd H9 q3 (.lst [.ref t3]) = H10 at s10 s610 hq3 ⊢
    refine ⟨q1, q3, us, [.ref t3], rfl, rfl, s610 _ _ hq1, hq3, ?_, fun q4 nq4 => ?_⟩
    · have l8 : (ds' ++ [d]).length ≤ 8 := vg.d1
      have lu := dps_len hus
      rw [List.length_map] at lu
      rw [List.length_append, List.length_singleton] at l8
      rw [List.length_singleton, sizeLine_eq]
      omega
    have s11 := same_new (o := .lst (us ++ [.ref t3])) nq4
    have s5E := s6.trans (s610.trans s11)
    have hE := ((b3.trans b4).trans (same_but s5E))
    have kok : DeedOk cs.length (d.1, d.2.1, d.2.2 ++ List.replicate (1969 + k).toNat kr) := by
      have g := vg.ds d (List.mem_append_right _ List.mem_cons_self)
      refine ⟨g.1, g.2.1, ok_app g.2.2.1 (ok_rep rok _), ?_, ?_⟩
      · show rowsCc (d.2.2 ++ _) ≤ 4
        rw [cc_app, cc_rep rcc]
        exact g.2.2.2.1
      · show rowsCl (d.2.2 ++ _) ≤ 2000
        rw [cl_app, cl_rep rcl]
        omega
    refine q q4 _ (ds' ++ [(d.1, d.2.1, d.2.2 ++ List.replicate (1969 + k).toNat kr)]) _ hE (p4.same s5E) upd_same (pool_nl (p4.same (s6.trans s610)) nq4) ?_ (vg.set kok rfl)
    · rw [List.map_append]
      exact dps_app (dps_same (s57.trans (s8.trans s9)  |>.trans (s10.trans s11)) hus5) (.cons (dp_same (s10.trans s11) dd) .nil)
end
end Tx

end M

set_option Elab.async false
set_option linter.all false
set_option maxRecDepth 100000
set_option maxHeartbeats 2000000
namespace M
open PySem PySem.Spec PyProof.Rows L2

theorem ix_listKC {X : Cx} (K : PySem.W.Frag) (hK : X.K = K) : IxR X (rIxL K) := hK ▸ ix_list
theorem call_lenKC {X : Cx} (K : PySem.W.Frag) (hK : X.K = K) : CallR X (.builtin "len") (fun xs H Q => ∃ p ys, xs = [.ref p] ∧ (SqL K H p ys ∨ SqT K H p ys) ∧ Q (.int ys.length) H) := hK ▸ call_len_seq
theorem cut_l {us ws : List V} {n : Nat} (h : us.length = n) : cutV (us ++ ws) none (some ((n : Nat) : Int)) = us := by
  rw [cut_take (by rw [List.length_append]; omega), ← h, List.take_left' rfl]
theorem cut_r {us ws : List V} {x : V} {n : Nat} (h : us.length = n) : cutV (us ++ x :: ws) (some ((n : Nat) + 1 : Int)) none = ws := by
  show cutV (us ++ x :: ws) (some ((n + 1 : Nat) : Int)) none = ws
  rw [cut_drop (by rw [List.length_append, List.length_cons]; omega), ← h]
  rw [show us ++ x :: ws = (us ++ [x]) ++ ws by rw [List.append_assoc]; rfl]
  exact List.drop_left' (by rw [List.length_append]; rfl)
theorem at_n {us ws : List V} {x : V} {n : Nat} (h : us.length = n) : atI (us ++ x :: ws) ((n : Nat) : Int) = some x := atI_nat (by rw [← h, List.getElem?_append_right (Nat.le_refl _), Nat.sub_self]; rfl)
theorem split_at' {α : Type} {l : List α} {i : Nat} (h : i < l.length) : ∃ a x b, l = a ++ x :: b ∧ a.length = i := by
  obtain ⟨x, _, e⟩ := split_at h
  exact ⟨_, x, _, e, by rw [List.length_take]; omega⟩
theorem VGood.cell {cl cr : List (Int × Int)} {c e : Int × Int} {ds : List (Str × Int × List Row)} (g : VGood ⟨cl ++ c :: cr, ds⟩) (h : CellOk e) : VGood ⟨cl ++ e :: cr, ds⟩ := by
  have el : (cl ++ c :: cr).length = (cl ++ e :: cr).length := by rw [List.length_append, List.length_append, List.length_cons, List.length_cons]
  refine ⟨?_, ?_, fun x hx => ?_, g.d0, g.d1, fun d hd => ?_, g.nd⟩
  · show 1 ≤ (cl ++ e :: cr).length
    rw [← el]
    exact g.c0
  · show (cl ++ e :: cr).length ≤ 6
    rw [← el]
    exact g.c1
  · have hx : x ∈ cl ++ e :: cr := hx
    rcases List.mem_append.mp hx with h1 | h1
    · exact g.cs x (List.mem_append_left _ h1)
    · rcases List.mem_cons.mp h1 with rfl | h1
      · exact h
      · exact g.cs x (List.mem_append_right _ (List.mem_cons_of_mem _ h1))
  · show DeedOk ((cl ++ e :: cr).length : Nat) d
    rw [← el]
    exact g.ds d hd
theorem dps_rev {K : PySem.W.Frag} {H : Hp} {xs : List V} {ds : List PyData} (h : DpAll K H xs ds) : DpAll K H xs.reverse ds.reverse := by
  induction ds generalizing xs with
  | nil => cases h; exact .nil
  | cons d ds ih =>
    cases h with
    | cons h r =>
      rw [List.reverse_cons, List.reverse_cons]
      exact dps_app (ih r) (.cons h .nil)
mutual
theorem row_up {c e : Int} (h : c ≤ e) : ∀ (r : Row) {deep loops : Nat}, r.ok c deep loops → r.ok e deep loops
  | .read _ _, _, _, z => ⟨z.1, z.2.1, Int.lt_of_lt_of_le z.2.2 h⟩
  | .set _ _, _, _, z => ⟨⟨z.1.1, Int.lt_of_lt_of_le z.1.2 h⟩, z.2⟩
  | .swap _ _ _ _, _, _, z => ⟨z.1, ⟨z.2.1.1, Int.lt_of_lt_of_le z.2.1.2 h⟩, z.2.2⟩
  | .keep _ _, _, _, z => z
  | .coin _, _, _, z => z
  | .iff _ a b, _, _, z => ⟨z.1, rows_up h a z.2.1, rows_up h b z.2.2⟩
  | .times _ a, _, _, z => ⟨z.1, z.2.1, rows_up h a z.2.2⟩
  | .ans _, _, _, z => z
theorem rows_up {c e : Int} (h : c ≤ e) : ∀ (rs : List Row) {deep loops : Nat}, rowsOk c deep loops rs → rowsOk e deep loops rs
  | [], _, _, _ => trivial
  | r :: rs, _, _, z => ⟨z.1, row_up h r z.2.1, rows_up h rs z.2.2⟩
end
/-- one cell more: bodies that are good for few cells are good for more -/
theorem VGood.cmore {cs : List (Int × Int)} {ds : List (Str × Int × List Row)} (g : VGood ⟨cs, ds⟩) (h : cs.length < 6) : VGood ⟨cs ++ [(1, 0)], ds⟩ := by
  have el : (cs ++ [((1 : Int), (0 : Int))]).length = cs.length + 1 := by rw [List.length_append]; rfl
  refine ⟨?_, ?_, fun x hx => ?_, g.d0, g.d1, fun d hd => ?_, g.nd⟩
  · show 1 ≤ (cs ++ [((1 : Int), (0 : Int))]).length
    omega
  · show (cs ++ [((1 : Int), (0 : Int))]).length ≤ 6
    omega
  · rcases List.mem_append.mp (show x ∈ cs ++ [(1, 0)] from hx) with h1 | h1
    · exact g.cs x h1
    · rw [List.mem_singleton.mp h1]
      exact ⟨by decide, by decide, by decide, by decide⟩
  · have z := g.ds d hd
    show DeedOk (((cs ++ [((1 : Int), (0 : Int))]).length : Nat) : Int) d
    exact ⟨z.1, z.2.1, rows_up (by show ((cs.length : Nat) : Int) ≤ _; omega) _ z.2.2.1, z.2.2.2⟩
namespace Tx
section
variable {P : Program} {w : World} {K : PySem.W.Frag} {mg : Str → Option Value} {base : Heap}
def spChgD (K : PySem.W.Frag) : Sp := fun vs H Q _ => ∃ (ca da p : Addr) (xs ys : List V) (cs : List (Int × Int)) (ds : List (Str × Int × List Row)), vs = [.ref ca, .ref da, .ref p] ∧ PoolAt H p ∧ (H ca = some (.lst xs) ∧ ca ≠ p ∧ DpAll K H xs (cs.map cellD)) ∧ (H da = some (.lst ys) ∧ da ≠ p ∧ DpAll K H ys (ds.map deedD)) ∧ VGood ⟨cs, ds⟩ ∧
  ∀ (t a d : Addr) (us ws : List V) (es : List (Int × Int)) (fs : List (Str × Int × List Row)) (H' : Hp), But p H H' → PoolAt H' p → H' t = some (.tup [.ref a, .ref d]) → H' a = some (.lst us) → DpAll K H' us (es.map cellD) → H' d = some (.lst ws) → DpAll K H' ws (fs.map deedD) → VGood ⟨es, fs⟩ → Q (.ref t) H'
theorem ca_l_changed (T : Txt w K mg) : Ca P w K mg base 4 "_law_changed" (spChgD K) := by
  refine ca_of (N := ["_law_cells", "_law_deeds", "_law_pool_here", "_law_kind", "_law_at", "_law_name_here", "_law_choices", "_law_body", "_law_cell", "_law_row", "_law_k"]) (ps := ["_law_cells", "_law_deeds", "_law_pool_here"]) T.f_l_changed T.g_law_changed ⟨rfl, rfl, rfl, by decide +kernel, rfl, by decide +kernel, by decide +kernel⟩ (fun _ _ _ _ _ _ us hl => match us, hl with | [_, _, _], _ => rfl)
    (fun vs H Q E h => by obtain ⟨ca, da, p, xs, ys, cs, ds, rfl, hp, ⟨ha, nap, hxs⟩, ⟨hd, ndp, hys⟩, vg, q⟩ := h; rfl) (fun cdv A outer s H vs Q E hr h => ?_)
  have nd : (["_law_cells", "_law_deeds", "_law_pool_here", "_law_kind", "_law_at", "_law_name_here", "_law_choices", "_law_body", "_law_cell", "_law_row", "_law_k"] : List Str).Nodup := by decide +kernel
  obtain ⟨ca, da, p, xs, ys, cs, ds, rfl, hp, ⟨ha, nap, hxs⟩, ⟨hd, ndp, hys⟩, vg, q⟩ := h
  refine ⟨_, (pss_cons (ps_set (i := 3) nd rfl (.inl rfl) (pe_ca (ca_l_draw T) hr (pa_cons (pv 2) (pa_cons pe_int pa_nil))))
      (pss_cons (ps_set (i := 4) nd rfl (.inl rfl) (pe_ca (ca_l_draw T) hr (pa_cons (pv 2) (pa_cons (pe_callB call_len_seq (by rfl) T.b_len PySem.boot_len (pa_cons (pv 1) pa_nil)) pa_nil))))
      (pss_cons (ps_asg (pe_ix ix_list (pv 1) (pv 4) (fun _ _ => rfl)) (pg_three K 5 6 7 rfl rfl nd rfl rfl rfl (.inl rfl) (.inl rfl) (.inl rfl) (.inr rfl) (.inr rfl) (.inr rfl)))
      (pss_cons (ps_if (pt_cmpR op_eq (pv 3) pe_int (nomark _)) (pss_cons (ps_set (i := 8) nd rfl (.inl rfl) (pe_ca (ca_l_draw T) hr (pa_cons (pv 2) (pa_cons (pe_callB call_len_seq (by rfl) T.b_len PySem.boot_len (pa_cons (pv 0) pa_nil)) pa_nil))))
      (pss_one (ps_ret (pe_tup (pa_cons (pe_op op_cat (pe_op op_cat (pe_slice sl_list (pv 0) po_none (po_some (pv 8))) (pe_lst (pa_cons (pe_tup (pa_cons (pe_ix ix_tup (pe_ix ix_list (pv 0) (pv 8) (fun _ _ => rfl)) pe_int (fun _ _ => rfl)) (pa_cons (pe_op op_sub (pe_op op_sub (pe_ix ix_tup (pe_ix ix_list (pv 0) (pv 8) (fun _ _ => rfl)) pe_int (fun _ _ => rfl)) pe_int) (pe_ix ix_tup (pe_ix ix_list (pv 0) (pv 8) (fun _ _ => rfl)) pe_int (fun _ _ => rfl))) pa_nil))) pa_nil))) (pe_slice sl_list (pv 0) (po_some (pe_op op_add (pv 8) pe_int)) po_none)) (pa_cons (pv 1) pa_nil)))))) pss_nil)
      (pss_cons (ps_if (PW.pt (pw_and (pt_cmpR op_eq (pv 3) pe_int (nomark _)) (pw_and1 (pt_cmpR op_gt (pe_callB call_len_seq (by rfl) T.b_len PySem.boot_len (pa_cons (pv 1) pa_nil)) pe_int (nomark _))))) (pss_one (ps_ret (pe_tup (pa_cons (pv 0) (pa_cons (pe_op op_cat (pe_slice sl_list (pv 1) po_none (po_some (pv 4))) (pe_slice sl_list (pv 1) (po_some (pe_op op_add (pv 4) pe_int)) po_none)) pa_nil))))) pss_nil)
      (pss_cons (ps_if (pt_cmpR op_eq (pv 3) pe_int (nomark _)) (pss_one (ps_ret (pe_tup (pa_cons (pv 0) (pa_cons (pe_op op_cat (pe_op op_cat (pe_slice sl_list (pv 1) po_none (po_some (pv 4))) (pe_lst (pa_cons (pe_tup (pa_cons (pv 5) (pa_cons (pe_op op_sub pe_int (pv 6)) (pa_cons (pv 7) pa_nil)))) pa_nil))) (pe_slice sl_list (pv 1) (po_some (pe_op op_add (pv 4) pe_int)) po_none)) pa_nil))))) pss_nil)
      (pss_cons (ps_if (PW.pt (pw_and (pt_cmpR op_eq (pv 3) pe_int (nomark _)) (pw_and1 (pt_cmpR op_gt (pe_callB call_len_seq (by rfl) T.b_len PySem.boot_len (pa_cons (pv 7) pa_nil)) pe_int (nomark _))))) (pss_cons (ps_set (i := 9) nd rfl (.inl rfl) (pe_ca (ca_l_draw T) hr (pa_cons (pv 2) (pa_cons (pe_callB call_len_seq (by rfl) T.b_len PySem.boot_len (pa_cons (pv 7) pa_nil)) pa_nil))))
      (pss_one (ps_ret (pe_tup (pa_cons (pv 0) (pa_cons (pe_op op_cat (pe_op op_cat (pe_slice sl_list (pv 1) po_none (po_some (pv 4))) (pe_lst (pa_cons (pe_tup (pa_cons (pv 5) (pa_cons (pv 6) (pa_cons (pe_op op_catA (pe_slice sl_tupA (pv 7) po_none (po_some (pv 9))) (pe_slice sl_tupA (pv 7) (po_some (pe_op op_add (pv 9) pe_int)) po_none)) pa_nil)))) pa_nil))) (pe_slice sl_list (pv 1) (po_some (pe_op op_add (pv 4) pe_int)) po_none)) pa_nil)))))) pss_nil)
      (pss_cons (ps_if (pt_cmpR op_eq (pv 3) pe_int (nomark _)) (pss_one (ps_ret (pe_tup (pa_cons (pv 0) (pa_cons (pe_lc (own := [("_law_k", 10)]) (tt := tYes) rfl nd (pi_range1 rfl T.b_range (pa_cons (pe_callB (call_lenKC K rfl) (by rfl) T.b_len PySem.boot_len (pa_cons (pv 1) pa_nil)) pa_nil)) (blkOk_by (N := ["_law_cells", "_law_deeds", "_law_pool_here", "_law_kind", "_law_at", "_law_name_here", "_law_choices", "_law_body", "_law_cell", "_law_row", "_law_k"]) (sc := defScope s_l_changed) (by decide +kernel)) (fun _ _ _ _ _ => pg_name (i := 10) nd rfl (.inl rfl)) (fun _ _ _ _ _ => pts_nil) (fun _ _ _ _ _ => pe_ix (ix_listKC K rfl) (pv 1) (pe_op op_sub (pe_op op_sub (pe_callB (call_lenKC K rfl) (by rfl) T.b_len PySem.boot_len (pa_cons (pv 1) pa_nil)) pe_int) (pv 10)) (fun _ _ => rfl))) pa_nil))))) pss_nil)
      (pss_cons (ps_if (PW.pt (pw_and (pt_cmpR op_eq (pv 3) pe_int (nomark _)) (pw_and1 (pt_cmpR op_lt (pe_callB call_len_seq (by rfl) T.b_len PySem.boot_len (pa_cons (pv 0) pa_nil)) pe_int (nomark _))))) (pss_one (ps_ret (pe_tup (pa_cons (pe_op op_cat (pv 0) (pe_lst (pa_cons (pe_tup (pa_cons pe_int (pa_cons pe_int pa_nil))) pa_nil))) (pa_cons (pv 1) pa_nil))))) pss_nil)
      (pss_one (ps_ret (pe_tup (pa_cons (pv 0) (pa_cons (pv 1) pa_nil)))))))))))))), ?_⟩
  refine ⟨_, rfl, p, 6, rfl, hp, by omega, fun k H1 b1 p1 hk => ?_⟩
  have hd1 := b1 _ _ ndp hd
  have ha1 := b1 _ _ nap ha
  have lds := dps_len hys
  rw [List.length_map] at lds
  have d0 : 1 ≤ ds.length := vg.d0
  have d1 : ds.length ≤ 8 := vg.d1
  refine ⟨_, rfl, _, rfl, _, _, rfl, .inl (.of hd1), p, (ys.length : Nat), rfl, p1, by omega, fun i H2 b2 p2 hi => ?_⟩
  have hd2 := b2 _ _ ndp hd1
  have ha2 := b2 _ _ nap ha1
  have b12 := b1.trans b2
  have hxs2 := dps_but hp.ch b12 hxs (cells_noL cs)
  have hys2 := dps_but hp.ch b12 hys (deeds_noL ds)
  obtain ⟨n, rfl⟩ : ∃ n : Nat, i = (n : Int) := ⟨i.toNat, by omega⟩
  have hn : n < ds.length := by omega
  obtain ⟨l, d, r, rfl, ln⟩ := split_at' hn
  rw [List.map_append, List.map_cons] at hys2
  obtain ⟨us, wx, rfl, hus, hws⟩ := dps_split hys2
  cases hws with
  | @cons x ws _ _ hx hr' =>
  have lun : us.length = n := by rw [dps_len hus, List.length_map, ln]
  obtain ⟨ad, xd, rfl, had, hxd⟩ := dp_tup hx
  cases hxd with
  | cons h1 r1 =>
  cases r1 with
  | cons h2 r2 =>
  cases r2 with
  | cons h3 r3 =>
  cases r3
  cases h1
  cases h2
  obtain ⟨ab, bs, rfl, hab, hbs⟩ := dp_tup h3
  have dok : DeedOk cs.length d := vg.ds d (List.mem_append_right _ List.mem_cons_self)
  refine ⟨_, rfl, _, rfl, _, _, _, _, rfl, rfl, .of hd2, at_n lun, _, _, rfl, had, rfl, _, _, rfl, _, _, rfl, _, _, rfl, rfl, ?_⟩
  have dec : ∀ (j : Int), k ≠ j → decide (V.int k = V.int j) = false := fun j hj => decide_eq_false fun z => hj (V.int.inj z)
  have nl' : ∀ d ∈ l.map deedD, NoL d := deeds_noL l
  have nr' : ∀ d ∈ r.map deedD, NoL d := deeds_noL r
  refine ⟨_, rfl, rfl, _, rfl, ?_⟩
  by_cases k0 : k = 0
  · rw [decide_eq_true (show V.int k = V.int 0 from congrArg V.int k0)]
    refine iteT ⟨_, rfl, _, rfl, _, _, rfl, .inl (.of ha2), p, (xs.length : Nat), rfl, p2, by have z : 1 ≤ cs.length := vg.c0; have z2 : cs.length ≤ 6 := vg.c1; have := dps_len hxs2; rw [List.length_map] at this; omega, fun j H3 b3 p3 hj => ?_⟩
    have lxs := dps_len hxs2
    rw [List.length_map] at lxs
    have hxs3 := dps_but p2.ch b3 hxs2 (cells_noL cs)
    have ha3 := b3 _ _ nap ha2
    have hd3 := b3 _ _ ndp hd2
    obtain ⟨m, rfl⟩ : ∃ m : Nat, j = (m : Int) := ⟨j.toNat, by omega⟩
    obtain ⟨cl, c, cr, rfl, lm⟩ := split_at' (show m < cs.length by omega)
    rw [List.map_append, List.map_cons] at hxs3
    obtain ⟨vs, wy, rfl, hvs, hwy⟩ := dps_split hxs3
    cases hwy with
    | @cons y zs _ _ hy hzs =>
    have lvm : vs.length = m := by rw [dps_len hvs, List.length_map, lm]
    obtain ⟨ac, xc, rfl, hac, hxc⟩ := dp_tup hy
    cases hxc with
    | cons g1 r1 =>
    cases r1 with
    | cons g2 r2 =>
    cases r2
    cases g1
    cases g2
    refine ⟨_, rfl, _, rfl, _, rfl, ca, _, rfl, .of ha3, fun q1 nq1 => ?_⟩
    rw [cut_l lvm]
    have t1 := same_new (o := .lst vs) nq1
    have hq1 : upd H3 q1 (.lst vs) q1 = some (.lst vs) := upd_same
    generalize upd H3 q1 (.lst vs) = G1 at t1 hq1 ⊢
    have ha4 := t1 _ _ ha3
    have hac4 := same_t t1 hac
    refine ⟨_, rfl, _, rfl, _, _, _, _, rfl, rfl, .of ha4, at_n lvm, _, _, _, _, rfl, rfl, hac4, rfl, _, rfl, _, rfl, _, _, _, _, rfl, rfl, .of ha4, at_n lvm, _, _, _, _, rfl, rfl, hac4, rfl, _, _, rfl, rfl, _, rfl, _, rfl, _, _, _, _, rfl, rfl, .of ha4, at_n lvm, _, _, _, _, rfl, rfl, hac4, rfl, _, _, rfl, rfl, (by show 2 ≤ sizeLine; decide), fun x1 nx1 => ?_⟩
    have t2 := same_new (o := .tup [.int c.1, .int (c.1 - 1 - c.2)]) nx1
    have hx1 : upd G1 x1 (.tup [.int c.1, .int (c.1 - 1 - c.2)]) x1 = some (.tup [.int c.1, .int (c.1 - 1 - c.2)]) := upd_same
    generalize upd G1 x1 (.tup [.int c.1, .int (c.1 - 1 - c.2)]) = G2 at t2 hx1 ⊢
    have dd : Dp K G2 (.ref x1) (cellD (c.1, c.1 - 1 - c.2)) := .tup (.of hx1) (.cons (.int _) (.cons (.int _) .nil))
    refine ⟨(by show 1 ≤ sizeLine; decide), fun q2 nq2 => ?_⟩
    have t3 := same_new (o := .lst [.ref x1]) nq2
    have hq2 : upd G2 q2 (.lst [.ref x1]) q2 = some (.lst [.ref x1]) := upd_same
    generalize upd G2 q2 (.lst [.ref x1]) = G3 at t3 hq2 ⊢
    have l6 : (cl ++ c :: cr).length ≤ 6 := vg.c1
    rw [List.length_append, List.length_cons] at l6
    have lzs := dps_len hzs
    rw [List.length_map] at lzs
    refine ⟨q1, q2, vs, [.ref x1], rfl, rfl, (t2.trans t3) _ _ hq1, hq2, by rw [List.length_singleton, sizeLine_eq]; omega, fun q3 nq3 => ?_⟩
    have t4 := same_new (o := .lst (vs ++ [.ref x1])) nq3
    have hq3 : upd G3 q3 (.lst (vs ++ [.ref x1])) q3 = some (.lst (vs ++ [.ref x1])) := upd_same
    generalize upd G3 q3 (.lst (vs ++ [.ref x1])) = G4 at t4 hq3 ⊢
    refine ⟨_, rfl, _, rfl, _, _, rfl, rfl, _, rfl, ca, _, rfl, .of ((((t1.trans t2).trans t3).trans t4) _ _ ha3), fun q4 nq4 => ?_⟩
    rw [cut_r lvm]
    have t5 := same_new (o := .lst zs) nq4
    have hq4 : upd G4 q4 (.lst zs) q4 = some (.lst zs) := upd_same
    generalize upd G4 q4 (.lst zs) = G5 at t5 hq4 ⊢
    refine ⟨q3, q4, vs ++ [.ref x1], zs, rfl, rfl, t5 _ _ hq3, hq4, by rw [List.length_append, List.length_singleton, sizeLine_eq]; omega, fun q5 nq5 => ?_⟩
    have t6 := same_new (o := .lst (vs ++ [.ref x1] ++ zs)) nq5
    have hq5 : upd G5 q5 (.lst (vs ++ [.ref x1] ++ zs)) q5 = some (.lst (vs ++ [.ref x1] ++ zs)) := upd_same
    generalize upd G5 q5 (.lst (vs ++ [.ref x1] ++ zs)) = G6 at t6 hq5 ⊢
    refine ⟨_, rfl, (by show 2 ≤ sizeLine; decide), fun x2 nx2 => ?_⟩
    have t7 := same_new (o := .tup [.ref q5, .ref da]) nx2
    have hx2 : upd G6 x2 (.tup [.ref q5, .ref da]) x2 = some (.tup [.ref q5, .ref da]) := upd_same
    generalize upd G6 x2 (.tup [.ref q5, .ref da]) = G7 at t7 hx2 ⊢
    have all := ((((((t1.trans t2).trans t3).trans t4).trans t5).trans t6).trans t7)
    have lu := dps_but p2.ch b3 (dps_app hus (.cons hx hr')) (fun z hz => (List.mem_append.mp hz).elim (nl' z) fun h => (List.mem_cons.mp h).elim (fun e => e ▸ deed_noL d) (nr' z))
    refine q x2 q5 da _ _ (cl ++ (c.1, c.1 - 1 - c.2) :: cr) (l ++ d :: r) _ ((b12.trans b3).trans (same_but all)) (p3.same all) hx2 (t7 _ _ hq5) ?_ (all _ _ hd3) (by rw [List.map_append, List.map_cons]; exact dps_same all lu) ?_
    · rw [List.map_append, List.map_cons, List.append_assoc]
      exact dps_app (dps_same all hvs) (.cons (dp_same ((((t3.trans t4).trans t5).trans t6).trans t7) dd) (dps_same all hzs))
    · refine vg.cell ?_
      have cok := vg.cs c (List.mem_append_right _ List.mem_cons_self)
      have o1 := cok.1; have o2 := cok.2.1; have o3 := cok.2.2.1; have o4 := cok.2.2.2
      exact ⟨o1, o2, by show 0 ≤ c.1 - 1 - c.2; omega, by show c.1 - 1 - c.2 < c.1; omega⟩
  have lus := dps_len hus
  rw [List.length_map] at lus
  have lws := dps_len hr'
  rw [List.length_map] at lws
  have l8 : (l ++ d :: r).length ≤ 8 := d1
  rw [List.length_append, List.length_cons] at l8
  have lu := dps_app hus (.cons hx hr')
  have same0 : ∀ t, H2 t = none → Q (.ref t) (upd H2 t (.tup [.ref ca, .ref da])) := fun t nt => by
    have st := same_new (o := .tup [.ref ca, .ref da]) nt
    exact q t ca da _ _ cs (l ++ d :: r) _ (b12.trans (same_but st)) (p2.same st) upd_same (st _ _ ha2) (dps_same st hxs2) (st _ _ hd2) (by rw [List.map_append, List.map_cons]; exact dps_same st lu) vg
  rw [dec 0 k0]
  refine iteF ⟨_, rfl, rfl, _, rfl, ?_⟩
  by_cases k1 : k = 1
  · rw [decide_eq_true (show V.int k = V.int 1 from congrArg V.int k1)]
    refine iteT ⟨_, rfl, _, _, rfl, .inl (.of hd2), _, _, rfl, rfl, _, rfl, ?_⟩
    by_cases g1 : (1 : Int) < ((us ++ .ref ad :: ws).length : Nat)
    case neg =>
      rw [decide_eq_false g1]
      refine iteF ⟨_, rfl, rfl, _, rfl, ?_⟩
      rw [dec 2 (by omega)]
      refine iteF ⟨_, rfl, rfl, _, rfl, ?_⟩
      rw [dec 3 (by omega)]
      refine iteF (iteF ⟨_, rfl, rfl, _, rfl, ?_⟩)
      rw [dec 4 (by omega)]
      refine iteF ⟨_, rfl, rfl, _, rfl, ?_⟩
      rw [dec 5 (by omega)]
      exact iteF (iteF ⟨_, rfl, _, rfl, (by show 2 ≤ sizeLine; decide), same0⟩)
    rw [decide_eq_true g1]
    refine iteT ⟨_, rfl, _, rfl, _, rfl, _, rfl, da, _, rfl, .of hd2, fun q1 nq1 => ?_⟩
    rw [cut_l lun]
    have t1 := same_new (o := .lst us) nq1
    have hq1 : upd H2 q1 (.lst us) q1 = some (.lst us) := upd_same
    generalize upd H2 q1 (.lst us) = G1 at t1 hq1 ⊢
    refine ⟨_, rfl, _, rfl, _, _, rfl, rfl, _, rfl, da, _, rfl, .of (t1 _ _ hd2), fun q2 nq2 => ?_⟩
    rw [cut_r lun]
    have t2 := same_new (o := .lst ws) nq2
    have hq2 : upd G1 q2 (.lst ws) q2 = some (.lst ws) := upd_same
    generalize upd G1 q2 (.lst ws) = G2 at t2 hq2 ⊢
    refine ⟨q1, q2, us, ws, rfl, rfl, t2 _ _ hq1, hq2, by rw [sizeLine_eq]; omega, fun q3 nq3 => ?_⟩
    have t3 := same_new (o := .lst (us ++ ws)) nq3
    have hq3 : upd G2 q3 (.lst (us ++ ws)) q3 = some (.lst (us ++ ws)) := upd_same
    generalize upd G2 q3 (.lst (us ++ ws)) = G3 at t3 hq3 ⊢
    refine ⟨(by show 2 ≤ sizeLine; decide), fun x2 nx2 => ?_⟩
    have t4 := same_new (o := .tup [.ref ca, .ref q3]) nx2
    have hx2 : upd G3 x2 (.tup [.ref ca, .ref q3]) x2 = some (.tup [.ref ca, .ref q3]) := upd_same
    generalize upd G3 x2 (.tup [.ref ca, .ref q3]) = G4 at t4 hx2 ⊢
    have all := (((t1.trans t2).trans t3).trans t4)
    refine q x2 ca q3 _ _ cs (l ++ r) _ (b12.trans (same_but all)) (p2.same all) hx2 (all _ _ ha2) (dps_same all hxs2) (t4 _ _ hq3) (by rw [List.map_append]; exact dps_same all (dps_app hus hr')) (vg.out ?_)
    rw [List.length_append, List.length_cons] at g1 ⊢
    omega
  rw [dec 1 k1]
  refine iteF (iteF ⟨_, rfl, rfl, _, rfl, ?_⟩)
  by_cases k2 : k = 2
  · rw [decide_eq_true (show V.int k = V.int 2 from congrArg V.int k2)]
    refine iteT ⟨_, rfl, _, rfl, _, rfl, _, rfl, da, _, rfl, .of hd2, fun q1 nq1 => ?_⟩
    rw [cut_l lun]
    have t1 := same_new (o := .lst us) nq1
    have hq1 : upd H2 q1 (.lst us) q1 = some (.lst us) := upd_same
    generalize upd H2 q1 (.lst us) = G1 at t1 hq1 ⊢
    refine ⟨_, rfl, _, rfl, _, _, rfl, rfl, _, rfl, (by show 3 ≤ sizeLine; decide), fun x1 nx1 => ?_⟩
    have t2 := same_new (o := .tup [.str d.1, .int (10 - d.2.1), .ref ab]) nx1
    have hx1 : upd G1 x1 (.tup [.str d.1, .int (10 - d.2.1), .ref ab]) x1 = some (.tup [.str d.1, .int (10 - d.2.1), .ref ab]) := upd_same
    generalize upd G1 x1 (.tup [.str d.1, .int (10 - d.2.1), .ref ab]) = G2 at t2 hx1 ⊢
    have dd : Dp K G2 (.ref x1) (deedD (d.1, 10 - d.2.1, d.2.2)) := .tup (.of hx1) (.cons (.str _) (.cons (.int _) (.cons (dp_same (t1.trans t2) h3) .nil)))
    have hA := ha2
    have hxsA := hxs2
    have husA := hus
    have hrA := hr'
    have e1 := dok.2.1.1
    have e2 := dok.2.1.2
    refine ⟨(by show 1 ≤ sizeLine; decide), fun q2 nq2 => ?_⟩
    have t3 := same_new (o := .lst [.ref x1]) nq2
    have hq2 : upd G2 q2 (.lst [.ref x1]) q2 = some (.lst [.ref x1]) := upd_same
    generalize upd G2 q2 (.lst [.ref x1]) = G3 at t3 hq2 ⊢
    refine ⟨q1, q2, us, [.ref x1], rfl, rfl, (t2.trans t3) _ _ hq1, hq2, by rw [List.length_singleton, sizeLine_eq]; omega, fun q3 nq3 => ?_⟩
    have t4 := same_new (o := .lst (us ++ [.ref x1])) nq3
    have hq3 : upd G3 q3 (.lst (us ++ [.ref x1])) q3 = some (.lst (us ++ [.ref x1])) := upd_same
    generalize upd G3 q3 (.lst (us ++ [.ref x1])) = G4 at t4 hq3 ⊢
    refine ⟨_, rfl, _, rfl, _, _, rfl, rfl, _, rfl, da, _, rfl, .of ((((t1.trans t2).trans t3).trans t4) _ _ hd2), fun q4 nq4 => ?_⟩
    rw [cut_r lun]
    have t5 := same_new (o := .lst ws) nq4
    have hq4 : upd G4 q4 (.lst ws) q4 = some (.lst ws) := upd_same
    generalize upd G4 q4 (.lst ws) = G5 at t5 hq4 ⊢
    refine ⟨q3, q4, us ++ [.ref x1], ws, rfl, rfl, t5 _ _ hq3, hq4, by rw [List.length_append, List.length_singleton, sizeLine_eq]; omega, fun q5 nq5 => ?_⟩
    have t6 := same_new (o := .lst (us ++ [.ref x1] ++ ws)) nq5
    have hq5 : upd G5 q5 (.lst (us ++ [.ref x1] ++ ws)) q5 = some (.lst (us ++ [.ref x1] ++ ws)) := upd_same
    generalize upd G5 q5 (.lst (us ++ [.ref x1] ++ ws)) = G6 at t6 hq5 ⊢
    refine ⟨(by show 2 ≤ sizeLine; decide), fun x2 nx2 => ?_⟩
    have t7 := same_new (o := .tup [.ref ca, .ref q5]) nx2
    have hx2 : upd G6 x2 (.tup [.ref ca, .ref q5]) x2 = some (.tup [.ref ca, .ref q5]) := upd_same
    generalize upd G6 x2 (.tup [.ref ca, .ref q5]) = G7 at t7 hx2 ⊢
    have all := ((((((t1.trans t2).trans t3).trans t4).trans t5).trans t6).trans t7)
    refine q x2 ca q5 _ _ cs (l ++ (d.1, 10 - d.2.1, d.2.2) :: r) _ (b12.trans (same_but all)) (p2.same all) hx2 (all _ _ hA) (dps_same all hxsA) (t7 _ _ hq5) ?_ (vg.set ⟨dok.1, ⟨by show 1 ≤ 10 - d.2.1; omega, by show 10 - d.2.1 ≤ 9; omega⟩, dok.2.2⟩ rfl)
    rw [List.map_append, List.map_cons, List.append_assoc]
    exact dps_app (dps_same all husA) (.cons (dp_same ((((t3.trans t4).trans t5).trans t6).trans t7) dd) (dps_same all hrA))
  rw [dec 2 k2]
  refine iteF ⟨_, rfl, rfl, _, rfl, ?_⟩
  by_cases k3 : k = 3
  · rw [decide_eq_true (show V.int k = V.int 3 from congrArg V.int k3)]
    refine iteT ⟨_, rfl, _, _, rfl, .inr hab, _, _, rfl, rfl, _, rfl, ?_⟩
    by_cases g1 : (0 : Int) < ((bs.length : Nat) : Int)
    case neg =>
      rw [decide_eq_false g1]
      refine iteF ⟨_, rfl, rfl, _, rfl, ?_⟩
      rw [dec 4 (by omega)]
      refine iteF ⟨_, rfl, rfl, _, rfl, ?_⟩
      rw [dec 5 (by omega)]
      exact iteF (iteF ⟨_, rfl, _, rfl, (by show 2 ≤ sizeLine; decide), same0⟩)
    rw [decide_eq_true g1]
    have lbs := dps_len hbs
    rw [rowsD_map, List.length_map] at lbs
    have l20 : d.2.2.length ≤ 2000 := Nat.le_trans (rows_len _) dok.2.2.2.2
    refine iteT ⟨_, rfl, _, rfl, _, _, rfl, .inr hab, p, (bs.length : Nat), rfl, p2, by omega, fun j H3 b3 p3 hj => ?_⟩
    obtain ⟨m, rfl⟩ : ∃ m : Nat, j = (m : Int) := ⟨j.toNat, by omega⟩
    have hab3 := sqT_but p2.ch b3 hab
    have hbs3 := dps_but p2.ch b3 hbs (rows_noL _)
    obtain ⟨nm, ch, rs⟩ := d
    obtain ⟨ra, r0, rb, ers, lm⟩ := split_at' (show m < rs.length by have : bs.length = rs.length := lbs; omega)
    have hbs3 : DpAll K H3 bs (rowsD rs) := hbs3
    rw [ers, rowsD_map, List.map_append, List.map_cons] at hbs3
    obtain ⟨vs, wy, rfl, hvs, hwy⟩ := dps_split hbs3
    cases hwy with
    | @cons y zs _ _ hy hzs =>
    have lvm : vs.length = m := by rw [dps_len hvs, List.length_map, lm]
    have hd3 := b3 _ _ ndp hd2
    have hA := b3 _ _ nap ha2
    have hxsA := dps_but p2.ch b3 hxs2 (cells_noL cs)
    have husA := dps_but p2.ch b3 hus nl'
    have hrA := dps_but p2.ch b3 hr' nr'
    refine ⟨_, rfl, _, rfl, _, rfl, _, rfl, da, _, rfl, .of hd3, fun q1 nq1 => ?_⟩
    rw [cut_l lun]
    have t1 := same_new (o := .lst us) nq1
    have hq1 : upd H3 q1 (.lst us) q1 = some (.lst us) := upd_same
    generalize upd H3 q1 (.lst us) = G1 at t1 hq1 ⊢
    have hab4 := same_t t1 hab3
    have lvz : (vs ++ y :: zs).length = vs.length + (zs.length + 1) := by rw [List.length_append, List.length_cons]
    refine ⟨_, rfl, _, rfl, _, rfl, _, rfl, _, rfl, ab, _, rfl, hab4, fun z => absurd z.2 ?_, fun _ q2 nq2 => ?_⟩
    · rw [HT.sIx_nat, lvz, lvm]
      omega
    rw [cut_l lvm]
    have t2 := same_new (o := .tup vs) nq2
    have hq2 : upd G1 q2 (.tup vs) q2 = some (.tup vs) := upd_same
    generalize upd G1 q2 (.tup vs) = G2 at t2 hq2 ⊢
    refine ⟨_, rfl, _, rfl, _, _, rfl, rfl, _, rfl, ab, _, rfl, same_t t2 hab4, fun z => absurd z.1 ?_, fun _ q3 nq3 => ?_⟩
    · show ¬ HT.sIx (vs ++ y :: zs).length 0 (some ((m + 1 : Nat) : Int)) = 0
      rw [HT.sIx_nat, lvz, lvm]
      omega
    rw [cut_r lvm]
    have t3 := same_new (o := .tup zs) nq3
    have hq3 : upd G2 q3 (.tup zs) q3 = some (.tup zs) := upd_same
    generalize upd G2 q3 (.tup zs) = G3 at t3 hq3 ⊢
    have all3 := (t1.trans t2).trans t3
    have dvz : DpAll K G3 (vs ++ zs) (rowsD (ra ++ rb)) := by
      rw [rowsD_map, List.map_append]
      exact dps_same all3 (dps_app hvs hzs)
    refine (?key : ∀ R : VK, (∀ (v : V) (H8 : Hp), Same G3 H8 → Dp K H8 v (.tuple (rowsD (ra ++ rb))) → R v H8) → rCatA K (.ref q2) (.ref q3) G3 R) _ ?rest
    case key =>
      intro R hR
      refine ⟨q2, q3, vs, zs, rfl, rfl, .of (t3 _ _ hq2), .of hq3, by rw [sizeLine_eq]; omega, fun z => ?_, fun _ z => ?_, fun _ _ x3 nx3 => ?_⟩
      · rw [z, List.nil_append] at dvz
        exact hR _ _ (fun _ _ e => e) (.tup (.of hq3) dvz)
      · rw [z, List.append_nil] at dvz
        exact hR _ _ (fun _ _ e => e) (.tup (.of (t3 _ _ hq2)) dvz)
      · have s78 := same_new (o := .tup (vs ++ zs)) nx3
        exact hR _ _ s78 (.tup (.of upd_same) (dps_same s78 dvz))
    intro v G4 t4 dv
    refine ⟨(by show 3 ≤ sizeLine; decide), fun x1 nx1 => ?_⟩
    have t5 := same_new (o := .tup [.str nm, .int ch, v]) nx1
    have hx1 : upd G4 x1 (.tup [.str nm, .int ch, v]) x1 = some (.tup [.str nm, .int ch, v]) := upd_same
    generalize upd G4 x1 (.tup [.str nm, .int ch, v]) = G5 at t5 hx1 ⊢
    have dd : Dp K G5 (.ref x1) (deedD (nm, ch, ra ++ rb)) := .tup (.of hx1) (.cons (.str _) (.cons (.int _) (.cons (dp_same t5 dv) .nil)))
    have kok : DeedOk cs.length (nm, ch, ra ++ rb) := by
      have o3 : rowsOk cs.length 1 0 rs := dok.2.2.1
      have o4 : rowsCc rs ≤ 4 := dok.2.2.2.1
      have o5 : rowsCl rs ≤ 2000 := dok.2.2.2.2
      rw [ers] at o3 o4 o5
      have o6 := ok_inv o3
      refine ⟨dok.1, dok.2.1, ok_app o6.1 o6.2.2.2, ?_, ?_⟩
      · show rowsCc (ra ++ rb) ≤ 4
        rw [cc_app] at o4 ⊢
        have : rowsCc (r0 :: rb) = r0.cc + rowsCc rb := rfl
        omega
      · show rowsCl (ra ++ rb) ≤ 2000
        rw [cl_app] at o5 ⊢
        have : rowsCl (r0 :: rb) = r0.cl + rowsCl rb := rfl
        omega
    refine ⟨(by show 1 ≤ sizeLine; decide), fun q2 nq2 => ?_⟩
    have t6 := same_new (o := .lst [.ref x1]) nq2
    have hq2 : upd G5 q2 (.lst [.ref x1]) q2 = some (.lst [.ref x1]) := upd_same
    generalize upd G5 q2 (.lst [.ref x1]) = G6 at t6 hq2 ⊢
    refine ⟨q1, q2, us, [.ref x1], rfl, rfl, ((((t2.trans t3).trans t4).trans t5).trans t6) _ _ hq1, hq2, by rw [List.length_singleton, sizeLine_eq]; omega, fun q3 nq3 => ?_⟩
    have t7 := same_new (o := .lst (us ++ [.ref x1])) nq3
    have hq3 : upd G6 q3 (.lst (us ++ [.ref x1])) q3 = some (.lst (us ++ [.ref x1])) := upd_same
    generalize upd G6 q3 (.lst (us ++ [.ref x1])) = G7 at t7 hq3 ⊢
    refine ⟨_, rfl, _, rfl, _, _, rfl, rfl, _, rfl, da, _, rfl, .of (((((((t1.trans t2).trans t3).trans t4).trans t5).trans t6).trans t7) _ _ hd3), fun q4 nq4 => ?_⟩
    rw [cut_r lun]
    have t8 := same_new (o := .lst ws) nq4
    have hq4 : upd G7 q4 (.lst ws) q4 = some (.lst ws) := upd_same
    generalize upd G7 q4 (.lst ws) = G8 at t8 hq4 ⊢
    refine ⟨q3, q4, us ++ [.ref x1], ws, rfl, rfl, t8 _ _ hq3, hq4, by rw [List.length_append, List.length_singleton, sizeLine_eq]; omega, fun q5 nq5 => ?_⟩
    have t9 := same_new (o := .lst (us ++ [.ref x1] ++ ws)) nq5
    have hq5 : upd G8 q5 (.lst (us ++ [.ref x1] ++ ws)) q5 = some (.lst (us ++ [.ref x1] ++ ws)) := upd_same
    generalize upd G8 q5 (.lst (us ++ [.ref x1] ++ ws)) = G9 at t9 hq5 ⊢
    refine ⟨(by show 2 ≤ sizeLine; decide), fun x2 nx2 => ?_⟩
    have t10 := same_new (o := .tup [.ref ca, .ref q5]) nx2
    have hx2 : upd G9 x2 (.tup [.ref ca, .ref q5]) x2 = some (.tup [.ref ca, .ref q5]) := upd_same
    generalize upd G9 x2 (.tup [.ref ca, .ref q5]) = G10 at t10 hx2 ⊢
    have all := (((((((((t1.trans t2).trans t3).trans t4).trans t5).trans t6).trans t7).trans t8).trans t9).trans t10)
    refine q x2 ca q5 _ _ cs (l ++ (nm, ch, ra ++ rb) :: r) _ ((b12.trans b3).trans (same_but all)) (p3.same all) hx2 (all _ _ hA) (dps_same all hxsA) (t10 _ _ hq5) ?_ (vg.set kok rfl)
    rw [List.map_append, List.map_cons, List.append_assoc]
    exact dps_app (dps_same all husA) (.cons (dp_same ((((t6.trans t7).trans t8).trans t9).trans t10) dd) (dps_same all hrA))
  rw [dec 3 k3]
  refine iteF (iteF ⟨_, rfl, rfl, _, rfl, ?_⟩)
  by_cases k4 : k = 4
  · rw [decide_eq_true (show V.int k = V.int 4 from congrArg V.int k4)]
    generalize hzs : us ++ V.ref ad :: ws = zs at hd2 lu ⊢
    have lz : zs.length ≤ 8 := by rw [← hzs, List.length_append, List.length_cons]; omega
    refine iteT ⟨_, rfl, _, rfl, _, _, rfl, .inl (.of hd2), _, rfl, by omega, by omega, fun D nD => ?_⟩
    refine it_any (n := (((zs.length : Nat) : Int)).toNat) walk_range (fun i J => Same H2 J ∧ J D = some (.lst (zs.reverse.take i))) ⟨same_new nD, upd_same⟩ (fun _ _ _ _ => trivial) ?_ ?_
    · rintro i z J0 J hi ⟨sj, hD⟩ ⟨rfl, rfl⟩
      have hi : i < zs.length := hi
      have hat : zs[zs.length - 1 - i]? = some (zs[zs.length - 1 - i]'(by omega)) := List.getElem?_eq_getElem _
      have ei : ((zs.length : Nat) : Int) - 1 - (0 + (i : Int)) = ((zs.length - 1 - i : Nat) : Int) := by omega
      have ati : atI zs (((zs.length : Nat) : Int) - 1 - (0 + (i : Int))) = some (zs[zs.length - 1 - i]'(by omega)) := by
        rw [ei]
        exact atI_nat hat
      refine ⟨rfl, _, rfl, _, rfl, _, _, rfl, .inl (.of (sj _ _ hd2)), _, _, rfl, rfl, _, rfl, _, _, rfl, rfl, _, _, _, _, rfl, rfl, .of (sj _ _ hd2), ati, _, hD, by rw [List.length_take, List.length_reverse, sizeLine_eq]; omega, ?_⟩
      have bb : But D J (upd J D (.lst (zs.reverse.take i ++ [zs[zs.length - 1 - i]'(by omega)]))) := But.upd
      refine ⟨fun a o e => bb _ _ (ne_of_none e nD) (sj _ _ e), ?_⟩
      have er : zs.reverse.take (i + 1) = zs.reverse.take i ++ [zs[zs.length - 1 - i]'(by omega)] := by
        rw [List.take_succ, List.getElem?_reverse hi, hat]
        rfl
      rw [er]
      exact upd_same
    · rintro H3 ⟨s3, hD⟩
      rw [Int.toNat_natCast, ← List.length_reverse, List.take_length] at hD
      refine ⟨(by show 2 ≤ sizeLine; decide), fun t nt => ?_⟩
      have st := same_new (o := .tup [.ref ca, .ref D]) nt
      have all := s3.trans st
      have er : ((l ++ d :: r).reverse.map deedD) = (l.map deedD ++ deedD d :: r.map deedD).reverse := by rw [List.map_reverse, List.map_append, List.map_cons]
      exact q t ca D _ _ cs (l ++ d :: r).reverse _ (b12.trans (same_but all)) (p2.same all) upd_same (all _ _ ha2) (dps_same all hxs2) (st _ _ hD) (by rw [er]; exact dps_rev (dps_same all lu)) vg.rev
  rw [dec 4 k4]
  refine iteF ⟨_, rfl, rfl, _, rfl, ?_⟩
  by_cases k5 : k = 5
  case neg =>
    rw [dec 5 k5]
    exact iteF (iteF ⟨_, rfl, _, rfl, (by show 2 ≤ sizeLine; decide), same0⟩)
  rw [decide_eq_true (show V.int k = V.int 5 from congrArg V.int k5)]
  refine iteT ⟨_, rfl, _, _, rfl, .inl (.of ha2), _, _, rfl, rfl, _, rfl, ?_⟩
  by_cases g1 : ((xs.length : Nat) : Int) < (6 : Int)
  case neg =>
    rw [decide_eq_false g1]
    exact iteF ⟨_, rfl, _, rfl, (by show 2 ≤ sizeLine; decide), same0⟩
  rw [decide_eq_true g1]
  refine iteT ⟨_, rfl, (by show 2 ≤ sizeLine; decide), fun x1 nx1 => ?_⟩
  have t1 := same_new (o := .tup [.int 1, .int 0]) nx1
  have hx1 : upd H2 x1 (.tup [.int 1, .int 0]) x1 = some (.tup [.int 1, .int 0]) := upd_same
  generalize upd H2 x1 (.tup [.int 1, .int 0]) = G1 at t1 hx1 ⊢
  have dd : Dp K G1 (.ref x1) (cellD (1, 0)) := .tup (.of hx1) (.cons (.int _) (.cons (.int _) .nil))
  refine ⟨(by show 1 ≤ sizeLine; decide), fun q2 nq2 => ?_⟩
  have t2 := same_new (o := .lst [.ref x1]) nq2
  have hq2 : upd G1 q2 (.lst [.ref x1]) q2 = some (.lst [.ref x1]) := upd_same
  generalize upd G1 q2 (.lst [.ref x1]) = G2 at t2 hq2 ⊢
  refine ⟨ca, q2, xs, [.ref x1], rfl, rfl, (t1.trans t2) _ _ ha2, hq2, by rw [List.length_singleton, sizeLine_eq]; omega, fun q3 nq3 => ?_⟩
  have t3 := same_new (o := .lst (xs ++ [.ref x1])) nq3
  have hq3 : upd G2 q3 (.lst (xs ++ [.ref x1])) q3 = some (.lst (xs ++ [.ref x1])) := upd_same
  generalize upd G2 q3 (.lst (xs ++ [.ref x1])) = G3 at t3 hq3 ⊢
  refine ⟨_, rfl, (by show 2 ≤ sizeLine; decide), fun x2 nx2 => ?_⟩
  have t4 := same_new (o := .tup [.ref q3, .ref da]) nx2
  have hx2 : upd G3 x2 (.tup [.ref q3, .ref da]) x2 = some (.tup [.ref q3, .ref da]) := upd_same
  generalize upd G3 x2 (.tup [.ref q3, .ref da]) = G4 at t4 hx2 ⊢
  have all := (((t1.trans t2).trans t3).trans t4)
  have lxs := dps_len hxs2
  rw [List.length_map] at lxs
  refine q x2 q3 da _ _ (cs ++ [(1, 0)]) (l ++ d :: r) _ (b12.trans (same_but all)) (p2.same all) hx2 (t4 _ _ hq3) ?_ (all _ _ hd2) (by rw [List.map_append, List.map_cons]; exact dps_same all lu) (vg.cmore (by omega))
  rw [List.map_append]
  exact dps_app (dps_same all hxs2) (.cons (dp_same ((t2.trans t3).trans t4) dd) .nil)
end
end Tx

end M

set_option Elab.async false
set_option linter.all false
set_option maxRecDepth 100000
set_option maxHeartbeats 2000000
namespace M
open PySem PySem.Spec PyProof.Rows L2

theorem call_strE {X : Cx} : CallR X (.type "str") (fun xs H Q => (∃ i, xs = [.int i] ∧ i.natAbs.log2 < 1920 ∧ Q (.str (toString i)) H) ∨ ∃ a, xs = [.str a] ∧ Q (.str a) H) := by
  intro pins s σ H xs us Q I r h
  rcases h with h | h
  · exact call_str_int pins s σ H xs us Q I r h
  · obtain ⟨a, rfl, q⟩ := h
    obtain ⟨u, rfl, t, rfl⟩ := vals1 r
    exact PySem.P.str_of_str ⟨.str a, H, I, ⟨t, rfl⟩, q⟩
namespace Tx
section
variable {P : Program} {w : World} {K : PySem.W.Frag} {mg : Str → Option Value} {base : Heap}
theorem ca_l_word (T : Txt w K mg) : ∀ n : Nat, Ca P w K mg base (n + 3) "_law_word" (spTx K n)
  | 0 => ca_false (ps := ["_law_part"]) T.f_l_word T.g_law_word (fun _ _ _ _ _ _ us hl => match us, hl with | [_], _ => rfl)
  | n + 1 => by
    have ih := ca_l_word T n
    refine ca_of (N := ["_law_part"]) (ps := ["_law_part"]) T.f_l_word T.g_law_word ⟨rfl, rfl, rfl, by decide +kernel, rfl, by decide +kernel, by decide +kernel⟩ (fun _ _ _ _ _ _ us hl => match us, hl with | [_], _ => rfl)
      (fun vs H Q E h => by obtain ⟨v, e, rfl, hv, ok, hn, q⟩ := h; rfl) (fun cdv A outer s H vs Q E hr h => ?_)
    have nd : (["_law_part"] : List Str).Nodup := by decide +kernel
    obtain ⟨v, e, rfl, hv, ok, hn, q⟩ := h
    refine ⟨_, (pss_cons (ps_if (pt_val (pe_is .tuple T.b_isinstance (pv 0) T.b_tuple boot_tuple)) (pss_one (ps_ret (pe_op op_add_str (pe_op op_add_str (pe_op op_add_str (pe_op op_add_str pe_str (pe_ca ih hr (pa_cons (pe_ix ix_tup (pv 0) pe_int (fun _ _ => rfl)) pa_nil) (by omega))) (pe_ix ix_tup (pv 0) pe_int (fun _ _ => rfl))) (pe_ca ih hr (pa_cons (pe_ix ix_tup (pv 0) pe_int (fun _ _ => rfl)) pa_nil) (by omega))) pe_str))) pss_nil)
      (pss_one (ps_ret (pe_callTy call_strE (by rfl) T.b_str boot_str (pa_cons (pv 0) pa_nil))))), ?_⟩
    cases e with
    | num i =>
      cases dp_int hv
      have b := ok.num_ok
      refine ⟨_, rfl, _, _, rfl, .int i, _, rfl, iteF ⟨_, rfl, .inl ⟨_, rfl, dig_log b, ?_⟩⟩⟩
      rw [dig_str b]
      exact q
    | reg r =>
      cases dp_str hv
      exact ⟨_, rfl, _, _, rfl, .str r, _, rfl, iteF ⟨_, rfl, .inr ⟨_, rfl, q⟩⟩⟩
    | op s a b =>
      obtain ⟨m, rfl, ⟨c, rfl, hc⟩, oa, ob⟩ := ok.op_ok
      obtain ⟨t, x, y, z, rfl, ht, hx, hy, hz⟩ := dp3 hv
      cases dp_str hx
      have la := etx_509 oa (by omega)
      have lb := etx_509 ob (by omega)
      have l1 : (sg1 c).length = 1 := rfl
      refine ⟨_, rfl, _, _, rfl, .tuple ht, _, rfl, iteT ?_⟩
      refine ⟨_, rfl, _, _, _, _, rfl, rfl, ht, rfl, y, a, rfl, hy, oa, by omega, _, _, rfl, rfl, by rw [sizeLine_eq, l_lp, estr_len]; omega, _, rfl, _, _, _, _, rfl, rfl, ht, rfl, _, _, rfl, rfl, by rw [sizeLine_eq, len_app, l_lp, estr_len, l1]; omega, ?_⟩
      refine ⟨_, rfl, _, _, _, _, rfl, rfl, ht, rfl, z, b, rfl, hz, ob, by omega, _, _, rfl, rfl, by rw [sizeLine_eq, len_app, len_app, l_lp, estr_len, estr_len, l1]; omega, _, _, rfl, rfl, by rw [sizeLine_eq, len_app, len_app, len_app, l_lp, l_rp, estr_len, estr_len, l1]; omega, ?_⟩
      rw [estr_op]
      exact q
end
end Tx

end M

set_option Elab.async false
set_option linter.all false
set_option maxRecDepth 100000
set_option maxHeartbeats 2000000
namespace M
open PySem PySem.Spec PyProof.Rows L2

theorem join_nil_sp (ws : List Str) : (Txt.join ("" : Str) (ws.map fun w => (" " : Str) ++ w)).cps.toList = (ws.map fun w => 32 :: TL.tl w).flatten := by
  have := TL.tl_join ("" : Str) (ws.map fun w => (" " : Str) ++ w)
  rw [← TL.join_eq] at this
  rw [show (Txt.join ("" : Str) (ws.map fun w => (" " : Str) ++ w)).cps.toList = TL.joinL [] ((ws.map fun w => (" " : Str) ++ w).map TL.tl) from this, joinL_nil, List.map_map]
  congr 1
  refine List.map_congr_left fun w _ => ?_
  show TL.tl ((" " : Str) ++ w) = _
  rw [TL.tl_append, tl_sp]
  rfl
theorem join_len (ss : List Str) : (Txt.join ("" : Str) ss).length = (ss.map (·.length)).sum := by
  have e : (Txt.join ("" : Str) ss).cps.toList = (ss.map TL.tl).flatten := by
    have := TL.tl_join ("" : Str) ss
    rw [← TL.join_eq] at this
    rw [← joinL_nil]
    exact this
  rw [str_len, e, List.length_flatten, List.map_map]
  congr 1
theorem joinL_sp : ∀ (w : List Nat) (ws : List (List Nat)), TL.joinL [32] (w :: ws) = w ++ (ws.map fun x => 32 :: x).flatten
  | w, [] => by show w = w ++ []; rw [List.append_nil]
  | w, v :: ws => by
    show w ++ ([32] ++ TL.joinL [32] (v :: ws)) = _
    rw [joinL_sp v ws, List.map_cons, List.flatten_cons]
    rfl
theorem line_cat (w : Str) (ws : List Str) : w ++ Txt.join ("" : Str) (ws.map fun w => (" " : Str) ++ w) = lineS (w :: ws) := by
  unfold lineS
  refine TL.ext_tl ?_
  have e1 : TL.tl (Txt.join ("" : Str) (ws.map fun w => (" " : Str) ++ w)) = (ws.map fun w => 32 :: TL.tl w).flatten := join_nil_sp ws
  have e2 : TL.tl (Txt.join (" " : Str) (w :: ws)) = TL.joinL [32] ((w :: ws).map TL.tl) := by
    rw [TL.join_eq, TL.tl_join, tl_sp]
  rw [TL.tl_append, e1, e2, List.map_cons, joinL_sp, List.map_map]
  rfl
theorem line_if (e : Exp) : ("if " : Str) ++ estr e = lineS ["if", estr e] := by
  unfold lineS
  refine TL.ext_tl ?_
  rw [TL.join_eq, TL.tl_join]
  simp only [TL.tl_append, tl_sp, List.map_cons, List.map_nil, TL.joinL, show TL.tl ("if " : Str) = [105, 102, 32] by decide +kernel, show TL.tl ("if" : Str) = [105, 102] by decide +kernel]
  simp
theorem line_times (e : Exp) : ("times " : Str) ++ estr e = lineS ["times", estr e] := by
  unfold lineS
  refine TL.ext_tl ?_
  rw [TL.join_eq, TL.tl_join]
  simp only [TL.tl_append, tl_sp, List.map_cons, List.map_nil, TL.joinL, show TL.tl ("times " : Str) = [116, 105, 109, 101, 115, 32] by decide +kernel, show TL.tl ("times" : Str) = [116, 105, 109, 101, 115] by decide +kernel]
  simp
/-- a row of one line -/
structure Plain (r : Row) : Prop where
  w1 : r.word ≠ "if"
  w2 : r.word ≠ "times"
  ps : ∀ p ∈ r.prts, p.isRows = false
  ls : r.ls = [r.wds]
theorem row_kinds (r : Row) : (∃ e a b, r = .iff e a b) ∨ (∃ e a, r = .times e a) ∨ Plain r := by
  have n : ∀ (x : Row), x.word ≠ "if" → x.word ≠ "times" → (∀ p ∈ x.prts, p.isRows = false) → x.ls = [x.wds] → Plain x := fun _ a b c d => ⟨a, b, c, d⟩
  cases r with
  | iff e a b => exact .inl ⟨e, a, b, rfl⟩
  | times e a => exact .inr (.inl ⟨e, a, rfl⟩)
  | read r c => exact .inr (.inr (n _ (by show ("read" : Str) ≠ "if"; decide +kernel) (by show ("read" : Str) ≠ "times"; decide +kernel) (by simp [Row.prts, Prt.isRows]) rfl))
  | set c e => exact .inr (.inr (n _ (by show ("set" : Str) ≠ "if"; decide +kernel) (by show ("set" : Str) ≠ "times"; decide +kernel) (by simp [Row.prts, Prt.isRows]) rfl))
  | swap r c e f => exact .inr (.inr (n _ (by show ("swap" : Str) ≠ "if"; decide +kernel) (by show ("swap" : Str) ≠ "times"; decide +kernel) (by simp [Row.prts, Prt.isRows]) rfl))
  | keep r e => exact .inr (.inr (n _ (by show ("keep" : Str) ≠ "if"; decide +kernel) (by show ("keep" : Str) ≠ "times"; decide +kernel) (by simp [Row.prts, Prt.isRows]) rfl))
  | coin r => exact .inr (.inr (n _ (by show ("coin" : Str) ≠ "if"; decide +kernel) (by show ("coin" : Str) ≠ "times"; decide +kernel) (by simp [Row.prts, Prt.isRows]) rfl))
  | ans e => exact .inr (.inr (n _ (by show ("answer" : Str) ≠ "if"; decide +kernel) (by show ("answer" : Str) ≠ "times"; decide +kernel) (by simp [Row.prts, Prt.isRows]) rfl))
theorem prts_wds {r : Row} (h : Plain r) : r.prts.filterMap Prt.wd = r.prts.map fun p => estr p.xp := by
  have key : ∀ ps : List Prt, (∀ p ∈ ps, p.isRows = false) → ps.filterMap Prt.wd = ps.map fun p => estr p.xp := by
    intro ps
    induction ps with
    | nil => exact fun _ => rfl
    | cons p ps ih =>
      intro hp
      rw [List.filterMap_cons, prt_wd (hp p List.mem_cons_self), List.map_cons, ih fun q hq => hp q (List.mem_cons_of_mem _ hq)]
  exact key _ h.ps
theorem dp4 {K : PySem.W.Frag} {H : Hp} {v : V} {d e f g : PyData} (h : Dp K H v (.tuple [d, e, f, g])) : ∃ (a : Addr) (x y z u : V), v = .ref a ∧ SqT K H a [x, y, z, u] ∧ Dp K H x d ∧ Dp K H y e ∧ Dp K H z f ∧ Dp K H u g := by
  obtain ⟨a, xs, rfl, ha, hx⟩ := dp_tup h
  cases hx with | cons h1 r1 => cases r1 with | cons h2 r2 => cases r2 with | cons h3 r3 => cases r3 with | cons h4 r4 => cases r4; exact ⟨a, _, _, _, _, rfl, ha, h1, h2, h3, h4⟩
theorem l_if : ("if " : Str).length = 3 := by decide +kernel
theorem l_times : ("times " : Str).length = 6 := by decide +kernel
theorem n_ti : ¬ (V.str ("times" : Str) = V.str ("if" : Str)) := fun z => (show ¬ (("times" : Str) = "if") by decide +kernel) (V.str.inj z)
namespace Tx
section
variable {P : Program} {w : World} {K : PySem.W.Frag} {mg : Str → Option Value} {base : Heap}
def spLns (K : PySem.W.Frag) : Nat → Sp
  | 0 => fun _ _ _ _ => False
  | n + 1 => fun vs H Q _ => ∃ (v : V) (rs : List Row) (c : Int) (deep loops : Nat), vs = [v] ∧ Dp K H v (.tuple (rowsD rs)) ∧ rowsOk c deep loops rs ∧ c ≤ 9 ∧ 14 ≤ deep + (n + 1) ∧ (rowsLs rs).length ≤ 1000000 ∧
      ∀ (l : Addr) (H' : Hp), Same H H' → H' l = some (.lst (((rowsLs rs).map lineS).map V.str)) → Q (.ref l) H'
theorem ca_l_lines (T : Txt w K mg) : ∀ n : Nat, Ca P w K mg base (n + 11) "_law_lines" (spLns K n)
  | 0 => ca_false (ps := ["_law_rows_here"]) T.f_l_lines T.g_law_lines (fun _ _ _ _ _ _ us hl => match us, hl with | [_], _ => rfl)
  | n + 1 => by
    have ih := ca_l_lines T n
    have wd := ca_l_word (P := P) (base := base) T 7
    refine ca_of (N := ["_law_rows_here", "_law_lines_here", "_law_row", "_law_part"]) (ps := ["_law_rows_here"]) T.f_l_lines T.g_law_lines ⟨rfl, rfl, rfl, by decide +kernel, rfl, by decide +kernel, by decide +kernel⟩ (fun _ _ _ _ _ _ us hl => match us, hl with | [_], _ => rfl)
      (fun vs H Q E h => by obtain ⟨v, rs, c, deep, loops, rfl, hv, ok, hc, hd, len, q⟩ := h; rfl) (fun cdv A outer s H vs Q E hr h => ?_)
    have nd : (["_law_rows_here", "_law_lines_here", "_law_row", "_law_part"] : List Str).Nodup := by decide +kernel
    obtain ⟨v, rs, c, deep, loops, rfl, hv, ok, hc, hd, len, q⟩ := h
    refine ⟨_, (pss_cons (ps_set (i := 1) nd rfl (.inl rfl) (pe_lst pa_nil))
      (pss_cons (ps_for PassesOwn.never rfl (pi_tup (pv 0)) (pg_name (i := 2) nd rfl (.inl rfl)) (pss_one (ps_if (pt_cmpR op_eq (pe_ix ix_tup (pv 2) pe_int (fun _ _ => rfl)) pe_str (nomark _)) (pss_cons (ps_expr (pe_bm PySem.F.plainAttrs_list PySem.F.slot_list_append PySem.F.type_list_append mt_append (pv 1) (pa_cons (pe_op op_add_str pe_str (pe_ca wd hr (pa_cons (pe_ix ix_tup (pv 2) pe_int (fun _ _ => rfl)) pa_nil) (by omega))) pa_nil)))
      (pss_one (ps_set (i := 1) nd rfl (.inl rfl) (pe_op op_cat (pe_op op_cat (pe_op op_cat (pe_op op_cat (pv 1) (pe_ca ih hr (pa_cons (pe_ix ix_tup (pv 2) pe_int (fun _ _ => rfl)) pa_nil) (by omega))) (pe_lst (pa_cons pe_str pa_nil))) (pe_ca ih hr (pa_cons (pe_ix ix_tup (pv 2) pe_int (fun _ _ => rfl)) pa_nil) (by omega))) (pe_lst (pa_cons pe_str pa_nil)))))) (pss_one (ps_if (pt_cmpR op_eq (pe_ix ix_tup (pv 2) pe_int (fun _ _ => rfl)) pe_str (nomark _)) (pss_cons (ps_expr (pe_bm PySem.F.plainAttrs_list PySem.F.slot_list_append PySem.F.type_list_append mt_append (pv 1) (pa_cons (pe_op op_add_str pe_str (pe_ca wd hr (pa_cons (pe_ix ix_tup (pv 2) pe_int (fun _ _ => rfl)) pa_nil) (by omega))) pa_nil)))
      (pss_one (ps_set (i := 1) nd rfl (.inl rfl) (pe_op op_cat (pe_op op_cat (pv 1) (pe_ca ih hr (pa_cons (pe_ix ix_tup (pv 2) pe_int (fun _ _ => rfl)) pa_nil) (by omega))) (pe_lst (pa_cons pe_str pa_nil)))))) (pss_one (ps_expr (pe_bm PySem.F.plainAttrs_list PySem.F.slot_list_append PySem.F.type_list_append mt_append (pv 1) (pa_cons (pe_op op_add_str (pe_ix ix_tup (pv 2) pe_int (fun _ _ => rfl)) (pe_join pe_str (pe_lc (own := [("_law_part", 3)]) (tt := tYes) rfl nd (pi_tup (pe_slice sl_tup (pv 2) (po_some pe_int) po_none)) (blkOk_by (N := ["_law_rows_here", "_law_lines_here", "_law_row", "_law_part"]) (sc := defScope s_l_lines) (by decide +kernel)) (fun _ _ _ _ _ => pg_name (i := 3) nd rfl (.inl rfl)) (fun _ _ _ _ _ => pts_nil) (fun _ _ _ _ _ => pe_op op_add_str pe_str (pe_ca wd hr (pa_cons (pv 3) pa_nil) (by omega)))))) pa_nil)))))))))
      (pss_one (ps_ret (pv 1))))), ?_⟩
    obtain ⟨a, xs, rfl, ha, hxs⟩ := dp_tup hv
    have lx : xs.length = rs.length := by rw [dps_len hxs, rowsD_map, List.length_map]
    have lmap : ∀ i, i ≤ rs.length → (rowsLs (rs.take i)).length ≤ (rowsLs rs).length := fun i _ => by
      have e : rowsLs rs = rowsLs (rs.take i) ++ rowsLs (rs.drop i) := by rw [← rowsLs_app, List.take_append_drop]
      rw [e, List.length_append]
      omega
    refine ⟨(by show 0 ≤ sizeLine; exact Nat.zero_le _), fun L0 nL0 => ?_⟩
    have s00 := same_new (o := .lst []) nL0
    have hL00 : upd H L0 (.lst []) L0 = some (.lst []) := upd_same
    generalize upd H L0 (.lst []) = H0 at s00 hL00 ⊢
    refine ⟨_, rfl, a, rfl, ⟨_, same_t s00 ha⟩, for_tup (xs := xs) (fun i σ' H' => ∃ (L : Addr) (z2 : Option V), σ' = [some (.ref a), some (.ref L), z2, none] ∧ H L = none ∧ Same H H' ∧ H' L = some (.lst (((rowsLs (rs.take i)).map lineS).map V.str))) ⟨L0, none, rfl, nL0, s00, by rw [hL00]; rfl⟩ (fun i σ' H' _ ⟨_, _, _, _, bt, _⟩ => same_t bt ha) ?_ ?_⟩
    case refine_2 =>
      rintro σ' H' ⟨L, z2, rfl, nL, sH, hL⟩
      rw [lx, List.take_length] at hL
      exact ⟨_, rfl, q L H' sH hL⟩
    rintro i x σ' H1 hx ⟨L, z2, rfl, nL, sH, hL1⟩
    obtain ⟨dd, edd, hdd⟩ := dps_get hxs hx
    rw [rowsD_map] at edd
    obtain ⟨r, er, rfl⟩ := get_mapA edd
    obtain ⟨hd12, rok⟩ := rowsOk_at ok er
    have hr1 := dp_same sH hdd
    have hi : i < rs.length := (List.getElem?_eq_some_iff.mp er).1
    have len1 := lmap (i + 1) hi
    rw [take_more er, rowsLs_app, rowsLs_one, List.length_append] at len1
    obtain ⟨n', rfl⟩ : ∃ n', n = n' + 1 := ⟨n - 1, by omega⟩
    have goal : ∀ (L' : Addr) (z2 : Option V) (H' : Hp), H L' = none → Same H H' → H' L' = some (.lst (((rowsLs (rs.take i)).map lineS).map V.str ++ (r.ls.map lineS).map V.str)) → ∃ (L : Addr) (z2' : Option V), ([some (.ref a), some (.ref L'), z2, none] : L2.St) = [some (.ref a), some (.ref L), z2', none] ∧ H L = none ∧ Same H H' ∧ H' L = some (.lst (((rowsLs (rs.take (i + 1))).map lineS).map V.str)) := fun L' z2 H' n1 s1 e1 => ⟨L', z2, rfl, n1, s1, by
      rw [e1, take_more er, rowsLs_app, rowsLs_one, List.map_append, List.map_append]⟩
    generalize hA : (rowsLs (rs.take i)).map lineS = A at hL1 goal
    have lA : A.length = (rowsLs (rs.take i)).length := by rw [← hA, List.length_map]
    have cL : Ch H1 L := .lst hL1
    have fresh : ∀ {H' : Hp} {o : HO}, Same H H' → Same H (upd H' L o) := fun {H'} {o} s b ob e => by
      rw [upd_ne (ne_of_none e nL)]
      exact s _ _ e
    rcases row_kinds r with ⟨e, ea, eb, rfl⟩ | ⟨e, ea, rfl⟩ | pl
    · obtain ⟨ra, y0, y1, y2, y3, rfl, hra, h0, h1, h2, h3⟩ := dp4 hr1
      cases dp_str h0
      obtain ⟨ge, oka, okb⟩ := rok
      refine ⟨_, rfl, _, _, _, _, rfl, rfl, hra, at0, rfl, _, rfl, ?_⟩
      rw [decide_eq_true (show V.str "if" = V.str "if" from rfl)]
      have le := etx_509 (good_EOk ge) (by decide)
      refine iteT ⟨_, rfl, .inl ⟨rfl, _, .of hL1⟩, _, rfl, _, _, _, _, rfl, rfl, hra, at1, y1, e, rfl, h1, good_EOk ge, by decide, _, _, rfl, rfl, by rw [sizeLine_eq, l_if, estr_len]; omega, L, _, _, rfl, rfl, hL1, by rw [List.length_map, sizeLine_eq]; omega, ?_⟩
      have t2 : But L H1 (upd H1 L (.lst (A.map V.str ++ [.str (("if " : Str) ++ estr e)]))) := But.upd
      have hL2 : upd H1 L (.lst (A.map V.str ++ [.str (("if " : Str) ++ estr e)])) L = some (.lst (A.map V.str ++ [.str (("if " : Str) ++ estr e)])) := upd_same
      have sH2 : Same H (upd H1 L (.lst (A.map V.str ++ [.str (("if " : Str) ++ estr e)]))) := fresh sH
      have hra2 := sqT_but cL t2 hra
      have h22 := dp_but cL t2 h2 (rowsD_noL ea)
      have h32 := dp_but cL t2 h3 (rowsD_noL eb)
      generalize upd H1 L (.lst (A.map V.str ++ [.str (("if " : Str) ++ estr e)])) = H2 at t2 hL2 sH2 hra2 h22 h32 ⊢
      have ll : (Row.ls (.iff e ea eb)).length = 1 + ((rowsLs ea).length + (1 + ((rowsLs eb).length + 1))) := by
        show (_ :: (rowsLs ea ++ (elsW :: (rowsLs eb ++ [endW])))).length = _
        simp only [List.length_cons, List.length_append, List.length_nil]
        omega
      refine ⟨_, rfl, _, rfl, _, _, _, _, rfl, rfl, hra2, at2, y2, ea, c, deep + 1, loops, rfl, h22, oka, hc, by omega, by omega, fun l1 H3 s3 hl1 => ?_⟩
      refine ⟨L, l1, _, _, rfl, rfl, s3 _ _ hL2, hl1, by simp only [List.length_append, List.length_map, List.length_singleton]; rw [sizeLine_eq]; omega, fun q1 nq1 => ?_⟩
      generalize hB : A.map V.str ++ [.str (("if " : Str) ++ estr e)] ++ ((rowsLs ea).map lineS).map V.str = B
      have lB : B.length = A.length + 1 + (rowsLs ea).length := by rw [← hB]; simp; omega
      have s4 := same_new (o := .lst B) nq1
      have hq1 : upd H3 q1 (.lst B) q1 = some (.lst B) := upd_same
      generalize upd H3 q1 (.lst B) = H4 at s4 hq1 ⊢
      refine ⟨(by show 1 ≤ sizeLine; decide), fun q2 nq2 => ?_⟩
      have s5 := same_new (o := .lst [.str "else"]) nq2
      have hq2 : upd H4 q2 (.lst [.str "else"]) q2 = some (.lst [.str "else"]) := upd_same
      generalize upd H4 q2 (.lst [.str "else"]) = H5 at s5 hq2 ⊢
      refine ⟨q1, q2, _, _, rfl, rfl, s5 _ _ hq1, hq2, by rw [List.length_singleton, sizeLine_eq]; omega, fun q3 nq3 => ?_⟩
      have s6 := same_new (o := .lst (B ++ [.str "else"])) nq3
      have hq3 : upd H5 q3 (.lst (B ++ [.str "else"])) q3 = some (.lst (B ++ [.str "else"])) := upd_same
      generalize upd H5 q3 (.lst (B ++ [.str "else"])) = H6 at s6 hq3 ⊢
      have s26 := s3.trans (s4.trans (s5.trans s6))
      refine ⟨_, rfl, _, _, _, _, rfl, rfl, same_t s26 hra2, at3, y3, eb, c, deep + 1, loops, rfl, dp_same s26 h32, okb, hc, by omega, by omega, fun l2 H7 s7 hl2 => ?_⟩
      refine ⟨q3, l2, _, _, rfl, rfl, s7 _ _ hq3, hl2, by simp only [List.length_append, List.length_map, List.length_singleton]; rw [sizeLine_eq]; omega, fun q4 nq4 => ?_⟩
      have s8 := same_new (o := .lst (B ++ [.str "else"] ++ ((rowsLs eb).map lineS).map V.str)) nq4
      have hq4 : upd H7 q4 (.lst (B ++ [.str "else"] ++ ((rowsLs eb).map lineS).map V.str)) q4 = some (.lst (B ++ [.str "else"] ++ ((rowsLs eb).map lineS).map V.str)) := upd_same
      generalize upd H7 q4 (.lst (B ++ [.str "else"] ++ ((rowsLs eb).map lineS).map V.str)) = H8 at s8 hq4 ⊢
      refine ⟨(by show 1 ≤ sizeLine; decide), fun q5 nq5 => ?_⟩
      have s9 := same_new (o := .lst [.str "end"]) nq5
      have hq5 : upd H8 q5 (.lst [.str "end"]) q5 = some (.lst [.str "end"]) := upd_same
      generalize upd H8 q5 (.lst [.str "end"]) = H9 at s9 hq5 ⊢
      refine ⟨q4, q5, _, _, rfl, rfl, s9 _ _ hq4, hq5, by simp only [List.length_append, List.length_map, List.length_singleton]; rw [sizeLine_eq]; omega, fun q6 nq6 => ?_⟩
      have s10 := same_new (o := .lst (B ++ [.str "else"] ++ ((rowsLs eb).map lineS).map V.str ++ [.str "end"])) nq6
      have all : Same H H9 := sH2.trans (s26.trans (s7.trans (s8.trans s9)))
      have nq6H : H q6 = none := by
        cases e : H q6 with
        | none => rfl
        | some o => rw [all _ _ e] at nq6; cases nq6
      refine goal q6 _ _ nq6H (all.trans s10) ?_
      rw [upd_same, ← hB]
      have ew : lineS (Row.wds (.iff e [] [])) = ("if " : Str) ++ estr e := (line_if e).symm
      show some (HO.lst _) = some (HO.lst (A.map V.str ++ ((Row.wds (.iff e [] []) :: (rowsLs ea ++ (elsW :: (rowsLs eb ++ [endW])))).map lineS).map V.str))
      simp only [List.map_cons, List.map_append, List.map_nil, ew, lineS_els, lineS_end, List.append_assoc, List.cons_append, List.nil_append]
    · obtain ⟨ra, y0, y1, y2, rfl, hra, h0, h1, h2⟩ := dp3 hr1
      cases dp_str h0
      obtain ⟨ge, lo2, oka⟩ := rok
      refine ⟨_, rfl, _, _, _, _, rfl, rfl, hra, at0, rfl, _, rfl, ?_⟩
      rw [decide_eq_false n_ti]
      refine iteF ⟨_, rfl, _, _, _, _, rfl, rfl, hra, at0, rfl, _, rfl, ?_⟩
      rw [decide_eq_true (show V.str "times" = V.str "times" from rfl)]
      have le := etx_509 (good_EOk ge) (by decide)
      refine iteT ⟨_, rfl, .inl ⟨rfl, _, .of hL1⟩, _, rfl, _, _, _, _, rfl, rfl, hra, at1, y1, e, rfl, h1, good_EOk ge, by decide, _, _, rfl, rfl, by rw [sizeLine_eq, l_times, estr_len]; omega, L, _, _, rfl, rfl, hL1, by rw [List.length_map, sizeLine_eq]; omega, ?_⟩
      have t2 : But L H1 (upd H1 L (.lst (A.map V.str ++ [.str (("times " : Str) ++ estr e)]))) := But.upd
      have hL2 : upd H1 L (.lst (A.map V.str ++ [.str (("times " : Str) ++ estr e)])) L = some (.lst (A.map V.str ++ [.str (("times " : Str) ++ estr e)])) := upd_same
      have sH2 : Same H (upd H1 L (.lst (A.map V.str ++ [.str (("times " : Str) ++ estr e)]))) := fresh sH
      have hra2 := sqT_but cL t2 hra
      have h22 := dp_but cL t2 h2 (rowsD_noL ea)
      generalize upd H1 L (.lst (A.map V.str ++ [.str (("times " : Str) ++ estr e)])) = H2 at t2 hL2 sH2 hra2 h22 ⊢
      have ll : (Row.ls (.times e ea)).length = 1 + ((rowsLs ea).length + 1) := by
        show (_ :: (rowsLs ea ++ [endW])).length = _
        simp only [List.length_cons, List.length_append, List.length_nil]
        omega
      refine ⟨_, rfl, _, rfl, _, _, _, _, rfl, rfl, hra2, at2, y2, ea, c, deep + 1, loops + 1, rfl, h22, oka, hc, by omega, by omega, fun l1 H3 s3 hl1 => ?_⟩
      refine ⟨L, l1, _, _, rfl, rfl, s3 _ _ hL2, hl1, by simp only [List.length_append, List.length_map, List.length_singleton]; rw [sizeLine_eq]; omega, fun q1 nq1 => ?_⟩
      generalize hB : A.map V.str ++ [.str (("times " : Str) ++ estr e)] ++ ((rowsLs ea).map lineS).map V.str = B
      have lB : B.length = A.length + 1 + (rowsLs ea).length := by rw [← hB]; simp; omega
      have s4 := same_new (o := .lst B) nq1
      have hq1 : upd H3 q1 (.lst B) q1 = some (.lst B) := upd_same
      generalize upd H3 q1 (.lst B) = H4 at s4 hq1 ⊢
      refine ⟨(by show 1 ≤ sizeLine; decide), fun q5 nq5 => ?_⟩
      have s9 := same_new (o := .lst [.str "end"]) nq5
      have hq5 : upd H4 q5 (.lst [.str "end"]) q5 = some (.lst [.str "end"]) := upd_same
      generalize upd H4 q5 (.lst [.str "end"]) = H9 at s9 hq5 ⊢
      refine ⟨q1, q5, _, _, rfl, rfl, s9 _ _ hq1, hq5, by rw [List.length_singleton, sizeLine_eq]; omega, fun q6 nq6 => ?_⟩
      have s10 := same_new (o := .lst (B ++ [.str "end"])) nq6
      have all : Same H H9 := sH2.trans (s3.trans (s4.trans s9))
      have nq6H : H q6 = none := by
        cases e : H q6 with
        | none => rfl
        | some o => rw [all _ _ e] at nq6; cases nq6
      refine goal q6 _ _ nq6H (all.trans s10) ?_
      rw [upd_same, ← hB]
      have ew : lineS (Row.wds (.times e [])) = ("times " : Str) ++ estr e := (line_times e).symm
      show some (HO.lst _) = some (HO.lst (A.map V.str ++ ((Row.wds (.times e []) :: (rowsLs ea ++ [endW])).map lineS).map V.str))
      simp only [List.map_cons, List.map_append, List.map_nil, ew, lineS_end, List.append_assoc, List.cons_append, List.nil_append]
    · rw [row_d] at hr1
      obtain ⟨ra, xs', rfl, hra, hxs'⟩ := dp_tup hr1
      obtain ⟨y, ys, rfl, hy, hys⟩ : ∃ y ys, xs' = y :: ys ∧ Dp K H1 y (.str r.word) ∧ DpAll K H1 ys (r.prts.map Prt.d) := by
        cases hxs' with | cons h1 h2 => exact ⟨_, _, rfl, h1, h2⟩
      cases dp_str hy
      have lys : ys.length = r.prts.length := by rw [dps_len hys, List.length_map]
      have p4 : r.prts.length ≤ 4 := by cases r <;> simp [Row.prts]
      refine ⟨_, rfl, _, _, _, _, rfl, rfl, hra, at0, rfl, _, rfl, ?_⟩
      rw [decide_eq_false (fun z => pl.w1 (V.str.inj z))]
      refine iteF ⟨_, rfl, _, _, _, _, rfl, rfl, hra, at0, rfl, _, rfl, ?_⟩
      rw [decide_eq_false (fun z => pl.w2 (V.str.inj z))]
      refine iteF ⟨_, rfl, .inl ⟨rfl, _, .of hL1⟩, _, rfl, _, _, _, _, rfl, rfl, hra, at0, ⟨_, rfl⟩, _, rfl, _, rfl, ra, _, rfl, hra, cut1_not _ _, fun p np => ?_⟩
      rw [cut1]
      have s2 := same_new (o := .tup ys) np
      have e2 : upd H1 p (.tup ys) p = some (.tup ys) := upd_same
      generalize upd H1 p (.tup ys) = H2 at s2 e2 ⊢
      refine ⟨p, rfl, ⟨_, .of e2⟩, fun W nW => ?_⟩
      refine it_any (n := ys.length) walk_tup (fun i J => Same H2 J ∧ J W = some (.lst (((r.prts.take i).map fun p => (" " : Str) ++ estr p.xp).map V.str))) ⟨same_new nW, upd_same⟩ (fun i J _ ⟨s, _⟩ => .of (s _ _ e2)) ?_ ?_
      · rintro k u J0 J hk ⟨sJ, hW⟩ ⟨rfl, eu⟩
        obtain ⟨d2, hd2, hud⟩ := dps_get hys eu
        obtain ⟨pp, hp, rfl⟩ := get_mapA hd2
        have mp := List.mem_of_getElem? hp
        have okp := row_prts rok pp mp
        obtain ⟨x1, x2⟩ := prt_xp (pl.ps pp mp) okp hc
        have le := etx_509 x2 (by decide)
        have hk4 : k < r.prts.length := (List.getElem?_eq_some_iff.mp hp).1
        refine ⟨rfl, _, rfl, u, pp.xp, rfl, by rw [x1]; exact dp_same (s2.trans sJ) hud, x2, by decide, _, _, rfl, rfl, by rw [sizeLine_eq, show (" " : Str).length = 1 by decide +kernel, estr_len]; omega, _, hW, by rw [List.length_map, List.length_map, List.length_take, sizeLine_eq]; omega, fun b o e => ?_, ?_⟩
        · rw [upd_ne (ne_of_none e nW)]
          exact sJ _ _ e
        · rw [upd_same, take_more hp, List.map_append, List.map_append]
          rfl
      rintro J ⟨sJ, hW⟩
      rw [lys, List.take_length] at hW
      have epr : (r.prts.map fun p => (" " : Str) ++ estr p.xp) = (r.prts.filterMap Prt.wd).map fun w => (" " : Str) ++ w := by
        rw [prts_wds pl, List.map_map]
        rfl
      have lens : ∀ p ∈ r.prts, ((" " : Str) ++ estr p.xp).length ≤ 510 := fun p mp => by
        have le := etx_509 (prt_xp (pl.ps p mp) (row_prts rok p mp) hc).2 (by decide)
        rw [len_app, show (" " : Str).length = 1 by decide +kernel, estr_len]
        omega
      have sum4 : ∀ ps : List Prt, (∀ p ∈ ps, ((" " : Str) ++ estr p.xp).length ≤ 510) → ((ps.map fun p => (" " : Str) ++ estr p.xp).map (·.length)).sum ≤ 510 * ps.length := by
        intro ps
        induction ps with
        | nil => exact fun _ => Nat.le_refl 0
        | cons p ps ih =>
          intro h
          have h1 := h p List.mem_cons_self
          have h2 := ih fun q hq => h q (List.mem_cons_of_mem _ hq)
          rw [List.map_cons, List.map_cons, List.sum_cons, List.length_cons]
          omega
      have sm := sum4 r.prts lens
      have lw : r.word.length ≤ 6 := by
        cases r
        · show ("read" : Str).length ≤ 6; decide +kernel
        · show ("set" : Str).length ≤ 6; decide +kernel
        · show ("swap" : Str).length ≤ 6; decide +kernel
        · show ("keep" : Str).length ≤ 6; decide +kernel
        · show ("coin" : Str).length ≤ 6; decide +kernel
        · show ("if" : Str).length ≤ 6; decide +kernel
        · show ("times" : Str).length ≤ 6; decide +kernel
        · show ("answer" : Str).length ≤ 6; decide +kernel
      have e0 : ("" : Str).length = 0 := by decide +kernel
      have el : r.word ++ Txt.join ("" : Str) (r.prts.map fun p => (" " : Str) ++ estr p.xp) = lineS r.wds := by
        rw [epr, line_cat]
        rfl
      have lj : (Txt.join ("" : Str) (r.prts.map fun p => (" " : Str) ++ estr p.xp)).length ≤ 4096 := by
        rw [join_len]
        omega
      refine ⟨_, W, _, rfl, rfl, .inl (.of hW), by rw [e0]; omega, _, _, rfl, rfl, by rw [sizeLine_eq]; omega, ?_⟩
      rw [el]
      have sH2 := (sH.trans s2).trans sJ
      have hLJ := sJ _ _ (s2 _ _ hL1)
      refine ⟨L, _, _, rfl, rfl, hLJ, by rw [List.length_map, sizeLine_eq]; omega, ?_⟩
      refine goal L _ _ nL (fresh sH2) ?_
      rw [upd_same, pl.ls]
      rfl
end
end Tx

end M

set_option Elab.async false
set_option linter.all false
set_option maxRecDepth 100000
set_option maxHeartbeats 2000000
namespace M
open PySem PySem.Spec PyProof.Rows L2

theorem cell_str2 (a b : Int) : ("cell " : Str) ++ dg a ++ (" " : Str) ++ dg b = lineS (cellW (a, b)) := by
  show _ = lineS (["cell", dg a, dg b] : List Str)
  rw [← cell_str, empty_app]
theorem deed_str2 (s : Str) (b : Int) (rs : List Row) : ("deed " : Str) ++ s ++ (" " : Str) ++ dg b = lineS (deedW (s, b, rs)) := by
  show _ = lineS (["deed", s, dg b] : List Str)
  rw [← deed_str, empty_app]
namespace Tx
section
variable {P : Program} {w : World} {K : PySem.W.Frag} {mg : Str → Option Value} {base : Heap}
def spLTxt (K : PySem.W.Frag) : Sp := fun vs H Q _ => ∃ (ca da : Addr) (xs ys : List V) (cs : List (Int × Int)) (ds : List (Str × Int × List Row)), vs = [.ref ca, .ref da] ∧ (H ca = some (.lst xs) ∧ DpAll K H xs (cs.map cellD)) ∧ (H da = some (.lst ys) ∧ DpAll K H ys (ds.map deedD)) ∧ VGood ⟨cs, ds⟩ ∧ ∀ H', Same H H' → Q (.str (vaultS ⟨cs, ds⟩)) H'
theorem ca_l_text (T : Txt w K mg) : Ca P w K mg base 26 "_law_text" (spLTxt K) := by
  refine ca_of (N := ["_law_cells", "_law_deeds", "_law_lines_here", "_law_cell", "_law_deed"]) (ps := ["_law_cells", "_law_deeds"]) T.f_l_text T.g_law_text ⟨rfl, rfl, rfl, by decide +kernel, rfl, by decide +kernel, by decide +kernel⟩ (fun _ _ _ _ _ _ us hl => match us, hl with | [_, _], _ => rfl)
    (fun vs H Q E h => by obtain ⟨ca, da, xs, ys, cs, ds, rfl, ⟨hca, hxs⟩, ⟨hda, hys⟩, g, q⟩ := h; rfl) (fun cdv A outer s H vs Q E hr h => ?_)
  have nd : (["_law_cells", "_law_deeds", "_law_lines_here", "_law_cell", "_law_deed"] : List Str).Nodup := by decide +kernel
  obtain ⟨ca, da, xs, ys, cs, ds, rfl, ⟨hca, hxs⟩, ⟨hda, hys⟩, g, q⟩ := h
  refine ⟨_, (pss_cons (ps_set (i := 2) nd rfl (.inl rfl) (pe_lst pa_nil))
      (pss_cons (ps_for PassesOwn.never rfl (pi_list (pv 0)) (pg_name (i := 3) nd rfl (.inl rfl)) (pss_one (ps_expr (pe_bm PySem.F.plainAttrs_list PySem.F.slot_list_append PySem.F.type_list_append mt_append (pv 2) (pa_cons (pe_op op_add_str (pe_op op_add_str (pe_op op_add_str pe_str (pe_callTy call_str_int (by rfl) T.b_str boot_str (pa_cons (pe_ix ix_tup (pv 3) pe_int (fun _ _ => rfl)) pa_nil))) pe_str) (pe_callTy call_str_int (by rfl) T.b_str boot_str (pa_cons (pe_ix ix_tup (pv 3) pe_int (fun _ _ => rfl)) pa_nil))) pa_nil)))))
      (pss_cons (ps_for PassesOwn.never rfl (pi_list (pv 1)) (pg_name (i := 4) nd rfl (.inl rfl)) (pss_cons (ps_expr (pe_bm PySem.F.plainAttrs_list PySem.F.slot_list_append PySem.F.type_list_append mt_append (pv 2) (pa_cons (pe_op op_add_str (pe_op op_add_str (pe_op op_add_str pe_str (pe_ix ix_tup (pv 4) pe_int (fun _ _ => rfl))) pe_str) (pe_callTy call_str_int (by rfl) T.b_str boot_str (pa_cons (pe_ix ix_tup (pv 4) pe_int (fun _ _ => rfl)) pa_nil))) pa_nil)))
      (pss_one (ps_set (i := 2) nd rfl (.inl rfl) (pe_op op_cat (pv 2) (pe_ca (Tx.ca_l_lines T 13) hr (pa_cons (pe_ix ix_tup (pv 4) pe_int (fun _ _ => rfl)) pa_nil)))))))
      (pss_one (ps_ret (pe_join pe_str (pv 2))))))), ?_⟩
  have lc : xs.length = cs.length := by rw [dps_len hxs, List.length_map]
  have ld : ys.length = ds.length := by rw [dps_len hys, List.length_map]
  obtain ⟨l5, l5', l1⟩ := len5
  have few := vault_few g
  refine ⟨(by show 0 ≤ sizeLine; exact Nat.zero_le _), fun L nL => ?_⟩
  have s0 := same_new (o := .lst []) nL
  have hL0 : upd H L (.lst []) L = some (.lst []) := upd_same
  generalize upd H L (.lst []) = H0 at s0 hL0 ⊢
  have fresh : ∀ {L : Addr} {H' : Hp} {o : HO}, H L = none → Same H H' → Same H (upd H' L o) := fun {L} {H'} {o} n s b ob e => by
    rw [upd_ne (ne_of_none e n)]
    exact s _ _ e
  refine ⟨_, rfl, ca, rfl, ⟨_, .of (s0 _ _ hca)⟩, for_list (xs := xs) (fun i σ' H' => ∃ (z3 : Option V), σ' = [some (.ref ca), some (.ref da), some (.ref L), z3, none] ∧ Same H H' ∧ H' L = some (.lst (((cs.take i).map fun c => lineS (cellW c)).map V.str))) ⟨none, rfl, s0, hL0⟩ (fun i σ' H' _ ⟨_, _, s, _⟩ => .of (s _ _ hca)) ?_ ?_⟩
  · rintro i x σ' H1 hx ⟨z3, rfl, sH, hL⟩
    obtain ⟨d0, ed, hdd⟩ := dps_get hxs hx
    obtain ⟨c, ec, rfl⟩ := get_mapA ed
    obtain ⟨tc, x1, x2, rfl, htc, f1, f2⟩ := dp2 (dp_same sH hdd)
    cases dp_int f1
    cases dp_int f2
    have ok := g.cs c (List.mem_of_getElem? ec)
    unfold CellOk at ok
    have hi2 : i < cs.length := (List.getElem?_eq_some_iff.mp ec).1
    have c6 : cs.length ≤ 6 := g.c1
    have d1 := dig_str (i := c.1) ⟨by omega, by omega⟩
    have d2 := dig_str (i := c.2) ⟨by omega, by omega⟩
    refine ⟨_, rfl, .inl ⟨rfl, _, .of hL⟩, _, rfl, _, _, _, _, rfl, rfl, htc, at0, _, rfl, log_of ⟨by omega, by omega⟩, _, _, rfl, rfl, by rw [sizeLine_eq]; erw [d1]; rw [l5, len_dg]; decide, _, _, rfl, rfl, by rw [sizeLine_eq]; erw [d1]; rw [len_app, l5, l1, len_dg]; decide, _, rfl, _, _, _, _, rfl, rfl, htc, at1, _, rfl, log_of ⟨by omega, by omega⟩, _, _, rfl, rfl, by rw [sizeLine_eq]; erw [d1, d2]; rw [len_app, len_app, l5, l1, len_dg, len_dg]; decide, L, _, _, rfl, rfl, hL, by rw [List.length_map, List.length_map, List.length_take, sizeLine_eq]; omega, ?_⟩
    refine ⟨_, rfl, fresh nL sH, ?_⟩
    rw [upd_same, take_more ec, List.map_append, List.map_append]
    have es : ("cell " : Str) ++ Str.ofString (toString c.1) ++ (" " : Str) ++ Str.ofString (toString c.2) = lineS (cellW c) := by
      rw [d1, d2, cell_str2]
    rw [es]
    rfl
  rintro σ' H1 ⟨z3, rfl, sH, hL⟩
  rw [lc, List.take_length] at hL
  have split : ∀ i, i ≤ ds.length → (cs.map cellW ++ (ds.take i).flatMap deedLs).length ≤ (vaultLs ⟨cs, ds⟩).length := fun i _ => by
    have e : ds.flatMap deedLs = (ds.take i).flatMap deedLs ++ (ds.drop i).flatMap deedLs := by rw [← List.flatMap_append, List.take_append_drop]
    unfold vaultLs
    show _ ≤ (cs.map cellW ++ ds.flatMap deedLs).length
    rw [e]
    simp only [List.length_append]
    omega
  refine ⟨_, rfl, da, rfl, ⟨_, .of (sH _ _ hda)⟩, for_list (xs := ys) (fun i σ' H' => ∃ (z4 : Option V) (L : Addr), σ' = [some (.ref ca), some (.ref da), some (.ref L), z3, z4] ∧ H L = none ∧ Same H H' ∧ H' L = some (.lst (((cs.map cellW ++ (ds.take i).flatMap deedLs).map lineS).map V.str))) ⟨none, L, rfl, nL, sH, by rw [hL]; simp⟩ (fun i σ' H' _ ⟨_, _, _, _, s, _⟩ => .of (s _ _ hda)) ?_ ?_⟩
  · rintro i x σ' H2 hx ⟨z4, L, rfl, nL, sH, hL2⟩
    obtain ⟨d0, ed, hdd⟩ := dps_get hys hx
    obtain ⟨d, ec, rfl⟩ := get_mapA ed
    obtain ⟨td, x1, x2, x3, rfl, htd, f1, f2, f3⟩ := dp3 (dp_same sH hdd)
    cases dp_str f1
    cases dp_int f2
    have ok := g.ds d (List.mem_of_getElem? ec)
    have c9 := ok.2.1
    have n8 := ok.1.2.1
    have hi2 : i < ds.length := (List.getElem?_eq_some_iff.mp ec).1
    have sp := split (i + 1) hi2
    rw [take_more ec, List.flatMap_append, ← List.append_assoc, List.length_append, show [d].flatMap deedLs = deedLs d by simp, show (deedLs d).length = (rowsLs d.2.2).length + 1 from rfl] at sp
    have d2 := dig_str (i := d.2.1) ⟨by omega, by omega⟩
    generalize hA : (cs.map cellW ++ (ds.take i).flatMap deedLs) = A at hL2 sp
    refine ⟨_, rfl, .inl ⟨rfl, _, .of hL2⟩, _, rfl, _, _, _, _, rfl, rfl, htd, at0, _, _, rfl, rfl, by rw [sizeLine_eq, l5']; omega, _, _, rfl, rfl, by rw [sizeLine_eq, len_app, l5', l1]; omega, _, rfl, _, _, _, _, rfl, rfl, htd, at1, _, rfl, log_of ⟨by omega, by omega⟩, _, _, rfl, rfl, by rw [sizeLine_eq]; erw [d2]; rw [len_app, len_app, l5', l1, len_dg]; omega, L, _, _, rfl, rfl, hL2, by rw [List.length_map, List.length_map, sizeLine_eq]; omega, ?_⟩
    have es : ("deed " : Str) ++ d.1 ++ (" " : Str) ++ Str.ofString (toString d.2.1) = lineS (deedW d) := by
      rw [d2]
      exact deed_str2 d.1 d.2.1 d.2.2
    rw [es]
    have t3 : But L H2 (upd H2 L (.lst ((A.map lineS).map V.str ++ [.str (lineS (deedW d))]))) := But.upd
    have hL3 : upd H2 L (.lst ((A.map lineS).map V.str ++ [.str (lineS (deedW d))])) L = some (.lst ((A.map lineS).map V.str ++ [.str (lineS (deedW d))])) := upd_same
    have sH3 : Same H (upd H2 L (.lst ((A.map lineS).map V.str ++ [.str (lineS (deedW d))]))) := fresh nL sH
    have cL : Ch H2 L := .lst hL2
    have htd3 := sqT_but cL t3 htd
    have h33 := dp_but cL t3 f3 (rowsD_noL d.2.2)
    generalize upd H2 L (.lst ((A.map lineS).map V.str ++ [.str (lineS (deedW d))])) = H3 at t3 hL3 sH3 htd3 h33 ⊢
    refine ⟨_, rfl, _, rfl, _, _, _, _, rfl, rfl, htd3, at2, x3, d.2.2, (cs.length : Nat), 1, 0, rfl, h33, ok.2.2.1, by have : cs.length ≤ 6 := g.c1; omega, by decide, by omega, fun l1 H4 s4 hl1 => ?_⟩
    refine ⟨L, l1, _, _, rfl, rfl, s4 _ _ hL3, hl1, by simp only [List.length_append, List.length_map, List.length_singleton]; rw [sizeLine_eq]; omega, fun q1 nq1 => ?_⟩
    have s5 := same_new (o := .lst ((A.map lineS).map V.str ++ [.str (lineS (deedW d))] ++ ((rowsLs d.2.2).map lineS).map V.str)) nq1
    have all : Same H H4 := sH3.trans s4
    have nq1H : H q1 = none := by
      cases e : H q1 with
      | none => rfl
      | some o => rw [all _ _ e] at nq1; cases nq1
    refine ⟨_, q1, rfl, nq1H, all.trans s5, ?_⟩
    rw [upd_same, take_more ec, List.flatMap_append, show [d].flatMap deedLs = deedLs d by simp, ← List.append_assoc, hA]
    show some (HO.lst _) = some (HO.lst (((A ++ (deedW d :: rowsLs d.2.2)).map lineS).map V.str))
    simp only [List.map_cons, List.map_append, List.append_assoc, List.cons_append, List.nil_append]
  · rintro σ' H2 ⟨z4, L, rfl, nL, sH, hL2⟩
    rw [ld, List.take_length] at hL2
    have room := text_room g
    exact ⟨⟨_, rfl⟩, _, rfl, _, L, (vaultLs ⟨cs, ds⟩).map lineS, rfl, rfl, .inl (.of hL2), room, q H2 sH⟩
end
end Tx

end M

set_option Elab.async false
set_option linter.all false
set_option maxRecDepth 100000
set_option maxHeartbeats 2000000
namespace M
open PySem PySem.Spec PyProof.Rows L2

/-- made of tuples, texts and whole numbers alone -/
inductive Pl : PyData → Prop where
  | int (i : Int) : Pl (.int i)
  | str (x : Str) : Pl (.str x)
  | tup {ds : List PyData} (h : ∀ d ∈ ds, Pl d) : Pl (.tuple ds)
theorem Exp.pl : ∀ e : Exp, Pl e.d
  | .num n => .int n
  | .reg r => .str r
  | .op s a b => .tup fun d h => by
    rcases List.mem_cons.mp h with rfl | h
    · exact .str s
    rcases List.mem_cons.mp h with rfl | h
    · exact a.pl
    rcases List.mem_cons.mp h with rfl | h
    · exact b.pl
    cases h
mutual
theorem Row.pl : ∀ r : Row, Pl r.d
  | .read r c => .tup (by intro d h; simp at h; rcases h with rfl | rfl | rfl <;> constructor)
  | .set c e => .tup (by intro d h; simp at h; rcases h with rfl | rfl | rfl <;> first | exact e.pl | constructor)
  | .swap r c e f => .tup (by intro d h; simp at h; rcases h with rfl | rfl | rfl | rfl | rfl <;> first | exact e.pl | exact f.pl | constructor)
  | .keep r e => .tup (by intro d h; simp at h; rcases h with rfl | rfl | rfl <;> first | exact e.pl | constructor)
  | .coin r => .tup (by intro d h; simp at h; rcases h with rfl | rfl <;> constructor)
  | .iff e a b => .tup (by intro d h; simp at h; rcases h with rfl | rfl | rfl | rfl <;> first | exact e.pl | exact .tup (rows_pl a) | exact .tup (rows_pl b) | constructor)
  | .times e a => .tup (by intro d h; simp at h; rcases h with rfl | rfl | rfl <;> first | exact e.pl | exact .tup (rows_pl a) | constructor)
  | .ans e => .tup (by intro d h; simp at h; rcases h with rfl | rfl <;> first | exact e.pl | constructor)
theorem rows_pl : ∀ rs : List Row, ∀ d ∈ rowsD rs, Pl d
  | [], d, h => by cases h
  | r :: rs, d, h => by
    rcases List.mem_cons.mp h with rfl | h
    · exact r.pl
    · exact rows_pl rs d h
end
theorem shape_pl (v : Vlt) : Pl (.tuple [.tuple (v.cells.map cellD), .tuple (v.deeds.map deedD)]) := .tup fun d h => by
  rcases List.mem_cons.mp h with rfl | h
  · refine .tup fun x hx => ?_
    obtain ⟨c, _, rfl⟩ := List.mem_map.mp hx
    refine .tup fun y hy => ?_
    simp only [List.mem_cons, List.not_mem_nil, or_false] at hy
    rcases hy with rfl | rfl <;> constructor
  rcases List.mem_cons.mp h with rfl | h
  · refine .tup fun x hx => ?_
    obtain ⟨c, _, rfl⟩ := List.mem_map.mp hx
    refine .tup fun y hy => ?_
    simp only [List.mem_cons, List.not_mem_nil, or_false] at hy
    rcases hy with rfl | rfl | rfl
    · constructor
    · constructor
    · exact .tup (rows_pl c.2.2)
  cases h
theorem shape_fit {v : Vlt} (g : VGood v) : fit 42 (.tuple [.tuple (v.cells.map cellD), .tuple (v.deeds.map deedD)]) := ⟨by show 2 ≤ 100000; decide, fun x hx => by
  simp only [List.mem_cons, List.not_mem_nil, or_false] at hx
  rcases hx with rfl | rfl
  · exact fit_up (cells_fit g) (by decide)
  · exact deeds_fit g⟩
namespace Tx
section
variable {P : Program} {w : World} {K : PySem.W.Frag} {mg : Str → Option Value} {base : Heap}
def spPln (K : PySem.W.Frag) : Nat → Sp
  | 0 => fun _ _ _ _ => False
  | n + 1 => fun vs H Q _ => ∃ (v : V) (d : PyData), vs = [v] ∧ Dp K H v d ∧ Pl d ∧ fit n d ∧ ∀ H', Same H H' → Q (.bl true) H'
theorem ca_l_plain (T : Txt w K mg) : ∀ n : Nat, Ca P w K mg base (n + 2) "_law_plain" (spPln K n)
  | 0 => ca_false (ps := ["_law_thing"]) T.f_l_plain T.g_law_plain (fun _ _ _ _ _ _ us hl => match us, hl with | [_], _ => rfl)
  | n + 1 => by
    have ih := ca_l_plain T n
    refine ca_of (N := ["_law_thing", "_law_part"]) (ps := ["_law_thing"]) T.f_l_plain T.g_law_plain ⟨rfl, rfl, rfl, by decide +kernel, rfl, by decide +kernel, by decide +kernel⟩ (fun _ _ _ _ _ _ us hl => match us, hl with | [_], _ => rfl)
      (fun vs H Q E h => by obtain ⟨v, d, rfl, hv, pl, ft, q⟩ := h; rfl) (fun cdv A outer s H vs Q E hr h => ?_)
    have nd : (["_law_thing", "_law_part"] : List Str).Nodup := by decide +kernel
    obtain ⟨v, d, rfl, hv, pl, ft, q⟩ := h
    refine ⟨_, (pss_cons (ps_if (pt_val (pe_is .tuple T.b_isinstance (pv 0) T.b_tuple boot_tuple)) (pss_one (ps_ret (pe_callB (cr_all rfl) (by rfl) T.b_all boot_all (pa_cons (pe_lc (own := [("_law_part", 1)]) (tt := tYes) rfl nd (pi_tup (pv 0)) (blkOk_by (N := ["_law_thing", "_law_part"]) (sc := defScope s_l_plain) (by decide +kernel)) (fun _ _ _ _ _ => pg_name (i := 1) nd rfl (.inl rfl)) (fun _ _ _ _ _ => pts_nil) (fun _ _ _ _ _ => pe_ca ih hr (pa_cons (pv 1) pa_nil) (by omega))) pa_nil)))) pss_nil)
      (pss_cons (ps_if (pt_val (pe_is .str T.b_isinstance (pv 0) T.b_str boot_str)) (pss_one (ps_ret pe_bl)) pss_nil)
      (pss_one (ps_ret (pe_and (pe_is .int T.b_isinstance (pv 0) T.b_int boot_int) (pe_one (pe_not (pe_is .bool T.b_isinstance (pv 0) T.b_bool boot_bool)))))))), ?_⟩
    cases pl with
    | int i =>
      cases dp_int hv
      refine ⟨_, rfl, _, _, rfl, .int i, _, rfl, iteF ⟨_, rfl, _, _, rfl, .int i, _, rfl, iteF ?_⟩⟩
      exact ⟨_, rfl, _, _, rfl, .int i, true, rfl, iteT ⟨_, rfl, _, _, rfl, .int i, false, rfl, q H fun _ _ e => e⟩⟩
    | str x =>
      cases dp_str hv
      exact ⟨_, rfl, _, _, rfl, .str x, _, rfl, iteF ⟨_, rfl, _, _, rfl, .str x, _, rfl, iteT (q H fun _ _ e => e)⟩⟩
    | @tup ds hp =>
      obtain ⟨a, xs, rfl, ha, hxs⟩ := dp_tup hv
      obtain ⟨m, rfl⟩ : ∃ m, n = m + 1 := by
        cases n with
        | zero => exact ft.elim
        | succ m => exact ⟨m, rfl⟩
      obtain ⟨lds, fds⟩ := ft
      have lx := dps_len hxs
      refine ⟨_, rfl, _, _, rfl, .tuple ha, _, rfl, iteT ⟨_, rfl, a, rfl, ⟨_, ha⟩, fun W nW => ?_⟩⟩
      refine it_any (n := xs.length) walk_tup (fun i J => Same H J ∧ J W = some (.lst ((List.replicate i true).map V.bl))) ⟨same_new nW, upd_same⟩ (fun i J _ ⟨s, _⟩ => same_t s ha) ?_ ?_
      · rintro k u J0 J hk ⟨sJ, hW⟩ ⟨rfl, eu⟩
        obtain ⟨d2, hd2, hud⟩ := dps_get hxs eu
        have md := List.mem_of_getElem? hd2
        refine ⟨rfl, _, rfl, u, d2, rfl, dp_same sJ hud, hp d2 md, fds d2 md, fun J2 s2 => ?_⟩
        have hW2 := s2 _ _ hW
        refine ⟨_, hW2, by rw [List.length_map, List.length_replicate, sizeLine_eq]; omega, fun b o e => ?_, ?_⟩
        · rw [upd_ne (ne_of_none e nW)]
          exact s2 _ _ (sJ _ _ e)
        · rw [upd_same, List.replicate_succ', List.map_append]
          rfl
      rintro J ⟨sJ, hW⟩
      refine ⟨W, _, rfl, .of hW, ?_⟩
      rw [show (List.replicate xs.length true).all id = true by simp]
      exact q J sJ
end
end Tx

end M

set_option Elab.async false
set_option linter.all false
set_option maxRecDepth 100000
set_option maxHeartbeats 2000000
namespace M
open PySem PySem.Spec PyProof.Rows L2

/-! ### coins in codes -/
def NoCoinQ (c : List FR) : Prop := ∀ f ∈ c, ¬ f.hd = some "coin"
theorem NoCoinQ.app {a b : List FR} (h : NoCoinQ a) (k : NoCoinQ b) : NoCoinQ (a ++ b) := fun f m => (List.mem_append.mp m).elim (h f) (k f)
theorem NoCoinQ.one {f : FR} (h : ¬ f.hd = some "coin") : NoCoinQ [f] := fun g m => by rw [List.mem_singleton.mp m]; exact h
theorem NoCoinQ.put {a : List FR} {f : FR} {i : Nat} (h : NoCoinQ a) (k : ¬ f.hd = some "coin") : NoCoinQ (a.set i f) := fun g m => by
  rcases List.mem_or_eq_of_mem_set m with e | e
  · exact h g e
  · rw [e]
    exact k
theorem hdq_ne {s : Str} (h : ¬ s = ("coin" : Str)) : ¬ (some s : Option Str) = some ("coin" : Str) := fun e => h (Option.some.inj e)
theorem hdq_un (e : Exp) (p : Nat) : ¬ (FR.unless e p).hd = some ("coin" : Str) := hdq_ne (s := "unless") (by decide +kernel)
theorem hdq_on (p : Nat) : ¬ (FR.on p).hd = some ("coin" : Str) := hdq_ne (s := "on") (by decide +kernel)
theorem hdq_rs (e : Exp) : ¬ (FR.rounds e).hd = some ("coin" : Str) := hdq_ne (s := "rounds") (by decide +kernel)
theorem hdq_rd (p : Nat) : ¬ (FR.round p).hd = some ("coin" : Str) := hdq_ne (s := "round") (by decide +kernel)
theorem hdq_ho : ¬ FR.hole.hd = some ("coin" : Str) := fun e => nomatch e
theorem hdq_row {r : Row} (h : r.cc = 0) : ¬ (FR.row r).hd = some ("coin" : Str) := by
  cases r with
  | coin x => exact absurd (show (1 : Nat) = 0 from h) (by decide)
  | read => exact hdq_ne (s := "read") (by decide +kernel)
  | set => exact hdq_ne (s := "set") (by decide +kernel)
  | swap => exact hdq_ne (s := "swap") (by decide +kernel)
  | keep => exact hdq_ne (s := "keep") (by decide +kernel)
  | iff => exact hdq_ne (s := "if") (by decide +kernel)
  | times => exact hdq_ne (s := "times") (by decide +kernel)
  | ans => exact hdq_ne (s := "answer") (by decide +kernel)
mutual
theorem putRow_ncQ : ∀ {r : Row} {c : List FR}, r.cc = 0 → NoCoinQ c → NoCoinQ (putRow r c)
  | .iff e a b, c, h, n => by
    have h : rowsCc a + rowsCc b = 0 := h
    exact (putRows_ncQ (rs := b) (by omega) (((putRows_ncQ (rs := a) (by omega) (n.app (.one hdq_ho))).app (.one hdq_ho)).put (hdq_un _ _))).put (hdq_on _)
  | .times e a, c, h, n => by
    have h : rowsCc a = 0 := h
    exact ((putRows_ncQ (rs := a) h (n.app (NoCoinQ.app (a := [FR.rounds e]) (.one (hdq_rs _)) (.one hdq_ho)))).app (.one (hdq_on _))).put (hdq_rd _)
  | .read r k, c, h, n => n.app (.one (hdq_row h))
  | .set k e, c, h, n => n.app (.one (hdq_row h))
  | .swap r k e f, c, h, n => n.app (.one (hdq_row h))
  | .keep r e, c, h, n => n.app (.one (hdq_row h))
  | .coin r, c, h, n => n.app (.one (hdq_row h))
  | .ans e, c, h, n => n.app (.one (hdq_row h))
theorem putRows_ncQ : ∀ {rs : List Row} {c : List FR}, rowsCc rs = 0 → NoCoinQ c → NoCoinQ (putRows rs c)
  | [], c, _, n => n
  | r :: rs, c, h, n => by
    have h : r.cc + rowsCc rs = 0 := h
    exact putRows_ncQ (rs := rs) (by omega) (putRow_ncQ (r := r) (by omega) n)
end
def CoinAt (c : List FR) (i : Nat) : Prop := ∃ f, c[i]? = some f ∧ f.hd = some "coin"
theorem CoinAt.lt {c : List FR} {i : Nat} (h : CoinAt c i) : i < c.length := by
  obtain ⟨f, e, _⟩ := h
  exact (List.getElem?_eq_some_iff.mp e).1
theorem CoinAt.app {c d : List FR} {i : Nat} (h : CoinAt c i) : CoinAt (c ++ d) i := by
  have l := h.lt
  obtain ⟨f, e, g⟩ := h
  exact ⟨f, by rw [List.getElem?_append_left l]; exact e, g⟩
theorem CoinAt.put {c : List FR} {i j : Nat} {f : FR} (h : CoinAt c i) (n : j ≠ i) : CoinAt (c.set j f) i := by
  obtain ⟨g, e, k⟩ := h
  exact ⟨g, by rw [List.getElem?_set_ne n]; exact e, k⟩
theorem CoinAt.goes {c c' : List FR} {i n : Nat} (h : CoinAt c i) (g : Goes c c' n) : CoinAt c' i := by
  have l := h.lt
  obtain ⟨f, e, k⟩ := h
  exact ⟨f, by rw [g.old i l]; exact e, k⟩
mutual
theorem putRow_coin : ∀ {r : Row} (c : List FR), 0 < r.cc → ∃ i, c.length ≤ i ∧ CoinAt (putRow r c) i
  | .coin r, c, _ => ⟨c.length, Nat.le_refl _, FR.row (.coin r), by show (c ++ [FR.row (.coin r)])[c.length]? = _; simp, rfl⟩
  | .iff e a b, c, h => by
    have h : 0 < rowsCc a + rowsCc b := h
    let c1 := putRows a (c ++ [FR.hole])
    let c2 := (c1 ++ [FR.hole]).set c.length (FR.unless e (c1.length + 1))
    have g1 : Goes (c ++ [FR.hole]) c1 _ := putRows_goes a _
    have g2 : Goes c2 (putRows b c2) _ := putRows_goes b c2
    have l1 := g1.le
    rw [List.length_append, List.length_singleton] at l1
    have l2 : c2.length = c1.length + 1 := by simp [c2]
    show ∃ i, c.length ≤ i ∧ CoinAt ((putRows b c2).set c1.length (FR.on (putRows b c2).length)) i
    by_cases ha : 0 < rowsCc a
    · obtain ⟨i, hi, ci⟩ := putRows_coin (rs := a) (c ++ [FR.hole]) ha
      rw [List.length_append, List.length_singleton] at hi
      have lt : i < c1.length := ci.lt
      exact ⟨i, by omega, ((ci.app.put (by omega)).goes g2).put (by omega)⟩
    · obtain ⟨i, hi, ci⟩ := putRows_coin (rs := b) c2 (by omega)
      exact ⟨i, by omega, ci.put (by omega)⟩
  | .times e a, c, h => by
    have h : 0 < rowsCc a := h
    obtain ⟨i, hi, ci⟩ := putRows_coin (rs := a) (c ++ [FR.rounds e, FR.hole]) h
    rw [List.length_append] at hi
    have hi : c.length + 2 ≤ i := hi
    exact ⟨i, by omega, ci.app.put (by omega)⟩
  | .read r k, c, h => absurd h (Nat.lt_irrefl 0)
  | .set k e, c, h => absurd h (Nat.lt_irrefl 0)
  | .swap r k e f, c, h => absurd h (Nat.lt_irrefl 0)
  | .keep r e, c, h => absurd h (Nat.lt_irrefl 0)
  | .ans e, c, h => absurd h (Nat.lt_irrefl 0)
theorem putRows_coin : ∀ {rs : List Row} (c : List FR), 0 < rowsCc rs → ∃ i, c.length ≤ i ∧ CoinAt (putRows rs c) i
  | [], c, h => absurd h (Nat.lt_irrefl 0)
  | r :: rs, c, h => by
    have h : 0 < r.cc + rowsCc rs := h
    have g1 := putRow_goes r c
    have l1 := g1.le
    by_cases hr : 0 < r.cc
    · obtain ⟨i, hi, ci⟩ := putRow_coin (r := r) c hr
      exact ⟨i, hi, ci.goes (putRows_goes rs _)⟩
    · obtain ⟨i, hi, ci⟩ := putRows_coin (rs := rs) (putRow r c) (by omega)
      exact ⟨i, by omega, ci⟩
end
theorem hasW_cc (ds : List (Str × Int × List Row)) : hasW ds "coin" = ds.any fun d => decide (0 < rowsCc d.2.2) := by
  unfold hasW
  congr 1
  funext d
  by_cases h : 0 < rowsCc d.2.2
  · rw [decide_eq_true h]
    obtain ⟨i, _, ci⟩ := putRows_coin (rs := d.2.2) [] h
    obtain ⟨f, e, k⟩ := ci.app (d := [FR.row (.ans (.num 0))])
    exact List.any_eq_true.mpr ⟨f, List.mem_of_getElem? e, decide_eq_true k⟩
  · rw [decide_eq_false h, List.any_eq_false]
    intro f hf
    have := ((putRows_ncQ (c := []) (rs := d.2.2) (by omega) (fun f m => by simp at m)).app (NoCoinQ.one (f := .row (.ans (.num 0))) (hdq_row rfl))) f hf
    simpa using this
theorem drop_at2 {α : Type} {L : List α} {p : Nat} {c : α} (h : L[p]? = some c) : L.drop p = c :: L.drop (p + 1) := by
  obtain ⟨hp, e⟩ := List.getElem?_eq_some_iff.mp h
  rw [← e]
  exact List.drop_eq_getElem_cons hp
mutual
theorem row_loops {c : Int} : ∀ (r : Row) {deep loops : Nat}, r.ok c deep (loops + 1) → r.cc = 0
  | .coin _, _, _, h => absurd h.2 (Nat.succ_ne_zero _)
  | .iff _ a b, _, _, h => by
    show rowsCc a + rowsCc b = 0
    rw [cc_loops a h.2.1, cc_loops b h.2.2]
  | .times _ a, _, _, h => cc_loops a h.2.2
  | .read _ _, _, _, _ => rfl
  | .set _ _, _, _, _ => rfl
  | .swap _ _ _ _, _, _, _ => rfl
  | .keep _ _, _, _, _ => rfl
  | .ans _, _, _, _ => rfl
theorem cc_loops {c : Int} : ∀ (rs : List Row) {deep loops : Nat}, rowsOk c deep (loops + 1) rs → rowsCc rs = 0
  | [], _, _, _ => rfl
  | r :: rs, _, _, h => by
    show r.cc + rowsCc rs = 0
    rw [row_loops r h.2.1, cc_loops rs h.2.2]
end
namespace Tx
section
variable {P : Program} {w : World} {K : PySem.W.Frag} {mg : Str → Option Value} {base : Heap}
def spNames (K : PySem.W.Frag) : Sp := fun vs H Q _ => ∃ (p : Addr) (v : Vlt), vs = [.ref p] ∧ VaultAt K H p v ∧ v.deeds.length ≤ 8 ∧ ∀ (l : Addr) (H' : Hp), Same H H' → H l = none → H' l = some (.lst (v.deeds.map fun d => V.str d.1)) → Q (.ref l) H'
theorem me_Vault_names (T : Txt w K mg) : Me P w K mg base 1 (He.ga K "Vault") "names" (spNames K) := by
  refine me_of (N := ["self", "name", "_"]) (ps := ["self"]) T.f_Vault_names T.c_Vault T.m_Vault_names ⟨rfl, rfl, rfl, by decide +kernel, rfl, by decide +kernel, by decide +kernel⟩ (fun _ _ _ _ _ _ us hl => match us, hl with | [_], _ => rfl)
    (fun vs H Q E h => by obtain ⟨p, v, rfl, hv, hl, q⟩ := h; rfl) (fun cdv A outer s H vs Q E hr h => ?_)
  have nd : (["self", "name", "_"] : List Str).Nodup := by decide +kernel
  obtain ⟨p, v, rfl, hv, hl, q⟩ := h
  obtain ⟨dx, a, d, c, b, kvs, h1, h2, h3, h4, h5⟩ := hv.ob
  obtain ⟨a, xs, ea, hx, hxs⟩ := dp_tup h3
  cases ea
  refine ⟨_, pss_one (ps_ret (pe_lc (own := [("name", 1), ("_", 2)]) (tt := tYes) rfl nd (pi_tup (pe_fld (pv 0) rfl)) (blkOk_by (N := ["self", "name", "_"]) (sc := defScope s_Vault_names) (by decide +kernel))
    (fun _ _ _ _ _ => pg_three K 1 2 2 rfl rfl nd rfl rfl rfl (.inl rfl) (.inl rfl) (.inl rfl) (.inr rfl) (.inr rfl) (.inr rfl)) (fun _ _ _ _ _ => pts_nil) (fun _ _ _ _ _ => pv 1))), ?_⟩
  have el : xs.length = v.deeds.length := by rw [dps_len hxs, List.length_map]
  refine ⟨_, rfl, p, _, _, _, _, rfl, h1, T.c_Vault, T.n_Vault_deeds, vf_deeds .., _, rfl, ⟨_, hx⟩, fun D hD => ?_⟩
  refine lc_out (n := xs.length) walk_tup hD (by omega) (fun i y H => ∃ c, v.deeds[i]? = some c ∧ y = .str c.1) (fun _ _ _ _ _ _ h => h) (fun H' s => same_t s hx) (fun i x H' H2 N F hi s y k => ?_) (fun H' ys s hD' hl' hr => ?_)
  · obtain ⟨rfl, ex⟩ := y
    obtain ⟨dd, ed, hdd⟩ := dps_get hxs ex
    obtain ⟨cc, ec, rfl⟩ := get_mapA ed
    obtain ⟨t, x1, x2, x3, rfl, ht, e1, e2, e3⟩ := dp3 (dp_same s hdd)
    cases dp_str e1
    refine ⟨t, _, rfl, ht, rfl, _, _, rfl, _, _, rfl, _, _, rfl, rfl, rfl, iteT ⟨_, rfl, k _ _ (Same.refl _) ⟨cc, ec, rfl⟩⟩⟩
  · have em : ys = v.deeds.map fun d => V.str d.1 := map_of (by omega) fun i y e => hr i y e
    rw [em] at hD'
    exact q D H' s hD hD'
def spHC (K : PySem.W.Frag) : Nat → Sp
  | 0 => fun _ _ _ _ => False
  | n + 1 => fun vs H Q _ => ∃ (v : V) (rs : List Row) (c : Int) (deep loops : Nat), vs = [v] ∧ Dp K H v (.tuple (rowsD rs)) ∧ rowsOk c deep loops rs ∧ 14 ≤ deep + (n + 1) ∧ Q (.bl (decide (0 < rowsCc rs))) H
theorem ca_l_coins (T : Txt w K mg) : ∀ n : Nat, Ca P w K mg base (n + 2) "_law_coins" (spHC K n)
  | 0 => ca_false (ps := ["_law_rows_here"]) T.f_l_coins T.g_law_coins (fun _ _ _ _ _ _ us hl => match us, hl with | [_], _ => rfl)
  | n + 1 => by
    have ih := ca_l_coins T n
    refine ca_of (N := ["_law_rows_here", "_law_row"]) (ps := ["_law_rows_here"]) T.f_l_coins T.g_law_coins ⟨rfl, rfl, rfl, by decide +kernel, rfl, by decide +kernel, by decide +kernel⟩ (fun _ _ _ _ _ _ us hl => match us, hl with | [_], _ => rfl)
      (fun vs H Q E h => by obtain ⟨v, rs, c, deep, loops, rfl, hv, ok, hn, q⟩ := h; rfl) (fun cdv A outer s H vs Q E hr h => ?_)
    have nd : (["_law_rows_here", "_law_row"] : List Str).Nodup := by decide +kernel
    obtain ⟨v, rs, c, deep, loops, rfl, hv, ok, hn, q⟩ := h
    refine ⟨_, (pss_cons (ps_for PassesOwn.never rfl (pi_tup (pv 0)) (pg_name (i := 1) nd rfl (.inl rfl)) (pss_one (ps_if (PW.pt (pw_or (pt_cmpR op_eq (pe_ix ix_tup (pv 1) pe_int (fun _ _ => rfl)) pe_str (nomark _)) (pw_or1 (PW.pt (pw_and (pt_cmpR op_eq (pe_ix ix_tup (pv 1) pe_int (fun _ _ => rfl)) pe_str (nomark _)) (pw_and1 (PW.pt (pw_or (pt_val (pe_ca ih hr (pa_cons (pe_ix ix_tup (pv 1) pe_int (fun _ _ => rfl)) pa_nil) (by omega))) (pw_or1 (pt_val (pe_ca ih hr (pa_cons (pe_ix ix_tup (pv 1) pe_int (fun _ _ => rfl)) pa_nil) (by omega)))))))))))) (pss_one (ps_ret pe_bl)) pss_nil)))
      (pss_one (ps_ret pe_bl))), ?_⟩
    obtain ⟨a, xs, rfl, ha, hxs⟩ := dp_tup hv
    rw [rowsD_map] at hxs
    have lx : xs.length = rs.length := by rw [dps_len hxs, List.length_map]
    refine ⟨_, rfl, a, rfl, ⟨_, ha⟩, for_tup (xs := xs) (fun i σ' H' => ∃ x, σ' = [some (.ref a), x] ∧ H' = H ∧ rowsCc rs = rowsCc (rs.drop i)) ⟨none, rfl, rfl, rfl⟩ (fun i σ' H' _ ⟨_, _, e, _⟩ => e ▸ ha) ?_ ?_⟩
    · rintro i x σ' H' hx ⟨_, rfl, rfl, ei⟩
      obtain ⟨dd, hdd, hxd⟩ := dps_get hxs hx
      obtain ⟨r, hr, rfl⟩ := get_mapA hdd
      have okr := rowsOkAt ok r (List.mem_of_getElem? hr)
      rw [drop_at2 hr] at ei
      have ei : rowsCc rs = r.cc + rowsCc (rs.drop (i + 1)) := ei
      rw [row_d] at hxd
      obtain ⟨b, ys, rfl, hb, hys⟩ := dp_tup hxd
      obtain ⟨y, zs, rfl, hy, hzs⟩ : ∃ y zs, ys = y :: zs ∧ Dp K H' y (.str r.word) ∧ DpAll K H' zs (r.prts.map Prt.d) := by
        cases hys with | cons h1 h2 => exact ⟨_, _, rfl, h1, h2⟩
      cases dp_str hy
      have go : r.cc = 0 → rowsCc rs = rowsCc (rs.drop (i + 1)) := fun e => by omega
      have yes : 0 < r.cc → Q (.bl true) H' := fun e => by
        rw [decide_eq_true (show 0 < rowsCc rs by omega)] at q
        exact q
      cases r with
      | coin z => exact ⟨_, rfl, _, _, _, _, rfl, rfl, hb, at0, rfl, _, rfl, iteT (yes (by show 0 < 1; decide))⟩
      | iff e a2 b2 =>
        obtain ⟨ok1, ok2, ok3⟩ : e.good ∧ rowsOk c (deep + 1) loops a2 ∧ rowsOk c (deep + 1) loops b2 := okr.2
        have ecc : (Row.iff e a2 b2).cc = rowsCc a2 + rowsCc b2 := rfl
        obtain ⟨z1, z2, z3, rfl, h1, h2, h3⟩ : ∃ z1 z2 z3, zs = [z1, z2, z3] ∧ Dp K H' z1 e.d ∧ Dp K H' z2 (.tuple (rowsD a2)) ∧ Dp K H' z3 (.tuple (rowsD b2)) := by
          cases hzs with | cons h1 r => cases r with | cons h2 r => cases r with | cons h3 r => cases r with | nil => exact ⟨_, _, _, rfl, h1, h2, h3⟩
        obtain ⟨m, rfl⟩ : ∃ m, n = m + 1 := ⟨n - 1, by omega⟩
        refine ⟨_, rfl, _, _, _, _, rfl, rfl, hb, at0, rfl, _, rfl, iteF ⟨_, rfl, _, _, _, _, rfl, rfl, hb, at0, rfl, _, rfl, iteT ?_⟩⟩
        refine ⟨_, rfl, _, _, _, _, rfl, rfl, hb, at2, z2, a2, c, deep + 1, loops, rfl, h2, ok2, by omega, _, rfl, ?_⟩
        by_cases ca : 0 < rowsCc a2
        · rw [decide_eq_true ca]
          exact iteT (iteT (yes (by omega)))
        rw [decide_eq_false ca]
        refine iteF ⟨_, rfl, _, _, _, _, rfl, rfl, hb, at3, z3, b2, c, deep + 1, loops, rfl, h3, ok3, by omega, _, rfl, ?_⟩
        by_cases cb : 0 < rowsCc b2
        · rw [decide_eq_true cb]
          exact iteT (yes (by omega))
        rw [decide_eq_false cb]
        exact iteF ⟨_, rfl, rfl, go (by omega)⟩
      | times e a2 =>
        obtain ⟨ok1, ok2, ok3⟩ : e.good ∧ loops < 2 ∧ rowsOk c (deep + 1) (loops + 1) a2 := okr.2
        have ecc : (Row.times e a2).cc = rowsCc a2 := rfl
        exact ⟨_, rfl, _, _, _, _, rfl, rfl, hb, at0, rfl, _, rfl, iteF ⟨_, rfl, _, _, _, _, rfl, rfl, hb, at0, rfl, _, rfl, iteF ⟨_, rfl, rfl, go (ecc.trans (cc_loops a2 ok3))⟩⟩⟩
      | _ => exact ⟨_, rfl, _, _, _, _, rfl, rfl, hb, at0, rfl, _, rfl, iteF ⟨_, rfl, _, _, _, _, rfl, rfl, hb, at0, rfl, _, rfl, iteF ⟨_, rfl, rfl, go rfl⟩⟩⟩
    · rintro σ' H' ⟨_, rfl, rfl, ei⟩
      rw [List.drop_of_length_le (by omega)] at ei
      have ei : rowsCc rs = 0 := ei
      rw [decide_eq_false (show ¬ 0 < rowsCc rs by omega)] at q
      exact q
end
end Tx

end M

set_option Elab.async false
set_option linter.all false
set_option maxRecDepth 100000
set_option maxHeartbeats 2000000
namespace M
open PySem PySem.Spec PyProof.Rows L2

theorem veq_self {v : Vlt} (g : VGood v) : vEq v v = true := by
  unfold vEq
  rw [(fit_lay (cells_fit g)).2.2, (fit_lay (deeds_fit g)).2.2]
  rfl
def callD (c : Str × Int) : PyData := .tuple [.str c.1, .int c.2]
theorem tups_dp {K : PySem.W.Frag} {H : Hp} : ∀ {ys : List V} {cs : List (Str × Int)}, TupsAt H ys cs → DpAll K H ys (cs.map callD)
  | [], [], _ => .nil
  | _ :: _, _ :: _, ⟨⟨_, rfl, h⟩, r⟩ => .cons (.tup (.of h) (.cons (.str _) (.cons (.int _) .nil))) (tups_dp r)
  | [], _ :: _, h => h.elim
  | _ :: _, [], h => h.elim
def clF (l : List (Str × Int × List Row)) : List (Str × Int) := l.flatMap fun d => (List.range d.2.1.toNat).map fun (j : Nat) => (d.1, (j : Int))
theorem clF_len {c : Int} : ∀ {l : List (Str × Int × List Row)}, (∀ d ∈ l, DeedOk c d) → (clF l).length ≤ 9 * l.length
  | [], _ => Nat.le_refl 0
  | d :: l, h => by
    have i2 := clF_len fun x hx => h x (List.mem_cons_of_mem _ hx)
    have k := (h d List.mem_cons_self).2.1.2
    show ((List.range d.2.1.toNat).map _ ++ clF l).length ≤ _
    rw [List.length_append, List.length_map, List.length_range, List.length_cons]
    omega
theorem clF_snoc (l : List (Str × Int × List Row)) (d : Str × Int × List Row) : clF (l ++ [d]) = clF l ++ (List.range d.2.1.toNat).map fun (j : Nat) => (d.1, (j : Int)) := by
  unfold clF
  rw [List.flatMap_append]
  simp
theorem calls_fit {v : Vlt} (g : VGood v) : fit 2 (.list (v.calls.map callD)) := ⟨by
  have h : (clF v.deeds).length ≤ _ := clF_len g.ds
  have h8 := g.d1
  rw [List.length_map]
  show (clF v.deeds).length ≤ 100000
  omega, fun x hx => by
  obtain ⟨c, hc, rfl⟩ := List.mem_map.mp hx
  obtain ⟨d, hd, h2⟩ := List.mem_flatMap.mp hc
  obtain ⟨j, _, rfl⟩ := List.mem_map.mp h2
  refine ⟨by show 2 ≤ 100000; decide, fun y hy => ?_⟩
  simp only [List.mem_cons, List.not_mem_nil, or_false] at hy
  rcases hy with rfl | rfl
  · exact name_fit (g.ds d hd).1
  · exact fit_i⟩
theorem names_fit {v : Vlt} (g : VGood v) : fit 2 (.list (v.deeds.map fun d => PyData.str d.1)) := ⟨by have := g.d1; rw [List.length_map]; omega, fun x hx => by
  obtain ⟨d, hd, rfl⟩ := List.mem_map.mp hx
  exact name_fit (g.ds d hd).1⟩
theorem names_dp {K : PySem.W.Frag} {H : Hp} : ∀ (ds : List (Str × Int × List Row)), DpAll K H (ds.map fun d => V.str d.1) (ds.map fun d => PyData.str d.1)
  | [] => .nil
  | _ :: ds => .cons (.str _) (names_dp ds)
namespace Tx
section
variable {P : Program} {w : World} {K : PySem.W.Frag} {mg : Str → Option Value} {base : Heap}
def spHolds (K : PySem.W.Frag) : Sp := fun vs H Q _ => ∃ (ca da : Addr) (xs ys : List V) (cs : List (Int × Int)) (ds : List (Str × Int × List Row)), vs = [.ref ca, .ref da] ∧ (H ca = some (.lst xs) ∧ DpAll K H xs (cs.map cellD)) ∧ (H da = some (.lst ys) ∧ DpAll K H ys (ds.map deedD)) ∧ VGood ⟨cs, ds⟩ ∧ ∀ H', Same H H' → Q (.bl true) H'
theorem ca_l_holds (T : Txt w K mg) : Ca P w K mg base 57 "_law_holds" (spHolds K) := by
  refine ca_of (N := ["_law_cells", "_law_deeds", "_law_text_here", "_law_vault_here", "_law_told", "_law_back", "_law_shape", "_law_calls", "_law_deed", "_law_argument", "_law_coins_here"]) (ps := ["_law_cells", "_law_deeds"]) T.f_l_holds T.g_law_holds ⟨rfl, rfl, rfl, by decide +kernel, rfl, by decide +kernel, by decide +kernel⟩ (fun _ _ _ _ _ _ us hl => match us, hl with | [_, _], _ => rfl)
    (fun vs H Q E h => by obtain ⟨ca, da, xs, ys, cs, ds, rfl, ⟨hca, hxs⟩, ⟨hda, hys⟩, g, q⟩ := h; rfl) (fun cdv A outer s H vs Q E hr h => ?_)
  have nd : (["_law_cells", "_law_deeds", "_law_text_here", "_law_vault_here", "_law_told", "_law_back", "_law_shape", "_law_calls", "_law_deed", "_law_argument", "_law_coins_here"] : List Str).Nodup := by decide +kernel
  obtain ⟨ca, da, xs, ys, cs, ds, rfl, ⟨hca, hxs⟩, ⟨hda, hys⟩, g, q⟩ := h
  refine ⟨_, (pss_cons (ps_set (i := 2) nd rfl (.inl rfl) (pe_ca (Tx.ca_l_text T) hr (pa_cons (pv 0) (pa_cons (pv 1) pa_nil))))
      (pss_cons (ps_set (i := 3) nd rfl (.inl rfl) (pe_ma (M.F.ma_Vault T) hr (pa_cons (pe_callTy call_list_of (by rfl) T.b_list boot_list (pa_cons (pv 0) pa_nil)) (pa_cons (pe_callTy call_list_of (by rfl) T.b_list boot_list (pa_cons (pv 1) pa_nil)) pa_nil))))
      (pss_cons (ps_set (i := 4) nd rfl (.inl rfl) (pe_ca (Tx.ca_vault_text T) hr (pa_cons (pv 3) pa_nil)))
      (pss_cons (ps_if (PW.pt (pw_or (pt_not (pt_val (pe_is .str T.b_isinstance (pv 4) T.b_str boot_str))) (pw_or1 (pt_cmpR op_ne (pv 4) (pv 2) (nomark _))))) (pss_one (ps_ret pe_bl)) pss_nil)
      (pss_cons (ps_set (i := 5) nd rfl (.inl rfl) (pe_ca (Tx.ca_read_vault T) hr (pa_cons (pv 4) pa_nil)))
      (pss_cons (ps_if (PW.pt (pw_or (pt_not (pt_val (pe_callB (call_isO (own_ok T.e_own_Vault) T.c_Vault) (by rfl) T.b_isinstance boot_isinstance (pa_cons (pv 5) (pa_cons (pe_gr T.g_Vault) pa_nil))))) (pw_or (pt_not (pt_cmpR (op_eqI (J.eq_Vault T) (hr.mono (by decide))) (pv 5) (pv 3) (nomark _))) (pw_or1 (pt_not (pt_cmpR (op_eqI (J.eq_Vault T) (hr.mono (by decide))) (pv 3) (pv 5) (nomark _))))))) (pss_one (ps_ret pe_bl)) pss_nil)
      (pss_cons (ps_set (i := 6) nd rfl (.inl rfl) (pe_me0 (me_Vault_shape T) hr (pv 5)))
      (pss_cons (ps_if (PW.pt (pw_or (pt_not (pt_val (pe_ca (Tx.ca_l_plain T 43) hr (pa_cons (pv 6) pa_nil)))) (pw_or1 (pt_cmpR (op_neD hr.units) (pv 6) (pe_tup (pa_cons (pe_tupleOf (by rfl) T.b_tuple (pv 0)) (pa_cons (pe_tupleOf (by rfl) T.b_tuple (pv 1)) pa_nil))) (nomark _))))) (pss_one (ps_ret pe_bl)) pss_nil)
      (pss_cons (ps_set (i := 7) nd rfl (.inl rfl) (pe_lst pa_nil))
      (pss_cons (ps_for PassesOwn.never rfl (pi_list (pv 1)) (pg_name (i := 8) nd rfl (.inl rfl)) (pss_one (ps_for PassesOwn.never rfl (pi_range1 rfl T.b_range (pa_cons (pe_ix ix_tup (pv 8) pe_int (fun _ _ => rfl)) pa_nil)) (pg_name (i := 9) nd rfl (.inl rfl)) (pss_one (ps_expr (pe_bm PySem.F.plainAttrs_list PySem.F.slot_list_append PySem.F.type_list_append mt_append (pv 7) (pa_cons (pe_tup (pa_cons (pe_ix ix_tup (pv 8) pe_int (fun _ _ => rfl)) (pa_cons (pv 9) pa_nil))) pa_nil)))))))
      (pss_cons (ps_if (PW.pt (pw_or (pt_cmpR (op_neD hr.units) (pe_me0 (me_Vault_calls T) hr (pv 5)) (pv 7) (nomark _)) (pw_or1 (pt_cmpR (op_neD hr.units) (pe_me0 (Tx.me_Vault_names T) hr (pv 5)) (pe_lc (own := [("_law_deed", 8)]) (tt := tYes) rfl nd (pi_list (pv 1)) (blkOk_by (N := ["_law_cells", "_law_deeds", "_law_text_here", "_law_vault_here", "_law_told", "_law_back", "_law_shape", "_law_calls", "_law_deed", "_law_argument", "_law_coins_here"]) (sc := defScope s_l_holds) (by decide +kernel)) (fun _ _ _ _ _ => pg_name (i := 8) nd rfl (.inl rfl)) (fun _ _ _ _ _ => pts_nil) (fun _ _ _ _ _ => pe_ix (ix_tupK K rfl) (pv 8) pe_int (fun _ _ => rfl))) (nomark _))))) (pss_one (ps_ret pe_bl)) pss_nil)
      (pss_cons (ps_set (i := 10) nd rfl (.inl rfl) (pe_callB (cr_any rfl) (by rfl) T.b_any boot_any (pa_cons (pe_lc (own := [("_law_deed", 8)]) (tt := tYes) rfl nd (pi_list (pv 1)) (blkOk_by (N := ["_law_cells", "_law_deeds", "_law_text_here", "_law_vault_here", "_law_told", "_law_back", "_law_shape", "_law_calls", "_law_deed", "_law_argument", "_law_coins_here"]) (sc := defScope s_l_holds) (by decide +kernel)) (fun _ _ _ _ _ => pg_name (i := 8) nd rfl (.inl rfl)) (fun _ _ _ _ _ => pts_nil) (fun _ _ _ _ _ => pe_ca (Tx.ca_l_coins T 14) hr (pa_cons (pe_ix (ix_tupK K rfl) (pv 8) pe_int (fun _ _ => rfl)) pa_nil))) pa_nil)))
      (pss_cons (ps_if (PW.pt (pw_or (pt_not (pt_val (pe_is .bool T.b_isinstance (pe_me0 (me_Vault_has_coins T) hr (pv 5)) T.b_bool boot_bool))) (pw_or1 (pt_cmpR op_ne (pe_me0 (me_Vault_has_coins T) hr (pv 5)) (pv 10) (nomark _))))) (pss_one (ps_ret pe_bl)) pss_nil)
      (pss_one (ps_ret (pe_cmpR op_eq (pe_ca (Tx.ca_vault_text T) hr (pa_cons (pv 5) pa_nil)) (pv 2) (nomark _))))))))))))))))), ?_⟩
  refine ⟨_, rfl, _, rfl, ca, da, xs, ys, cs, ds, rfl, ⟨hca, hxs⟩, ⟨hda, hys⟩, g, fun H1 s1 => ?_⟩
  refine ⟨_, rfl, ca, xs, rfl, .inl (.of (s1 _ _ hca)), fun l1 nl1 => ?_⟩
  have s2 := same_new (o := .lst xs) nl1
  have e1 : upd H1 l1 (.lst xs) l1 = some (.lst xs) := upd_same
  generalize upd H1 l1 (.lst xs) = H2 at s2 e1 ⊢
  refine ⟨_, rfl, da, ys, rfl, .inl (.of (s2 _ _ (s1 _ _ hda))), fun l2 nl2 => ?_⟩
  have s3 := same_new (o := .lst ys) nl2
  have e2 : upd H2 l2 (.lst ys) l2 = some (.lst ys) := upd_same
  generalize upd H2 l2 (.lst ys) = H3 at s3 e2 ⊢
  intro p px hp hpx nep
  have w4 : Same H3 (upd (upd H3 px (.own p)) p (.ins (He.ga K "Vault") px [])) := (same_new hpx).trans (same_new (by rw [upd_ne (Ne.symm nep)]; exact hp))
  have s03 : Same H H3 := s1.trans (s2.trans s3)
  refine ⟨p, px, l1, l2, xs, ys, ⟨cs, ds⟩, rfl, upd_same, .of (w4 _ _ (s3 _ _ e1)), dps_same (s03.trans w4) hxs, .of (w4 _ _ e2), dps_same (s03.trans w4) hys, g, fun H4 b4 vt fl => ⟨rfl, ?_⟩⟩
  have s04 : Same H H4 := fun x o e => b4 _ _ (ne_of_none (s03 _ _ e) hp) (w4 _ _ (s03 _ _ e))
  clear b4 w4 e1 e2 s1 s2 s3 s03 nl1 nl2 hpx nep hp
  refine ⟨_, rfl, p, ⟨cs, ds⟩, rfl, vt, g, fun H5 s5 => ?_⟩
  have s05 := s04.trans s5
  have vt5 := vt.same s5
  clear vt fl
  refine ⟨_, rfl, _, _, rfl, .str _, _, rfl, iteF ⟨_, rfl, _, rfl, rfl, _, rfl, ?_⟩⟩
  rw [show (!decide (V.str (vaultS ⟨cs, ds⟩) = V.str (vaultS ⟨cs, ds⟩))) = false by rw [decide_eq_true rfl]; rfl]
  refine iteF ⟨_, rfl, ⟨cs, ds⟩, rfl, g, fun pb H6 npb s6 vb fb => ?_⟩
  have s06 := s05.trans s6
  have vt6 := vt5.same s6
  clear vt5
  obtain ⟨bx, bfs, eB⟩ := vat_ins vb
  obtain ⟨vx, vfs, eV⟩ := vat_ins vt6
  refine ⟨_, rfl, _, rfl, .inl ⟨pb, bx, bfs, rfl, eB, _, rfl, iteF ?_⟩⟩
  refine ⟨_, rfl, _, rfl, pb, p, _, _, _, _, rfl, rfl, eB, eV, pb, ⟨cs, ds⟩, .ref p, rfl, vb, g, .inr ⟨p, ⟨cs, ds⟩, rfl, vt6, g, ⟨_, rfl⟩, _, rfl, ?_⟩⟩
  rw [veq_self g]
  refine iteF ⟨_, rfl, _, rfl, p, pb, _, _, _, _, rfl, rfl, eV, eB, p, ⟨cs, ds⟩, .ref pb, rfl, vt6, g, .inr ⟨pb, ⟨cs, ds⟩, rfl, vb, g, ⟨_, rfl⟩, _, rfl, ?_⟩⟩
  rw [veq_self g]
  refine iteF ?_
  -- the shape
  obtain ⟨mx, mfs, m1, m2⟩ := vat_me vb "shape"
  refine ⟨_, rfl, pb, mx, mfs, rfl, m1, m2, pb, ⟨cs, ds⟩, rfl, vb, fun t xc xd H7 s7 ht hc hd => ?_⟩
  have s07 := s06.trans s7
  have dsh : Dp K H7 (.ref t) (.tuple [.tuple (cs.map cellD), .tuple (ds.map deedD)]) := .tup (.of ht) (.cons hc (.cons hd .nil))
  refine ⟨_, rfl, .ref t, _, rfl, dsh, shape_pl ⟨cs, ds⟩, shape_fit g, fun H8 s8 => ⟨_, rfl, iteF ?_⟩⟩
  have s08 := s07.trans s8
  refine ⟨_, rfl, _, rfl, .inl ⟨ca, xs, rfl, .of (s08 _ _ hca), fun t1 n1 => ?_⟩⟩
  have s9 := same_new (o := .tup xs) n1
  have k1 : upd H8 t1 (.tup xs) t1 = some (.tup xs) := upd_same
  generalize upd H8 t1 (.tup xs) = H9 at s9 k1 ⊢
  refine ⟨_, rfl, .inl ⟨da, ys, rfl, .of (s9 _ _ (s08 _ _ hda)), fun t2 n2 => ?_⟩⟩
  have s10 := same_new (o := .tup ys) n2
  have k2 : upd H9 t2 (.tup ys) t2 = some (.tup ys) := upd_same
  generalize upd H9 t2 (.tup ys) = H10 at s10 k2 ⊢
  have s0A := (s08.trans s9).trans s10
  refine ⟨(by show 2 ≤ sizeLine; decide), fun t3 n3 => ?_⟩
  have s11 := same_new (o := .tup [.ref t1, .ref t2]) n3
  have k3 : upd H10 t3 (.tup [.ref t1, .ref t2]) t3 = some (.tup [.ref t1, .ref t2]) := upd_same
  generalize upd H10 t3 (.tup [.ref t1, .ref t2]) = H11 at s11 k3 ⊢
  have s0B := s0A.trans s11
  have fsh := fit_shaped (by decide) (shape_fit g)
  have dsh2 : Dp K H11 (.ref t3) (.tuple [.tuple (cs.map cellD), .tuple (ds.map deedD)]) := .tup (.of k3) (.cons (.tup (.of ((s10.trans s11) _ _ k1)) (dps_same s0B hxs)) (.cons (.tup (.of (s11 _ _ k2)) (dps_same s0B hys)) .nil))
  refine ⟨_, _, dp_same (s8.trans (s9.trans (s10.trans s11))) dsh, dsh2, fsh, fsh, _, rfl, ?_⟩
  rw [(fit_lay (shape_fit g)).2.2]
  refine iteF ?_
  have vbB := vb.same (s7.trans (s8.trans (s9.trans (s10.trans s11))))
  have fbB := fb.same (s7.trans (s8.trans (s9.trans (s10.trans s11))))
  clear dsh dsh2 vt6 eB eV m1 m2 vb fb
  -- the calls
  have ly : ys.length = ds.length := by rw [dps_len hys, List.length_map]
  have d8 : ds.length ≤ 8 := g.d1
  refine ⟨(by show 0 ≤ sizeLine; exact Nat.zero_le _), fun L nL => ?_⟩
  have s12 := same_new (o := .lst []) nL
  have eL : upd H11 L (.lst []) L = some (.lst []) := upd_same
  generalize upd H11 L (.lst []) = H12 at s12 eL ⊢
  have fresh : ∀ {H' : Hp} {o : HO}, Same H11 H' → Same H11 (upd H' L o) := fun {H'} {o} s b ob e => by
    rw [upd_ne (ne_of_none e nL)]
    exact s _ _ e
  refine ⟨_, rfl, da, rfl, ⟨_, .of (s12 _ _ (s0B _ _ hda))⟩, for_list (xs := ys) (fun i σ' H' => ∃ (z8 z9 : Option V) (zs : List V), σ' = [some (.ref ca), some (.ref da), some (.str (vaultS ⟨cs, ds⟩)), some (.ref p), some (.str (vaultS ⟨cs, ds⟩)), some (.ref pb), some (.ref t), some (.ref L), z8, z9, none] ∧ Same H11 H' ∧ H' L = some (.lst zs) ∧ TupsAt H' zs (clF (ds.take i))) ⟨none, none, [], rfl, s12, eL, trivial⟩ (fun i σ' H' _ ⟨_, _, _, _, s, _⟩ => .of (s _ _ (s0B _ _ hda))) ?_ ?_⟩
  · rintro i x σ' H2 hx ⟨z8, z9, zs, rfl, sH, hL, hts⟩
    obtain ⟨d0, ed, hdd⟩ := dps_get hys hx
    obtain ⟨d, ec, rfl⟩ := get_mapA ed
    obtain ⟨td, x1, x2, x3, rfl, htd, f1, f2, f3⟩ := dp3 (dp_same (s0B.trans sH) hdd)
    cases dp_str f1
    cases dp_int f2
    have ok := g.ds d (List.mem_of_getElem? ec)
    have c9 := ok.2.1
    have hi2 : i < ds.length := (List.getElem?_eq_some_iff.mp ec).1
    have l1 := clF_len (c := cs.length) (l := ds.take i) fun x hx => g.ds x (List.mem_of_mem_take hx)
    rw [List.length_take] at l1
    have htdB : ∀ {H' : Hp}, But L H2 H' → SqT K H' td _ := fun b => sqT_but (.lst hL) b htd
    refine ⟨_, rfl, _, _, _, _, rfl, rfl, htd, at1, _, rfl, by omega, by omega, for_it (n := d.2.1.toNat) walk_range (fun j σ' H' => ∃ (z9 : Option V) (zs : List V), σ' = [some (.ref ca), some (.ref da), some (.str (vaultS ⟨cs, ds⟩)), some (.ref p), some (.str (vaultS ⟨cs, ds⟩)), some (.ref pb), some (.ref t), some (.ref L), some (.ref td), z9, none] ∧ But L H2 H' ∧ Same H11 H' ∧ H' L = some (.lst zs) ∧ TupsAt H' zs (clF (ds.take i) ++ (List.range j).map fun (j : Nat) => (d.1, (j : Int)))) ⟨z9, zs, rfl, (fun _ _ _ e => e), sH, hL, by rw [List.range_zero, List.map_nil, List.append_nil]; exact hts⟩ (fun _ _ _ _ _ => trivial) ?_ ?_⟩
    · rintro j y σ' Hz H' hj ⟨z9, zs, rfl, bL, sH', hL', hts'⟩ ⟨rfl, rfl⟩
      have lz := tups_len hts'
      rw [List.length_append, List.length_map, List.length_range] at lz
      refine ⟨_, rfl, .inl ⟨rfl, _, .of hL'⟩, _, rfl, _, _, _, _, rfl, rfl, htdB bL, at0, _, rfl, (by show 2 ≤ sizeLine; decide), fun t2 nt2 => ?_⟩
      have st := same_new (o := .tup [.str d.1, .int (0 + (j : Int))]) nt2
      have et : upd H' t2 (.tup [.str d.1, .int (0 + (j : Int))]) t2 = some (.tup [.str d.1, .int (0 + (j : Int))]) := upd_same
      generalize upd H' t2 (.tup [.str d.1, .int (0 + (j : Int))]) = H'' at st et ⊢
      have hL2 := st _ _ hL'
      have bb : But L H'' (upd H'' L (.lst (zs ++ [.ref t2]))) := But.upd
      refine ⟨L, zs, _, rfl, rfl, hL2, by rw [sizeLine_eq]; omega, _, zs ++ [.ref t2], rfl, (bL.trans (same_but st)).trans bb, fresh (sH'.trans st), upd_same, ?_⟩
      rw [List.range_succ, List.map_append, ← List.append_assoc]
      rw [Int.zero_add] at et
      exact tups_snoc (c := (d.1, (j : Int))) (bb _ _ (fun z => by rw [z] at nt2; rw [hL'] at nt2; cases nt2) et) (tups_but (.lst hL2) bb (tups_same st hts'))
    · rintro σ' H' ⟨z9, zs, rfl, bL, sH', hL', hts'⟩
      refine ⟨_, _, zs, rfl, sH', hL', ?_⟩
      rw [take_more ec, clF_snoc]
      exact hts'
  rintro σ' H12' ⟨z8, z9, zs, rfl, sH, hL, hts⟩
  rw [ly, List.take_length] at hts
  have s0C := s0B.trans sH
  have vbC := vbB.same sH
  have fbC := fbB.same sH
  obtain ⟨mx, mfs, m1, m2⟩ := vat_me vbC "calls"
  refine ⟨_, rfl, pb, mx, mfs, rfl, m1, m2, pb, ⟨cs, ds⟩, rfl, vbC, g.ok, fun a1 y1 H13 s13 e13 ht13 => ?_⟩
  have s0D := s0C.trans s13
  have cf := fit_shaped (by decide) (calls_fit g)
  refine ⟨_, rfl, _, _, .lst (.of e13) (tups_dp ht13), .lst (.of (s13 _ _ hL)) (tups_dp (tups_same s13 hts)), cf, cf, _, rfl, ?_⟩
  rw [show PyData.eqv (.list (List.map callD (Vlt.calls ⟨cs, ds⟩))) (.list (List.map callD (clF ds))) = true from (fit_lay (calls_fit g)).2.2]
  refine iteF ?_
  clear hL hts e13 ht13 m1 m2
  have vbD := vbC.same s13
  have fbD := fbC.same s13
  obtain ⟨mx, mfs, m1, m2⟩ := vat_me vbD "names"
  refine ⟨_, rfl, pb, mx, mfs, rfl, m1, m2, pb, ⟨cs, ds⟩, rfl, vbD, g.d1, fun a2 H14 s14 n14 e14 => ?_⟩
  have s0E := s0D.trans s14
  refine ⟨_, rfl, da, rfl, ⟨_, .of (s0E _ _ hda)⟩, fun D nD => ?_⟩
  refine it_any (n := ys.length) walk_list (fun i J => Same H14 J ∧ J D = some (.lst ((ds.take i).map fun d => V.str d.1))) ⟨same_new nD, upd_same⟩ (fun i J _ ⟨s, _⟩ => .of (s _ _ (s0E _ _ hda))) ?_ ?_
  · rintro i x J0 J hi ⟨sJ, hD⟩ ⟨rfl, ex⟩
    obtain ⟨d0, ed, hdd⟩ := dps_get hys ex
    obtain ⟨d, ec, rfl⟩ := get_mapA ed
    obtain ⟨td, x1, x2, x3, rfl, htd, f1, f2, f3⟩ := dp3 (dp_same (s0E.trans sJ) hdd)
    cases dp_str f1
    refine ⟨rfl, _, rfl, _, _, _, _, rfl, rfl, htd, at0, _, hD, by rw [List.length_map, List.length_take, sizeLine_eq]; omega, fun b o e => ?_, ?_⟩
    · rw [upd_ne (ne_of_none e nD)]
      exact sJ _ _ e
    · rw [upd_same, take_more ec, List.map_append]
      rfl
  rintro J ⟨sJ, hD⟩
  rw [ly, List.take_length] at hD
  have nf := fit_shaped (by decide) (names_fit g)
  refine ⟨_, _, .lst (.of (sJ _ _ e14)) (names_dp ds), .lst (.of hD) (names_dp ds), nf, nf, _, rfl, ?_⟩
  rw [show PyData.eqv (.list (ds.map fun d => PyData.str d.1)) (.list (ds.map fun d => PyData.str d.1)) = true from (fit_lay (names_fit g)).2.2]
  refine iteF ?_
  clear m1 m2
  have vbJ := vbD.same (s14.trans sJ)
  have fbJ := fbD.same (s14.trans sJ)
  have s0J := s0E.trans sJ
  -- coins
  refine ⟨_, rfl, da, rfl, ⟨_, .of (s0J _ _ hda)⟩, fun D2 nD2 => ?_⟩
  refine it_any (n := ys.length) walk_list (fun i J2 => Same J J2 ∧ J2 D2 = some (.lst ((((ds.take i).map fun d => decide (0 < rowsCc d.2.2))).map V.bl))) ⟨same_new nD2, upd_same⟩ (fun i J2 _ ⟨s, _⟩ => .of (s _ _ (s0J _ _ hda))) ?_ ?_
  · rintro i x J0 J2 hi ⟨sJ2, hD2⟩ ⟨rfl, ex⟩
    obtain ⟨d0, ed, hdd⟩ := dps_get hys ex
    obtain ⟨d, ec, rfl⟩ := get_mapA ed
    obtain ⟨td, x1, x2, x3, rfl, htd, f1, f2, f3⟩ := dp3 (dp_same (s0J.trans sJ2) hdd)
    have ok := g.ds d (List.mem_of_getElem? ec)
    refine ⟨rfl, _, rfl, _, _, _, _, rfl, rfl, htd, at2, x3, d.2.2, (cs.length : Nat), 1, 0, rfl, f3, ok.2.2.1, by decide, _, hD2, by rw [List.length_map, List.length_map, List.length_take, sizeLine_eq]; omega, fun b o e => ?_, ?_⟩
    · rw [upd_ne (ne_of_none e nD2)]
      exact sJ2 _ _ e
    · rw [upd_same, take_more ec, List.map_append, List.map_append]
      rfl
  rintro J2 ⟨sJ2, hD2⟩
  rw [ly, List.take_length] at hD2
  have vbK := vbJ.same sJ2
  have fbK := fbJ.same sJ2
  have s0K := s0J.trans sJ2
  have ecoin : ((ds.map fun d => decide (0 < rowsCc d.2.2)).any id) = hasW ds "coin" := by
    rw [hasW_cc, List.any_map]
    rfl
  obtain ⟨mx, mfs, m1, m2⟩ := vat_me vbK "has_coins"
  refine ⟨D2, _, rfl, .of hD2, ?_⟩
  rw [ecoin]
  refine ⟨_, rfl, pb, mx, mfs, rfl, m1, m2, pb, ⟨cs, ds⟩, rfl, fbK, _, _, rfl, .bl _, _, rfl, iteF ?_⟩
  refine ⟨_, rfl, pb, mx, mfs, rfl, m1, m2, pb, ⟨cs, ds⟩, rfl, fbK, _, rfl, rfl, _, rfl, ?_⟩
  rw [show (!decide (V.bl (hasW ds "coin") = V.bl (hasW ds "coin"))) = false by rw [decide_eq_true rfl]; rfl]
  refine iteF ⟨_, rfl, pb, ⟨cs, ds⟩, rfl, vbK, g, fun H15 s15 => ⟨_, rfl, rfl, ?_⟩⟩
  rw [decide_eq_true (show V.str (vaultS ⟨cs, ds⟩) = V.str (vaultS ⟨cs, ds⟩) from rfl)]
  exact q H15 (s0K.trans s15)
end
end Tx

end M

set_option Elab.async false
set_option linter.all false
set_option maxRecDepth 100000
set_option maxHeartbeats 2000000
namespace M
open PySem PySem.Spec PyProof.Rows L2

/-! ### data that == says are one are one -/
theorem eqvT_all (xs ys : List PyData) : PyData.eqv (.tuple xs) (.tuple ys) = PyData.eqvAll xs ys := by rw [PyData.eqv]
theorem eqvL_all (xs ys : List PyData) : PyData.eqv (.list xs) (.list ys) = PyData.eqvAll xs ys := by rw [PyData.eqv]
mutual
theorem pl_eqv : ∀ (d e : PyData), Pl d → Pl e → PyData.eqv d e = true → d = e
  | .int i, .int j, _, _, h => by
    rw [PyData.eqv] at h
    rw [eq_of_beq h]
  | .str s, .str t, _, _, h => by
    rw [PyData.eqv] at h
    rw [eq_of_beq h]
  | .tuple ds, .tuple es, p, q, h => by
    rw [eqvT_all] at h
    cases p with
    | tup p =>
      cases q with
      | tup q => rw [pl_eqvs ds es p q h]
  | .int _, .str _, _, _, h => by rw [PyData.eqv] at h; cases h
  | .int _, .tuple _, _, _, h => by rw [PyData.eqv] at h; cases h
  | .str _, .int _, _, _, h => by rw [PyData.eqv] at h; cases h
  | .str _, .tuple _, _, _, h => by rw [PyData.eqv] at h; cases h
  | .tuple _, .int _, _, _, h => by rw [PyData.eqv] at h; cases h
  | .tuple _, .str _, _, _, h => by rw [PyData.eqv] at h; cases h
  | .none, _, p, _, _ => nomatch p
  | .bool _, _, p, _, _ => nomatch p
  | .list _, _, p, _, _ => nomatch p
  | .dict _, _, p, _, _ => nomatch p
  | .int _, .none, _, q, _ => nomatch q
  | .int _, .bool _, _, q, _ => nomatch q
  | .int _, .list _, _, q, _ => nomatch q
  | .int _, .dict _, _, q, _ => nomatch q
  | .str _, .none, _, q, _ => nomatch q
  | .str _, .bool _, _, q, _ => nomatch q
  | .str _, .list _, _, q, _ => nomatch q
  | .str _, .dict _, _, q, _ => nomatch q
  | .tuple _, .none, _, q, _ => nomatch q
  | .tuple _, .bool _, _, q, _ => nomatch q
  | .tuple _, .list _, _, q, _ => nomatch q
  | .tuple _, .dict _, _, q, _ => nomatch q
theorem pl_eqvs : ∀ (ds es : List PyData), (∀ d ∈ ds, Pl d) → (∀ e ∈ es, Pl e) → PyData.eqvAll ds es = true → ds = es
  | [], [], _, _, _ => rfl
  | d :: ds, e :: es, p, q, h => by
    rw [PyData.eqvAll, Bool.and_eq_true] at h
    rw [pl_eqv d e (p d List.mem_cons_self) (q e List.mem_cons_self) h.1, pl_eqvs ds es (fun x hx => p x (List.mem_cons_of_mem _ hx)) (fun x hx => q x (List.mem_cons_of_mem _ hx)) h.2]
  | [], _ :: _, _, _, h => by rw [PyData.eqvAll] at h; cases h
  | _ :: _, [], _, _, h => by rw [PyData.eqvAll] at h; cases h
end
/-! ### a vault and its data -/
theorem Exp.inj : ∀ (a b : Exp), a.d = b.d → a = b
  | .num i, .num j, h => by
    have h : PyData.int i = .int j := h
    cases h; rfl
  | .reg i, .reg j, h => by
    have h : PyData.str i = .str j := h
    cases h; rfl
  | .op s a b, .op t c d, h => by
    have h : PyData.tuple [.str s, a.d, b.d] = .tuple [.str t, c.d, d.d] := h
    simp only [PyData.tuple.injEq, List.cons.injEq, PyData.str.injEq, and_true] at h
    rw [h.1, Exp.inj a c h.2.1, Exp.inj b d h.2.2]
  | .num i, .reg j, h => by
    have h : PyData.int i = .str j := h
    cases h
  | .num i, .op _ _ _, h => by
    have h : PyData.int i = .tuple _ := h
    cases h
  | .reg i, .num j, h => by
    have h : PyData.str i = .int j := h
    cases h
  | .reg i, .op _ _ _, h => by
    have h : PyData.str i = .tuple _ := h
    cases h
  | .op _ _ _, .num j, h => by
    have h : PyData.tuple _ = .int j := h
    cases h
  | .op _ _ _, .reg j, h => by
    have h : PyData.tuple _ = .str j := h
    cases h
theorem word_same {r t : Row} (h : r.d = t.d) : r.word = t.word := by
  rw [row_d, row_d] at h
  simp only [PyData.tuple.injEq, List.cons.injEq, PyData.str.injEq] at h
  exact h.1
def Row.no : Row → Nat
  | .read .. => 0
  | .set .. => 1
  | .swap .. => 2
  | .keep .. => 3
  | .coin .. => 4
  | .iff .. => 5
  | .times .. => 6
  | .ans .. => 7
def wordsI : List Str := ["read", "set", "swap", "keep", "coin", "if", "times", "answer"]
theorem no_word (r : Row) : wordsI[r.no]? = some r.word := by cases r <;> rfl
theorem wordsI_nd : wordsI.Nodup := by decide +kernel
theorem no_eq {r t : Row} (h : r.d = t.d) : r.no = t.no := by
  have h1 := no_word r
  have h2 := no_word t
  rw [← word_same h] at h2
  exact nd_ix wordsI_nd h1 h2
mutual
theorem Row.inj : ∀ (r t : Row), r.d = t.d → r = t
  | .read r c, t, h => by
    have z := no_eq h
    cases t with
    | read r2 c2 =>
      have h : PyData.tuple [.str "read", .str r, .int c] = .tuple [.str "read", .str r2, .int c2] := h
      simp only [PyData.tuple.injEq, List.cons.injEq, PyData.str.injEq, PyData.int.injEq, and_true, true_and] at h
      rw [h.1, h.2]
    | _ => simp [Row.no] at z
  | .set c e, t, h => by
    have z := no_eq h
    cases t with
    | set c2 e2 =>
      have h : PyData.tuple [.str "set", .int c, e.d] = .tuple [.str "set", .int c2, e2.d] := h
      simp only [PyData.tuple.injEq, List.cons.injEq, PyData.str.injEq, PyData.int.injEq, and_true, true_and] at h
      rw [h.1, Exp.inj _ _ h.2]
    | _ => simp [Row.no] at z
  | .swap r c e f, t, h => by
    have z := no_eq h
    cases t with
    | swap r2 c2 e2 f2 =>
      have h : PyData.tuple [.str "swap", .str r, .int c, e.d, f.d] = .tuple [.str "swap", .str r2, .int c2, e2.d, f2.d] := h
      simp only [PyData.tuple.injEq, List.cons.injEq, PyData.str.injEq, PyData.int.injEq, and_true, true_and] at h
      rw [h.1, h.2.1, Exp.inj _ _ h.2.2.1, Exp.inj _ _ h.2.2.2]
    | _ => simp [Row.no] at z
  | .keep r e, t, h => by
    have z := no_eq h
    cases t with
    | keep r2 e2 =>
      have h : PyData.tuple [.str "keep", .str r, e.d] = .tuple [.str "keep", .str r2, e2.d] := h
      simp only [PyData.tuple.injEq, List.cons.injEq, PyData.str.injEq, PyData.int.injEq, and_true, true_and] at h
      rw [h.1, Exp.inj _ _ h.2]
    | _ => simp [Row.no] at z
  | .coin r, t, h => by
    have z := no_eq h
    cases t with
    | coin r2 =>
      have h : PyData.tuple [.str "coin", .str r] = .tuple [.str "coin", .str r2] := h
      simp only [PyData.tuple.injEq, List.cons.injEq, PyData.str.injEq, PyData.int.injEq, and_true, true_and] at h
      rw [h]
    | _ => simp [Row.no] at z
  | .iff e a b, t, h => by
    have z := no_eq h
    cases t with
    | iff e2 a2 b2 =>
      have h : PyData.tuple [.str "if", e.d, .tuple (rowsD a), .tuple (rowsD b)] = .tuple [.str "if", e2.d, .tuple (rowsD a2), .tuple (rowsD b2)] := h
      simp only [PyData.tuple.injEq, List.cons.injEq, PyData.str.injEq, PyData.int.injEq, and_true, true_and] at h
      rw [Exp.inj _ _ h.1, rows_inj a a2 h.2.1, rows_inj b b2 h.2.2]
    | _ => simp [Row.no] at z
  | .times e a, t, h => by
    have z := no_eq h
    cases t with
    | times e2 a2 =>
      have h : PyData.tuple [.str "times", e.d, .tuple (rowsD a)] = .tuple [.str "times", e2.d, .tuple (rowsD a2)] := h
      simp only [PyData.tuple.injEq, List.cons.injEq, PyData.str.injEq, PyData.int.injEq, and_true, true_and] at h
      rw [Exp.inj _ _ h.1, rows_inj a a2 h.2]
    | _ => simp [Row.no] at z
  | .ans e, t, h => by
    have z := no_eq h
    cases t with
    | ans e2 =>
      have h : PyData.tuple [.str "answer", e.d] = .tuple [.str "answer", e2.d] := h
      simp only [PyData.tuple.injEq, List.cons.injEq, PyData.str.injEq, PyData.int.injEq, and_true, true_and] at h
      rw [Exp.inj _ _ h]
    | _ => simp [Row.no] at z
theorem rows_inj : ∀ (r t : List Row), rowsD r = rowsD t → r = t
  | [], [], _ => rfl
  | r :: rs, t :: ts, h => by
    have h : r.d :: rowsD rs = t.d :: rowsD ts := h
    rw [Row.inj r t (List.cons.inj h).1, rows_inj rs ts (List.cons.inj h).2]
  | [], _ :: _, h => nomatch h
  | _ :: _, [], h => nomatch h
end
theorem deeds_inj : ∀ {ds es : List (Str × Int × List Row)}, ds.map deedD = es.map deedD → ds = es
  | [], [], _ => rfl
  | (n, c, rs) :: ds, (m, k, ts) :: es, h => by
    rw [List.map_cons, List.map_cons] at h
    have h1 : PyData.tuple [.str n, .int c, .tuple (rowsD rs)] = .tuple [.str m, .int k, .tuple (rowsD ts)] := (List.cons.inj h).1
    simp only [PyData.tuple.injEq, List.cons.injEq, PyData.str.injEq, PyData.int.injEq, and_true] at h1
    rw [deeds_inj (List.cons.inj h).2, h1.1, h1.2.1, rows_inj _ _ h1.2.2]
  | [], _ :: _, h => nomatch h
  | _ :: _, [], h => nomatch h
theorem cells_inj : ∀ {ds es : List (Int × Int)}, ds.map cellD = es.map cellD → ds = es
  | [], [], _ => rfl
  | (n, c) :: ds, (m, k) :: es, h => by
    rw [List.map_cons, List.map_cons] at h
    have h1 : PyData.tuple [.int n, .int c] = .tuple [.int m, .int k] := (List.cons.inj h).1
    simp only [PyData.tuple.injEq, List.cons.injEq, PyData.int.injEq, and_true] at h1
    rw [cells_inj (List.cons.inj h).2, h1.1, h1.2]
  | [], _ :: _, h => nomatch h
  | _ :: _, [], h => nomatch h
theorem pl_parts {v : Vlt} : (∀ d ∈ v.cells.map cellD, Pl d) ∧ ∀ d ∈ v.deeds.map deedD, Pl d := by
  cases shape_pl v with
  | tup h =>
    have h1 := h _ List.mem_cons_self
    have h2 := h _ (List.mem_cons_of_mem _ List.mem_cons_self)
    cases h1 with | tup h1 => cases h2 with | tup h2 => exact ⟨h1, h2⟩
/-- what == of the lists of two vaults says -/
def lsEq (v u : Vlt) : Bool := PyData.eqvAll (v.cells.map cellD) (u.cells.map cellD) && PyData.eqvAll (v.deeds.map deedD) (u.deeds.map deedD)
theorem lsEq_eq {v u : Vlt} (h : lsEq v u = true) : v = u := by
  unfold lsEq at h
  rw [Bool.and_eq_true] at h
  have a := cells_inj (pl_eqvs _ _ pl_parts.1 pl_parts.1 h.1)
  have b := deeds_inj (pl_eqvs _ _ pl_parts.2 pl_parts.2 h.2)
  cases v; cases u
  have a := a; have b := b
  simp only at a b
  rw [a, b]
theorem lsEq_self {v : Vlt} (g : VGood v) : lsEq v v = true := by
  have a := (fit_lay (cells_fit g)).2.2
  have b := (fit_lay (deeds_fit g)).2.2
  rw [eqvT_all] at a b
  unfold lsEq
  rw [a, b]
  rfl
theorem vEq_ls (v u : Vlt) : vEq v u = lsEq v u := by
  unfold vEq lsEq
  rw [eqvT_all, eqvT_all]
theorem lsEq_ne {v u : Vlt} (h : ¬ v = u) : lsEq v u = false := by
  cases e : lsEq v u with
  | false => rfl
  | true => exact absurd (lsEq_eq e) h
theorem text_ne {v u : Vlt} (gv : VGood v) (gu : VGood u) (h : ¬ v = u) : ¬ vaultS v = vaultS u := fun z => by
  obtain ⟨a, b⟩ := text_tells gv gu z
  have b := deeds_inj b
  apply h
  cases v; cases u
  simp only at a b
  rw [a, b]

end M

set_option Elab.async false
set_option linter.all false
set_option maxRecDepth 100000
set_option maxHeartbeats 2000000
namespace M
open PySem PySem.Spec PyProof.Rows L2

theorem lsEq_comm {v u : Vlt} (gv : VGood v) (gu : VGood u) : lsEq u v = lsEq v u := by
  by_cases h : v = u
  · rw [h]
  · rw [lsEq_ne h, lsEq_ne (fun z => h z.symm)]
theorem text_ls {v u : Vlt} (gv : VGood v) (gu : VGood u) : decide (V.str (vaultS v) = V.str (vaultS u)) = lsEq v u := by
  by_cases h : v = u
  · rw [h, lsEq_self gu, decide_eq_true rfl]
  · rw [lsEq_ne h, decide_eq_false fun z => text_ne gv gu h (V.str.inj z)]
theorem ne_pool {K : PySem.W.Frag} {H : Hp} {p a : Addr} {xs : List V} {ds : List PyData} (hp : PoolAt H p) (ha : H a = some (.lst xs)) (hx : DpAll K H xs ds) (l : 1 ≤ ds.length) (t : ∀ d ∈ ds, ∃ es, d = .tuple es) : a ≠ p := fun e => by
  obtain ⟨g, s, n, e1, _⟩ := hp
  rw [e, e1] at ha
  cases ha
  cases hx with
  | cons h r =>
    obtain ⟨es, rfl⟩ := t _ List.mem_cons_self
    obtain ⟨b, ys, z, _⟩ := dp_tup h
    cases z
theorem cells_tup (cs : List (Int × Int)) : ∀ d ∈ cs.map cellD, ∃ es, d = .tuple es := fun d h => by
  obtain ⟨c, _, rfl⟩ := List.mem_map.mp h
  exact ⟨_, rfl⟩
theorem deeds_tup (cs : List (Str × Int × List Row)) : ∀ d ∈ cs.map deedD, ∃ es, d = .tuple es := fun d h => by
  obtain ⟨c, _, rfl⟩ := List.mem_map.mp h
  exact ⟨_, rfl⟩
section
variable {P : Program} {w : World} {K : PySem.W.Frag} {mg : Str → Option Value} {base : Heap}
def spLaw (K : PySem.W.Frag) : Sp := fun vs H Q _ => ∃ (a : Addr) (ns : List Int), vs = [.ref a] ∧ SqL K H a (ns.map V.int) ∧ ns.length ≤ 63 ∧ ∀ H', Q (.bl true) H'
set_option maxHeartbeats 0 in
theorem ok_law {fd : FuncData} (T : Txt w K mg) (F : FunD K "law" "law" (defArgs s_law) (defBody s_law) (defScope s_law) [] [] (He.fAd K ("law", none)) fd) : FnOk P w K mg base CX0 58 (He.fAd K ("law", none)) fd ["_law_script"] (spLaw K) := by
  refine fn_d (N := ["_law_script", "_law_pool_here", "_law_long_here", "_law_other", "_law_cells", "_law_deeds", "_law_cells_two", "_law_deeds_two", "_law_same", "_law_one_here", "_law_two"]) (ps := ["_law_script"]) F ⟨rfl, rfl, rfl, by decide +kernel, rfl, by decide +kernel, by decide +kernel⟩
    (fun vs H Q E h => by obtain ⟨sc, ns, rfl, hs, hl, q⟩ := h; rfl) (fun cdv A outer s H vs Q E hr h => ?_)
  have nd : (["_law_script", "_law_pool_here", "_law_long_here", "_law_other", "_law_cells", "_law_deeds", "_law_cells_two", "_law_deeds_two", "_law_same", "_law_one_here", "_law_two"] : List Str).Nodup := by decide +kernel
  obtain ⟨sc, ns, rfl, hs, hl, q⟩ := h
  refine ⟨_, (pss_cons (ps_set (i := 1) nd rfl (.inl rfl) (pe_ca (ca_l_pool T) hr (pa_cons (pv 0) (pa_cons pe_int pa_nil))))
      (pss_cons (ps_set (i := 2) nd rfl (.inl rfl) (pe_ca (ca_l_draw T) hr (pa_cons (pv 1) (pa_cons pe_int pa_nil))))
      (pss_cons (ps_set (i := 3) nd rfl (.inl rfl) (pe_ca (ca_l_draw T) hr (pa_cons (pv 1) (pa_cons pe_int pa_nil))))
      (pss_cons (ps_asg (pe_ca (Tx.ca_l_vault T) hr (pa_cons (pe_ca (ca_l_pool T) hr (pa_cons (pv 0) (pa_cons pe_int pa_nil))) pa_nil)) (pg_two K 4 5 rfl rfl nd rfl rfl (.inl rfl) (.inl rfl) (.inr rfl) (.inr rfl)))
      (pss_cons (ps_if (pt_cmpR op_eq (pv 2) pe_int (nomark _)) (pss_one (ps_set (i := 5) nd rfl (.inl rfl) (pe_ca (Tx.ca_l_long T) hr (pa_cons (pv 5) (pa_cons (pv 1) pa_nil))))) pss_nil)
      (pss_cons (ps_if (pt_cmpR op_eq (pv 3) pe_int (nomark _)) (pss_one (ps_asg (pe_ca (Tx.ca_l_vault T) hr (pa_cons (pe_ca (ca_l_pool T) hr (pa_cons (pv 0) (pa_cons pe_int pa_nil))) pa_nil)) (pg_two K 6 7 rfl rfl nd rfl rfl (.inl rfl) (.inl rfl) (.inr rfl) (.inr rfl)))) (pss_one (ps_asg (pe_ca (Tx.ca_l_changed T) hr (pa_cons (pv 4) (pa_cons (pv 5) (pa_cons (pv 1) pa_nil)))) (pg_two K 6 7 rfl rfl nd rfl rfl (.inl rfl) (.inl rfl) (.inr rfl) (.inr rfl)))))
      (pss_cons (ps_if (PW.pt (pw_or (pt_not (pt_val (pe_ca (Tx.ca_l_holds T) hr (pa_cons (pv 4) (pa_cons (pv 5) pa_nil))))) (pw_or1 (pt_not (pt_val (pe_ca (Tx.ca_l_holds T) hr (pa_cons (pv 6) (pa_cons (pv 7) pa_nil)))))))) (pss_one (ps_ret pe_bl)) pss_nil)
      (pss_cons (ps_set (i := 8) nd rfl (.inl rfl) (pe_and (pe_cmpR (op_eqD hr.units) (pv 4) (pv 6) (nomark _)) (pe_one (pe_cmpR (op_eqD hr.units) (pv 5) (pv 7) (nomark _)))))
      (pss_cons (ps_set (i := 9) nd rfl (.inl rfl) (pe_ma (M.F.ma_Vault T) hr (pa_cons (pe_callTy call_list_of (by rfl) T.b_list boot_list (pa_cons (pv 4) pa_nil)) (pa_cons (pe_callTy call_list_of (by rfl) T.b_list boot_list (pa_cons (pv 5) pa_nil)) pa_nil))))
      (pss_cons (ps_set (i := 10) nd rfl (.inl rfl) (pe_ma (M.F.ma_Vault T) hr (pa_cons (pe_callTy call_list_of (by rfl) T.b_list boot_list (pa_cons (pv 6) pa_nil)) (pa_cons (pe_callTy call_list_of (by rfl) T.b_list boot_list (pa_cons (pv 7) pa_nil)) pa_nil))))
      (pss_cons (ps_if (PW.pt (pw_or (pt_cmpR op_ne (pe_cmpR op_eq (pe_ca (Tx.ca_vault_text T) hr (pa_cons (pv 9) pa_nil)) (pe_ca (Tx.ca_vault_text T) hr (pa_cons (pv 10) pa_nil)) (nomark _)) (pv 8) (nomark _)) (pw_or1 (pt_cmpR op_ne (pe_ca (Tx.ca_vault_text T) hr (pa_cons (pv 9) pa_nil)) (pe_ca (Tx.ca_l_text T) hr (pa_cons (pv 4) (pa_cons (pv 5) pa_nil))) (nomark _))))) (pss_one (ps_ret pe_bl)) pss_nil)
      (pss_one (ps_ret (pe_and (pe_cmpR op_eq (pe_cmpR (op_eqI (J.eq_Vault T) (hr.mono (by decide))) (pv 9) (pv 10) (nomark _)) (pv 8) (nomark _)) (pe_one (pe_cmpR op_eq (pe_cmpR (op_eqI (J.eq_Vault T) (hr.mono (by decide))) (pv 10) (pv 9) (nomark _)) (pv 8) (nomark _))))))))))))))))), ?_⟩
  refine ⟨_, rfl, sc, ns, 0, rfl, hs, hl, by decide, fun p H1 s1 np p1 => ?_⟩
  refine ⟨_, rfl, p, 16, rfl, p1, by omega, fun lg H2 b2 p2 hlg => ?_⟩
  refine ⟨_, rfl, p, 2, rfl, p2, by omega, fun ot H3 b3 p3 hot => ?_⟩
  have s03 : Same H H3 := fun x o e => (b2.trans b3) _ _ (ne_of_none e np) (s1 _ _ e)
  refine ⟨_, rfl, sc, ns, 1, rfl, s03.seq hs, hl, by decide, fun r1 H4 s4 nr1 pr1 => ?_⟩
  refine ⟨r1, rfl, pr1, fun t ca da xs ys cs ds H5 b5 pr5 ht hca hxs hda hys vg h30 => ?_⟩
  have p5 : PoolAt H5 p := (p3.same s4).but (Ne.symm (pool_nl p3 nr1)) b5
  have s05 : Same H H5 := fun x o e => b5 _ _ (ne_of_none (s03 _ _ e) nr1) (s4 _ _ (s03 _ _ e))
  have nap := ne_pool p5 hca hxs (by rw [List.length_map]; exact vg.c0) (cells_tup cs)
  have ndp := ne_pool p5 hda hys (by rw [List.length_map]; exact vg.d0) (deeds_tup ds)
  refine ⟨_, _, rfl, .of ht, rfl, _, _, rfl, _, _, rfl, rfl, ?_⟩
  clear p1 p2 p3 pr1 pr5 ht
  dsimp only [gName]
  refine (?key : ∀ R : TS, (∀ (da : Addr) (ys : List V) (ds : List (Str × Int × List Row)) (H6 : Hp), But p H5 H6 → PoolAt H6 p → H6 da = some (.lst ys) → da ≠ p → DpAll K H6 ys (ds.map deedD) → VGood ⟨cs, ds⟩ → R _ [some (.ref sc), some (.ref p), some (.int lg), some (.int ot), some (.ref ca), some (.ref da), none, none, none, none, none] H6) → tSeq (tIfS _ _ _) R _ _ _) _ ?rest
  case key =>
    intro R hR
    refine ⟨_, rfl, rfl, _, rfl, ?_⟩
    by_cases l3 : lg = 3
    · rw [decide_eq_true (show V.int lg = V.int 3 from congrArg V.int l3)]
      exact iteT ⟨_, rfl, _, rfl, da, p, ys, cs, ds, rfl, p5, hda, ndp, hys, vg, h30, fun d2 zs es H6 b6 p6 h6 n6 hz vg6 => hR d2 zs es H6 b6 p6 h6 n6 hz vg6⟩
    · rw [decide_eq_false (show ¬ V.int lg = V.int 3 from fun z => l3 (V.int.inj z))]
      exact iteF (hR da ys ds H5 (fun _ _ _ e => e) p5 hda ndp hys vg)
  clear hda hys vg h30 ndp
  intro da ys ds H6 b6 p6 hda ndp hys vg
  have s06 : Same H H6 := fun x o e => b6 _ _ (fun z => by rw [z, np] at e; cases e) (s05 _ _ e)
  have hca6 := b6 _ _ nap hca
  have hxs6 := dps_but p5.ch b6 hxs (cells_noL cs)
  clear hca hxs
  refine (?key2 : ∀ R : TS, (∀ (cb db : Addr) (us ws : List V) (es : List (Int × Int)) (fs : List (Str × Int × List Row)) (H8 : Hp), Same H H8 → (H8 ca = some (.lst xs) ∧ DpAll K H8 xs (cs.map cellD)) → (H8 da = some (.lst ys) ∧ DpAll K H8 ys (ds.map deedD)) → (H8 cb = some (.lst us) ∧ DpAll K H8 us (es.map cellD)) → (H8 db = some (.lst ws) ∧ DpAll K H8 ws (fs.map deedD)) → VGood ⟨es, fs⟩ → R _ [some (.ref sc), some (.ref p), some (.int lg), some (.int ot), some (.ref ca), some (.ref da), some (.ref cb), some (.ref db), none, none, none] H8) → tSeq (tIfS _ _ _) R _ _ _) _ ?rest2
  case key2 =>
    intro R hR
    refine ⟨_, rfl, rfl, _, rfl, ?_⟩
    by_cases o0 : ot = 0
    · rw [decide_eq_true (show V.int ot = V.int 0 from congrArg V.int o0)]
      refine iteT ⟨_, rfl, sc, ns, 2, rfl, s06.seq hs, hl, by decide, fun r2 H7 s7 nr2 pr2 => ⟨r2, rfl, pr2, fun t2 cb db us ws es fs H8 b8 pr8 ht2 hcb hus hdb hws vg2 h302 => ?_⟩⟩
      have s68 : Same H6 H8 := fun x o e => b8 _ _ (ne_of_none e nr2) (s7 _ _ e)
      exact ⟨_, _, rfl, .of ht2, rfl, _, _, rfl, _, _, rfl, rfl, hR cb db us ws es fs H8 (s06.trans s68) ⟨s68 _ _ hca6, dps_same s68 hxs6⟩ ⟨s68 _ _ hda, dps_same s68 hys⟩ ⟨hcb, hus⟩ ⟨hdb, hws⟩ vg2⟩
    · rw [decide_eq_false (show ¬ V.int ot = V.int 0 from fun z => o0 (V.int.inj z))]
      refine iteF ⟨_, rfl, _, rfl, _, rfl, ca, da, p, xs, ys, cs, ds, rfl, p6, ⟨hca6, nap, hxs6⟩, ⟨hda, ndp, hys⟩, vg, fun t2 cb db us ws es fs H8 b8 p8 ht2 hcb hus hdb hws vg2 => ?_⟩
      exact ⟨_, _, rfl, .of ht2, rfl, _, _, rfl, _, _, rfl, rfl, hR cb db us ws es fs H8 (fun x o e => b8 _ _ (fun z => by rw [z, np] at e; cases e) (s06 _ _ e)) ⟨b8 _ _ nap hca6, dps_but p6.ch b8 hxs6 (cells_noL cs)⟩ ⟨b8 _ _ ndp hda, dps_but p6.ch b8 hys (deeds_noL ds)⟩ ⟨hcb, hus⟩ ⟨hdb, hws⟩ vg2⟩
  clear hda hys hca6 hxs6 p6 p5
  intro cb db us ws es fs H8 s08 ⟨hca, hxs⟩ ⟨hda, hys⟩ ⟨hcb, hus⟩ ⟨hdb, hws⟩ vg2
  refine ⟨_, rfl, _, rfl, ca, da, xs, ys, cs, ds, rfl, ⟨hca, hxs⟩, ⟨hda, hys⟩, vg, fun H9 s9 => ⟨_, rfl, iteF ?_⟩⟩
  refine ⟨_, rfl, _, rfl, cb, db, us, ws, es, fs, rfl, ⟨s9 _ _ hcb, dps_same s9 hus⟩, ⟨s9 _ _ hdb, dps_same s9 hws⟩, vg2, fun H10 s10 => ⟨_, rfl, iteF ?_⟩⟩
  have s81 := s9.trans s10
  have hca := s81 _ _ hca
  have hda := s81 _ _ hda
  have hcb := s81 _ _ hcb
  have hdb := s81 _ _ hdb
  have hxs := dps_same s81 hxs
  have hys := dps_same s81 hys
  have hus := dps_same s81 hus
  have hws := dps_same s81 hws
  have fc : ∀ {cs : List (Int × Int)} {ds : List (Str × Int × List Row)}, VGood ⟨cs, ds⟩ → SeqAt.shaped (.list (cs.map cellD)) = true ∧ SeqAt.shaped (.list (ds.map deedD)) = true := fun g => ⟨fit_shaped (n := 2) (by decide) (cells_fit g), fit_shaped (n := 41) (by decide) (deeds_fit g)⟩
  dsimp only [tNext, tSeq, tAsg]
  refine (?key3 : ∀ R : VK, R (.bl (lsEq ⟨cs, ds⟩ ⟨es, fs⟩)) H10 → tAndV _ _ _ _ R) _ ?rest3
  case key3 =>
    intro R hR
    refine ⟨_, rfl, _, rfl, _, _, .lst (.of hca) hxs, .lst (.of hcb) hus, (fc vg).1, (fc vg2).1, _, rfl, ?_⟩
    unfold lsEq at hR
    rw [eqvL_all]
    cases e1 : PyData.eqvAll (cs.map cellD) (es.map cellD) with
    | false =>
      rw [show PyData.eqvAll ((Vlt.mk cs ds).cells.map cellD) ((Vlt.mk es fs).cells.map cellD) = false from e1] at hR
      exact iteF hR
    | true =>
      rw [show PyData.eqvAll ((Vlt.mk cs ds).cells.map cellD) ((Vlt.mk es fs).cells.map cellD) = true from e1] at hR
      refine iteT ⟨_, rfl, _, rfl, _, _, .lst (.of hda) hys, .lst (.of hdb) hws, (fc vg).2, (fc vg2).2, ?_⟩
      rw [eqvL_all]
      exact hR
  have ct := text_ls vg vg2
  have cv := vEq_ls ⟨cs, ds⟩ ⟨es, fs⟩
  have cu := (vEq_ls ⟨es, fs⟩ ⟨cs, ds⟩).trans (lsEq_comm vg vg2)
  generalize lsEq ⟨cs, ds⟩ ⟨es, fs⟩ = B at ct cv cu ⊢
  refine ⟨_, rfl, ca, xs, rfl, .inl (.of hca), fun lA1 nl1 => ?_⟩
  have sA2 := same_new (o := .lst xs) nl1
  have e1 : upd H10 lA1 (.lst xs) lA1 = some (.lst xs) := upd_same
  generalize upd H10 lA1 (.lst xs) = IA2 at sA2 e1 ⊢
  refine ⟨_, rfl, da, ys, rfl, .inl (.of (sA2 _ _ hda)), fun lA2 nl2 => ?_⟩
  have sA3 := same_new (o := .lst ys) nl2
  have e2 : upd IA2 lA2 (.lst ys) lA2 = some (.lst ys) := upd_same
  generalize upd IA2 lA2 (.lst ys) = IA3 at sA3 e2 ⊢
  intro pA px hp hpx nep
  have w4 : Same IA3 (upd (upd IA3 px (.own pA)) pA (.ins (He.ga K "Vault") px [])) := (same_new hpx).trans (same_new (by rw [upd_ne (Ne.symm nep)]; exact hp))
  have s03 : Same H10 IA3 := sA2.trans sA3
  refine ⟨pA, px, lA1, lA2, xs, ys, ⟨cs, ds⟩, rfl, upd_same, .of (w4 _ _ (sA3 _ _ e1)), dps_same (s03.trans w4) hxs, .of (w4 _ _ e2), dps_same (s03.trans w4) hys, vg, fun JA b4 vtA fl => ⟨rfl, ?_⟩⟩
  have sJA : Same H10 JA := fun x o e => b4 _ _ (ne_of_none (s03 _ _ e) hp) (w4 _ _ (s03 _ _ e))
  clear b4 w4 e1 e2 sA2 sA3 s03 nl1 nl2 hpx nep hp fl
  have hcb := sJA _ _ hcb
  have hdb := sJA _ _ hdb
  have hus := dps_same sJA hus
  have hws := dps_same sJA hws
  refine ⟨_, rfl, cb, us, rfl, .inl (.of hcb), fun lB1 nl1 => ?_⟩
  have sB2 := same_new (o := .lst us) nl1
  have e1 : upd JA lB1 (.lst us) lB1 = some (.lst us) := upd_same
  generalize upd JA lB1 (.lst us) = IB2 at sB2 e1 ⊢
  refine ⟨_, rfl, db, ws, rfl, .inl (.of (sB2 _ _ hdb)), fun lB2 nl2 => ?_⟩
  have sB3 := same_new (o := .lst ws) nl2
  have e2 : upd IB2 lB2 (.lst ws) lB2 = some (.lst ws) := upd_same
  generalize upd IB2 lB2 (.lst ws) = IB3 at sB3 e2 ⊢
  intro pB px hp hpx nep
  have w4 : Same IB3 (upd (upd IB3 px (.own pB)) pB (.ins (He.ga K "Vault") px [])) := (same_new hpx).trans (same_new (by rw [upd_ne (Ne.symm nep)]; exact hp))
  have s03 : Same JA IB3 := sB2.trans sB3
  refine ⟨pB, px, lB1, lB2, us, ws, ⟨es, fs⟩, rfl, upd_same, .of (w4 _ _ (sB3 _ _ e1)), dps_same (s03.trans w4) hus, .of (w4 _ _ e2), dps_same (s03.trans w4) hws, vg2, fun JB b4 vtB fl => ⟨rfl, ?_⟩⟩
  have sJB : Same JA JB := fun x o e => b4 _ _ (ne_of_none (s03 _ _ e) hp) (w4 _ _ (s03 _ _ e))
  clear b4 w4 e1 e2 sB2 sB3 s03 nl1 nl2 hpx nep hp fl
  have vtA := vtA.same sJB
  have sJ := sJA.trans sJB
  refine ⟨_, rfl, pA, ⟨cs, ds⟩, rfl, vtA, vg, fun M1 m1 => ⟨_, rfl, pB, ⟨es, fs⟩, rfl, vtB.same m1, vg2, fun M2 m2 => ?_⟩⟩
  refine ⟨rfl, _, rfl, rfl, _, rfl, ?_⟩
  rw [ct, show (!decide (V.bl B = V.bl B)) = false by rw [decide_eq_true rfl]; rfl]
  have vtA2 := vtA.same (m1.trans m2)
  have vtB2 := vtB.same (m1.trans m2)
  have sM := sJ.trans (m1.trans m2)
  refine iteF ⟨_, rfl, pA, ⟨cs, ds⟩, rfl, vtA2, vg, fun M3 m3 => ?_⟩
  have sM3 := sM.trans m3
  refine ⟨_, rfl, _, rfl, ca, da, xs, ys, cs, ds, rfl, ⟨sM3 _ _ hca, dps_same sM3 hxs⟩, ⟨sM3 _ _ hda, dps_same sM3 hys⟩, vg, fun M4 m4 => ⟨rfl, _, rfl, ?_⟩⟩
  rw [show (!decide (V.str (vaultS ⟨cs, ds⟩) = V.str (vaultS ⟨cs, ds⟩))) = false by rw [decide_eq_true rfl]; rfl]
  have vtA4 := vtA2.same (m3.trans m4)
  have vtB4 := vtB2.same (m3.trans m4)
  obtain ⟨ax, afs, eA⟩ := vat_ins vtA4
  obtain ⟨bx, bfs, eB⟩ := vat_ins vtB4
  refine iteF ⟨_, rfl, _, rfl, pA, pB, _, _, _, _, rfl, rfl, eA, eB, pA, ⟨cs, ds⟩, .ref pB, rfl, vtA4, vg, .inr ⟨pB, ⟨es, fs⟩, rfl, vtB4, vg2, ⟨_, rfl⟩, _, rfl, rfl, _, rfl, ?_⟩⟩
  rw [cv, decide_eq_true (show V.bl B = V.bl B from rfl)]
  refine iteT ⟨_, rfl, _, rfl, pB, pA, _, _, _, _, rfl, rfl, eB, eA, pB, ⟨es, fs⟩, .ref pA, rfl, vtB4, vg2, .inr ⟨pA, ⟨cs, ds⟩, rfl, vtA4, vg, ⟨_, rfl⟩, _, rfl, rfl, ?_⟩⟩
  rw [cu, decide_eq_true (show V.bl B = V.bl B from rfl)]
  exact q _
end

end M

open PySem PySem.W PySem.Calls PyProof.Rows
set_option maxRecDepth 100000 in
set_option maxHeartbeats 0 in
theorem PySem.Challenge.cw_pastless_k15_whole_vault_texts_holds : PySem.Challenge.rw_pastless_k15_whole_vault_texts.Holds := by
  w_on; o_law
  refine HandSHeadRun.head_any (r := OpenLaw.row PySem.Challenge.rw_pastless_k15_whole_vault_texts) (q := view (OpenLaw.row PySem.Challenge.rw_pastless_k15_whole_vault_texts).prog [75]) (H := M.hk) (ob := M.ob) (M := 8000) (loose := M.names) (d := HandSHeadRun.topDef (OpenLaw.row PySem.Challenge.rw_pastless_k15_whole_vault_texts).prog 75) (kwd := []) M.ob_eq
    (by kernel_rfl) (fun s => by kernel_rfl) M.run (by kernel_rfl) (by kernel_rfl) (by kernel_rfl) (by rfl) (by first | assumption | decide +kernel) (by decide +kernel) ⟨rfl, rfl, rfl, rfl, rfl, by decide +kernel⟩ ?hw ?hc
  case hw => w_witness2
  case hc =>
    refine L2.walk_ofE (l := PySem.Challenge.rw_pastless_k15_whole_vault_texts) (n := 63) (k := 58) (x := "_law_script") (CX := L2.CX0) rfl (by decide) (by kernel_rfl) ⟨rfl, by decide, by decide⟩ ?F (fun _ _ _ _ z => z)
    intro w mg fa h Y G hmg0
    obtain ⟨K, KX, c⟩ := Y
    have hmg : mg ("law" : PySem.Str) = some (.ref fa) := by
      have e : (HandSHeadRun.topDef (OpenLaw.row PySem.Challenge.rw_pastless_k15_whole_vault_texts).prog 75).name = ("law" : PySem.Str) := by kernel_rfl
      rw [← e]
      exact hmg0
    have T : M.Txt w K mg := ⟨⟨h, c⟩, ⟨h, KX, G⟩⟩
    have e := hmg.symm.trans T.g_law
    cases e
    obtain ⟨fd, hF⟩ := T.f_law
    have b := fun s => L2.FunD.bindsA (ps := ["_law_script"]) hF (fun _ _ _ _ _ _ us hl => match us, hl with | [_], _ => rfl) s
    exact ⟨K, fd, M.spLaw K, KX, fun s v => b s [v] rfl, fun H a ns hl hO hS => ⟨a, ns, rfl, hS, hl, fun _ => rfl⟩, fun base _ _ => M.ok_law T hF⟩
