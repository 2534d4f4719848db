import PyProof.Rows.All
import Wide.All
import OpenK.AllK
import Wide.FinOn
import KE.KStateDown
import HandS.ForMost
import HandS.ForExc
import HandS.More
import HandS.Conv
import HandS.IsInst
import HandS.DictComp
import HandS.Zip
import HandS.Walk
import HandS.SetKeys
import HandS.Codes
import HandS.CallLocal
import HandS.WrittenGet
import HandS.TryMany
import HandS.ExcField
import HandS.Flow
import HandS.Style
import HandS.Evl
import HandS.Wide
import HandS.WideBits
import HandS.Defaults
import HandS.Head0
import HandS.Head1
import HandS.Head2
import HandS.HeadEnd
import HandS.HeadHook1
import HandS.HeadHook2
import HandS.HeadHook3
import HandS.HeadHook4
import HandS.ExcOwn
import HandS.TryOnly
import HandS.TryElse
import HandS.TupAny
import HandS.ExcInit
import HandS.ExcValue
import HandS.ExcIs
import HandS.DeepEq
import PySem.Challenge.RW_pastless_k00_errors_and_their_fields
set_option Elab.async false
set_option linter.all false
set_option maxRecDepth 100000
set_option maxHeartbeats 2000000
namespace M
open PySem PySem.Spec PyProof.Rows L2
def top (i : Nat) : Stmt := PySem.Challenge.pw_pastless_k00_errors_and_their_fields.main.body.getD i (.Pass ⟨0, 0, 0, 0⟩)
abbrev s_NoVault_init : Stmt := inClass (top 33) 0
abbrev s_NoReader_init : Stmt := inClass (top 34) 0
abbrev s_NoWish_init : Stmt := inClass (top 35) 0
abbrev s_TooMany_init : Stmt := inClass (top 36) 0
abbrev s_NoRow_init : Stmt := inClass (top 37) 0
abbrev s_NoWeaving_init : Stmt := inClass (top 38) 0
abbrev s_NoText_init : Stmt := inClass (top 39) 0
abbrev s_l_pool : Stmt := top 41
abbrev s_l_draw : Stmt := top 42
abbrev s_l_same : Stmt := top 43
abbrev s_l_first_half : Stmt := top 44
abbrev s_l_second_half : Stmt := top 45
abbrev s_l_errors : Stmt := top 46
abbrev s_l_thing : Stmt := top 47
abbrev s_l_same_thing : Stmt := top 48
abbrev s_l_fields_kept : Stmt := top 49
abbrev s_l_caught : Stmt := top 50
abbrev s_law : Stmt := top 51
abbrev dd (x : Str) (st : Stmt) : He.DefD := ⟨(x, none), x, x, defArgs st, defBody st, defScope st, [], []⟩
abbrev dm (C m q : Str) (st : Stmt) : He.DefD := ⟨(C, some m), m, q, defArgs st, defBody st, defScope st, [], []⟩
def fn : List He.DefD := [dm "NoVault" "__init__" "NoVault.__init__" s_NoVault_init, dm "NoReader" "__init__" "NoReader.__init__" s_NoReader_init, dm "NoWish" "__init__" "NoWish.__init__" s_NoWish_init, dm "TooMany" "__init__" "TooMany.__init__" s_TooMany_init, dm "NoRow" "__init__" "NoRow.__init__" s_NoRow_init, dm "NoWeaving" "__init__" "NoWeaving.__init__" s_NoWeaving_init, dm "NoText" "__init__" "NoText.__init__" s_NoText_init, dd "_law_pool" s_l_pool, dd "_law_draw" s_l_draw, dd "_law_same" s_l_same, dd "_law_first_half" s_l_first_half, dd "_law_second_half" s_l_second_half, dd "_law_errors" s_l_errors, dd "_law_thing" s_l_thing, dd "_law_same_thing" s_l_same_thing, dd "_law_fields_kept" s_l_fields_kept, dd "_law_caught" s_l_caught, dd "law" s_law]
def fa0 : List He.Fa := [.glo "_law_pool", .glo "_law_draw", .glo "_law_same", .glo "_law_first_half", .glo "_law_second_half", .glo "_law_errors", .glo "_law_thing", .glo "_law_same_thing", .glo "_law_fields_kept", .glo "_law_caught", .glo "law", .glo "PastError", .glo "NoName", .glo "NoState", .glo "NoCall", .glo "NoCoins", .glo "CoinsOut", .glo "HasCoins", .glo "NotSure", .glo "NotComing", .glo "NoMost", .glo "NoNames", .glo "OtherCalls", .glo "NoStand", .glo "NoStruck", .glo "NoContent", .glo "TooWide", .glo "NoSizes", .glo "NoLayouts", .glo "NoSize"]
def fa1 : List He.Fa := [.glo "NoHand", .glo "Busy", .glo "NotBusy", .glo "NoRule", .glo "NoChoice", .glo "OtherSizes", .glo "NoCut", .glo "NoBack", .glo "NotPlain", .glo "NoLook", .glo "NoExpression", .glo "NoLine", .glo "NothingDone", .glo "NoVault", .glo "NoReader", .glo "NoWish", .glo "TooMany", .glo "NoRow", .glo "NoWeaving", .glo "NoText", .exc "PastError", .exc "NoName", .exc "NoState", .exc "NoCall", .exc "NoCoins", .exc "CoinsOut", .exc "HasCoins", .exc "NotSure", .exc "NotComing", .exc "NoMost"]
def fa2 : List He.Fa := [.exc "NoNames", .exc "OtherCalls", .exc "NoStand", .exc "NoStruck", .exc "NoContent", .exc "TooWide", .exc "NoSizes", .exc "NoLayouts", .exc "NoSize", .exc "NoHand", .exc "Busy", .exc "NotBusy", .exc "NoRule", .exc "NoChoice", .exc "OtherSizes", .exc "NoCut", .exc "NoBack", .exc "NotPlain", .exc "NoLook", .exc "NoExpression", .exc "NoLine", .exc "NothingDone", .exm "NoMost" "NoVault" false, .exm "NoVault" "NoVault" true, .exm "TooMany" "NoVault" false, .exm "NoRow" "NoVault" false, .exm "NoText" "NoVault" false, .exm "NoMost" "TooMany" false, .exm "NoVault" "TooMany" false, .exm "TooMany" "TooMany" true]
def fa3 : List He.Fa := [.exm "NoRow" "TooMany" false, .exm "NoText" "TooMany" false, .exm "NoMost" "NoRow" false, .exm "NoVault" "NoRow" false, .exm "TooMany" "NoRow" false, .exm "NoRow" "NoRow" true, .exm "NoText" "NoRow" false, .exm "NoMost" "NoText" false, .exm "NoVault" "NoText" false, .exm "TooMany" "NoText" false, .exm "NoRow" "NoText" false, .exm "NoText" "NoText" true, .exm "NoMost" "PastError" true, .exm "NoVault" "PastError" true, .exm "TooMany" "PastError" true, .exm "NoRow" "PastError" true, .exm "NoText" "PastError" true, .free "len", .free "isinstance", .free "int", .free "abs", .free "tuple", .free "list", .free "str", .free "bool", .free "range", .free "zip", .free "enumerate", .free "set", .free "min"]
def fa4 : List He.Fa := [.free "max", .free "reversed", .free "sorted", .free "sum", .free "dict", .free "ValueError"]
def fa : List He.Fa := fa0 ++ fa1 ++ fa2 ++ fa3 ++ fa4
/-- the values of a written dict are tuples of texts -/
def formsB (K : PySem.W.Frag) (a : Addr) (kvs : List (Str × List Str)) : Bool := kvs.all fun q => match PySem.W.nsIn K a q.1 with
  | some (some (.ref t)) => (match K.lookup t with
    | some ⟨.type c, none, .seq its _, _⟩ => decide (c = "tuple") && (decide (its.size ≤ sizeLine) && He.relAll (q.2.map V.str) its.toList)
    | _ => false)
  | _ => false
/-- the class x is an error with its own __init__, which keeps the field f -/
def oexS (K : PySem.W.Frag) (C : Addr) : Bool := match K.lookup C with
  | some ⟨.type t, _, .cls cd, sl⟩ => (match cd.mro, sl.toList with
    | .ref D :: bm, [_, _, _, _, some (.builtin n), _] => decide (t = "type") && (decide (D = C) && (decide (n = "ValueError.__new__") && (cd.hasDict && (!cd.hasDel && PySem.HandSPX.refsVE bm))))
    | _, _ => false)
  | _ => false
def oexB (K : PySem.W.Frag) (x f : Str) : Bool := oexS K (He.ga K x) && (He.eqO (PySem.W.findIn K (.ref (He.ga K x)) "__setattr__") (some (some (.builtin "object.__setattr__"))) && (decide (PySem.W.subIn K (.ref (He.ga K x)) (.type "BaseException") = some true) &&
  (decide (PySem.W.typeIn K (.ref (He.ga K x)) = some (.type "type")) && (PySem.W.keepIn K (.ref (He.ga K x)) && (xfB K (He.ga K x) && (He.eqO (PySem.W.findIn K (.ref (He.ga K x)) f) (some none) &&
  (He.eqO (PySem.W.findIn K (.ref (He.ga K x)) "__init__") (some (some (.ref (He.ma K (He.ga K x) "__init__")))) && decide (PySem.W.typeIn K (.ref (He.ma K (He.ga K x) "__init__")) = some (.type "function")))))))))
/-- the class x reads its __init__ off ValueError -/
def pinB (K : PySem.W.Frag) (x : Str) : Bool := PySem.W.readsIn K (He.ga K x) (.type "type") && (decide (PySem.W.specialIn K (.ref (He.ga K x)) "__getattribute__" = some (some (.builtin "type.__getattribute__"))) &&
  (match PySem.W.findCls K (.ref (He.ga K x)) (.type "type") "__init__" with
    | some (.val (.builtin i)) => decide (i = "ValueError.__init__")
    | _ => false))
/-- the places that the names reach, and that of the interpreter's own marks -/
def aS (g : Addr → Option Obj) (n : Nat) : List Addr := He.asD g n ++ [cStatics]
def obS (n : Nat) (fa : List He.Fa) (fn : List He.DefD) (ts : List He.Tab) (ex : PySem.W.Frag → Bool) (g : Addr → Option Obj) : He.AlX := (He.obsT fa fn ts (He.frT g (aS g n)), ex (He.frT g (aS g n)))
theorem obS_says {n : Nat} {fa : List He.Fa} {fn : List He.DefD} {ts : List He.Tab} {ex : PySem.W.Frag → Bool} {w : World} {h : Heap} (e : obS n fa fn ts ex h.get? = He.valX fn ts w) : He.SaysX fa fn ts [] ex w h (He.frT h.get? (aS h.get? n)) := by
  have e1 := congrArg Prod.fst e
  have e2 := congrArg Prod.snd e
  constructor
  · exact e1
  · exact e2
  all_goals
    intro p hp
    cases hp
def hookS (n : Nat) (fa : List He.Fa) (fn : List He.DefD) (ts : List He.Tab) (ex : PySem.W.Frag → Bool) : PySem.W.Hook :=
  { α := He.AlX, obs := fun s => obS n fa fn ts ex s.heap.get?, val := fun w => He.valX fn ts w, says := fun w h => ∃ K : PySem.W.Frag, K.In h ∧ He.SaysX fa fn ts [] ex w h K, of := fun _ _ e => ⟨_, He.frT_in, obS_says e⟩,
    keeps := by
      intro w h h2 z k
      obtain ⟨K, z1, z2⟩ := z
      exact ⟨K, PySem.W.Frag.In.keeps z1 k, ⟨z2.t, z2.more, z2.hd, z2.out, fun p hp => by cases hp⟩⟩ }
theorem obS_eq {n : Nat} {fa : List He.Fa} {fn : List He.DefD} {ts : List He.Tab} {ex : PySem.W.Frag → Bool} {g : Addr → Option Obj} {s : Shared} (h : ∀ a, g a = s.heap.get? a) : obS n fa fn ts ex g = (hookS n fa fn ts ex).obs s := by
  cases (funext h : g = s.heap.get?)
  rfl
/-- what isinstance asks of the class x -/
def isxC (K : PySem.W.Frag) (C : Addr) : Bool := xfB K C && (He.eqO (PySem.W.findIn K (.ref C) "__class__") (some (some (.builtin "object.__class__"))) && (He.eqO (PySem.W.specialIn K (.builtin "object.__class__") "__get__") (some (some (.builtin "getset_descriptor.__get__"))) &&
  (decide (PySem.W.takesIn K (.builtin "object.__class__") = some true) && (decide (PySem.W.mroIn K C (.type "object") = some true) && decide (PySem.W.kitOne K (.ref C) (.type "ValueError") = some true)))))
/-- no two of these classes are of one another; all are of p -/
def isxB (K : PySem.W.Frag) (p : Str) (xs : List Str) : Bool := (isxC K (He.ga K p) && xs.all fun y => decide (PySem.W.kitOne K (.ref (He.ga K p)) (.ref (He.ga K y)) = some false)) &&
  xs.all fun x => isxC K (He.ga K x) && (decide (PySem.W.kitOne K (.ref (He.ga K x)) (.ref (He.ga K p)) = some true) && xs.all fun y => decide (PySem.W.kitOne K (.ref (He.ga K x)) (.ref (He.ga K y)) = some (decide (y = x))))
def en0 : List Str := ["NoName", "NoState", "NoCall", "NoCoins", "CoinsOut", "HasCoins", "NotSure", "NotComing", "NoMost", "NoNames", "OtherCalls", "NoStand", "NoStruck", "NoContent", "TooWide", "NoSizes", "NoLayouts", "NoSize", "NoHand", "Busy"]
def en1 : List Str := ["NotBusy", "NoRule", "NoChoice", "OtherSizes", "NoCut", "NoBack", "NotPlain", "NoLook", "NoExpression", "NoLine", "NothingDone", "NoVault", "NoReader", "NoWish", "TooMany", "NoRow", "NoWeaving", "NoText"]
def en : List Str := en0 ++ en1
def ts : List He.Tab := []
def ex (K : PySem.W.Frag) : Bool := oexB K "NoVault" "part" && (oexB K "NoReader" "part" && (oexB K "NoWish" "part" && (oexB K "TooMany" "most" && (oexB K "NoRow" "index" && (oexB K "NoWeaving" "index" && (oexB K "NoText" "line" && (pinB K "PastError" && (isxB K "PastError" en))))))))
end M

section
set_option maxRecDepth 100000
namespace M
open PySem PySem.Spec PyProof.Rows L2
set_option maxHeartbeats 0
def nm0 : List PySem.Str := ["PastError", "NoName", "NoState", "NoCall", "NoCoins", "CoinsOut", "HasCoins", "NotSure", "NotComing", "NoMost", "NoNames", "OtherCalls", "NoStand", "NoStruck", "NoContent", "TooWide", "NoSizes", "NoLayouts", "NoSize", "NoHand", "Busy", "NotBusy", "NoRule", "NoChoice", "OtherSizes", "NoCut", "NoBack", "NotPlain", "NoLook", "NoExpression"]
def nm1 : List PySem.Str := ["NoLine", "NothingDone", "NoVault", "NoReader", "NoWish", "TooMany", "NoRow", "NoWeaving", "NoText", "_law_pool", "_law_draw", "_law_same", "_law_first_half", "_law_second_half", "_law_errors", "_law_thing", "_law_same_thing", "_law_fields_kept", "_law_caught"]
def names : List PySem.Str := nm0 ++ nm1
abbrev R : PySem.W.OpenRow := PySem.W.OpenLaw.row PySem.Challenge.rw_pastless_k00_errors_and_their_fields
abbrev hk : PySem.W.Hook := hookS 4 fa fn ts ex
def ob (s : PySem.W.SharedT) : He.AlX := obS 4 fa fn ts ex (HandSHeadRun.getT s)
theorem ob_eq (s : PySem.W.SharedT) : ob s = hk.obs s.abs := obS_eq (HandSHeadRun.getT_eq s)
theorem run_false (w : World) : HandSHeadRun.RunEq R (PySem.W.view R.prog [51]) hk ob 30000 names (w.withFollow "special-get-raises" false) := by
  intro os
  kernel_rfl
theorem run_true (w : World) : HandSHeadRun.RunEq R (PySem.W.view R.prog [51]) hk ob 30000 names (w.withFollow "special-get-raises" true) := by
  intro os
  kernel_rfl
theorem run (w : World) : HandSHeadRun.RunEq R (PySem.W.view R.prog [51]) hk ob 30000 names w :=
  PySem.W.byRow2 "special-get-raises" (P := fun w => HandSHeadRun.RunEq R (PySem.W.view R.prog [51]) hk ob 30000 names w) run_false run_true w
end M
end

namespace M
open PySem PySem.Spec PyProof.Rows L2
/-- what the top has written -/
structure Txt (w : World) (K : PySem.W.Frag) (mg : Str → Option Value) : Prop where
  says : ∃ h, He.SaysX fa fn ts [] ex w h K
  X : ∃ h : Heap, K.In h ∧ h.Ns mainGlobals mg
section
variable {P : Program} {w : World} {K : PySem.W.Frag} {mg : Str → Option Value} {base : Heap}
theorem Txt.fact (T : Txt w K mg) (i : Nat) {f : He.Fa} (h : fa[i]? = some f := by rfl) : f.ok K = true := by
  obtain ⟨_, s⟩ := T.says
  exact s.t.d.fact i h
theorem Txt.glo (T : Txt w K mg) (i : Nat) {x : Str} (h : fa[i]? = some (.glo x) := by rfl) : mg x = some (.ref (He.ga K x)) := by
  obtain ⟨_, X, G⟩ := T.X
  exact He.glo_ok X G (T.fact i h)
theorem Txt.fr (T : Txt w K mg) (i : Nat) {x : Str} (h : fa[i]? = some (.free x) := by rfl) : mg x = none := by
  obtain ⟨_, X, G⟩ := T.X
  exact He.free_ok X G (T.fact i h)
theorem Txt.int (T : Txt w K mg) (i : Nat) {x : Str} {n : Int} (h : fa[i]? = some (.int x n) := by rfl) : ∃ u, mg x = some u ∧ RelV (.int n) u := by
  obtain ⟨_, X, G⟩ := T.X
  obtain ⟨t, e⟩ := He.int_ok X G (T.fact i h)
  exact ⟨_, e, ⟨t, rfl⟩⟩
theorem Txt.fd (T : Txt w K mg) (i : Nat) {d : He.DefD} (h : fn[i]? = some d := by rfl) : ∃ f, FunD K d.name d.qual d.params d.body d.scope (d.dvs K) (d.kws K) (He.fAd K d.at_) f := by
  obtain ⟨_, s⟩ := T.says
  exact s.t.d.def_ i h
theorem Txt.ex (T : Txt w K mg) : ex K = true := by
  obtain ⟨_, s⟩ := T.says
  exact s.more
theorem Txt.tab (T : Txt w K mg) (i : Nat) {t : He.Tab} (h : ts[i]? = some t := by rfl) : ∃ es n, KDict K w (t.1 K) es n := by
  obtain ⟨_, s⟩ := T.says
  exact s.t.tab i h
end
/-! places of the facts: 0 glo "_law_pool"; 1 glo "_law_draw"; 2 glo "_law_same"; 3 glo "_law_first_half"; 4 glo "_law_second_half"; 5 glo "_law_errors"; 6 glo "_law_thing"; 7 glo "_law_same_thing"; 8 glo "_law_fields_kept"; 9 glo "_law_caught"; 10 glo "law"; 11 glo "PastError"; 12 glo "NoName"; 13 glo "NoState"; 14 glo "NoCall"; 15 glo "NoCoins"; 16 glo "CoinsOut"; 17 glo "HasCoins"; 18 glo "NotSure"; 19 glo "NotComing"; 20 glo "NoMost"; 21 glo "NoNames"; 22 glo "OtherCalls"; 23 glo "NoStand"; 24 glo "NoStruck"; 25 glo "NoContent"; 26 glo "TooWide"; 27 glo "NoSizes"; 28 glo "NoLayouts"; 29 glo "NoSize"; 30 glo "NoHand"; 31 glo "Busy"; 32 glo "NotBusy"; 33 glo "NoRule"; 34 glo "NoChoice"; 35 glo "OtherSizes"; 36 glo "NoCut"; 37 glo "NoBack"; 38 glo "NotPlain"; 39 glo "NoLook"; 40 glo "NoExpression"; 41 glo "NoLine"; 42 glo "NothingDone"; 43 glo "NoVault"; 44 glo "NoReader"; 45 glo "NoWish"; 46 glo "TooMany"; 47 glo "NoRow"; 48 glo "NoWeaving"; 49 glo "NoText"; 50 exc "PastError"; 51 exc "NoName"; 52 exc "NoState"; 53 exc "NoCall"; 54 exc "NoCoins"; 55 exc "CoinsOut"; 56 exc "HasCoins"; 57 exc "NotSure"; 58 exc "NotComing"; 59 exc "NoMost"; 60 exc "NoNames"; 61 exc "OtherCalls"; 62 exc "NoStand"; 63 exc "NoStruck"; 64 exc "NoContent"; 65 exc "TooWide"; 66 exc "NoSizes"; 67 exc "NoLayouts"; 68 exc "NoSize"; 69 exc "NoHand"; 70 exc "Busy"; 71 exc "NotBusy"; 72 exc "NoRule"; 73 exc "NoChoice"; 74 exc "OtherSizes"; 75 exc "NoCut"; 76 exc "NoBack"; 77 exc "NotPlain"; 78 exc "NoLook"; 79 exc "NoExpression"; 80 exc "NoLine"; 81 exc "NothingDone"; 82 exm "NoMost" "NoVault" false; 83 exm "NoVault" "NoVault" true; 84 exm "TooMany" "NoVault" false; 85 exm "NoRow" "NoVault" false; 86 exm "NoText" "NoVault" false; 87 exm "NoMost" "TooMany" false; 88 exm "NoVault" "TooMany" false; 89 exm "TooMany" "TooMany" true; 90 exm "NoRow" "TooMany" false; 91 exm "NoText" "TooMany" false; 92 exm "NoMost" "NoRow" false; 93 exm "NoVault" "NoRow" false; 94 exm "TooMany" "NoRow" false; 95 exm "NoRow" "NoRow" true; 96 exm "NoText" "NoRow" false; 97 exm "NoMost" "NoText" false; 98 exm "NoVault" "NoText" false; 99 exm "TooMany" "NoText" false; 100 exm "NoRow" "NoText" false; 101 exm "NoText" "NoText" true; 102 exm "NoMost" "PastError" true; 103 exm "NoVault" "PastError" true; 104 exm "TooMany" "PastError" true; 105 exm "NoRow" "PastError" true; 106 exm "NoText" "PastError" true; 107 free "len"; 108 free "isinstance"; 109 free "int"; 110 free "abs"; 111 free "tuple"; 112 free "list"; 113 free "str"; 114 free "bool"; 115 free "range"; 116 free "zip"; 117 free "enumerate"; 118 free "set"; 119 free "min"; 120 free "max"; 121 free "reversed"; 122 free "sorted"; 123 free "sum"; 124 free "dict"; 125 free "ValueError" -/
section
variable {P : Program} {w : World} {K : PySem.W.Frag} {mg : Str → Option Value} {base : Heap}
theorem Txt.g_law_pool (T : Txt w K mg) : mg "_law_pool" = some (.ref (He.ga K "_law_pool")) := T.glo 0
theorem Txt.g_law_draw (T : Txt w K mg) : mg "_law_draw" = some (.ref (He.ga K "_law_draw")) := T.glo 1
theorem Txt.g_law_same (T : Txt w K mg) : mg "_law_same" = some (.ref (He.ga K "_law_same")) := T.glo 2
theorem Txt.g_law_first_half (T : Txt w K mg) : mg "_law_first_half" = some (.ref (He.ga K "_law_first_half")) := T.glo 3
theorem Txt.g_law_second_half (T : Txt w K mg) : mg "_law_second_half" = some (.ref (He.ga K "_law_second_half")) := T.glo 4
theorem Txt.g_law_errors (T : Txt w K mg) : mg "_law_errors" = some (.ref (He.ga K "_law_errors")) := T.glo 5
theorem Txt.g_law_thing (T : Txt w K mg) : mg "_law_thing" = some (.ref (He.ga K "_law_thing")) := T.glo 6
theorem Txt.g_law_same_thing (T : Txt w K mg) : mg "_law_same_thing" = some (.ref (He.ga K "_law_same_thing")) := T.glo 7
theorem Txt.g_law_fields_kept (T : Txt w K mg) : mg "_law_fields_kept" = some (.ref (He.ga K "_law_fields_kept")) := T.glo 8
theorem Txt.g_law_caught (T : Txt w K mg) : mg "_law_caught" = some (.ref (He.ga K "_law_caught")) := T.glo 9
theorem Txt.g_law (T : Txt w K mg) : mg "law" = some (.ref (He.ga K "law")) := T.glo 10
theorem Txt.g_PastError (T : Txt w K mg) : mg "PastError" = some (.ref (He.ga K "PastError")) := T.glo 11
theorem Txt.g_NoName (T : Txt w K mg) : mg "NoName" = some (.ref (He.ga K "NoName")) := T.glo 12
theorem Txt.g_NoState (T : Txt w K mg) : mg "NoState" = some (.ref (He.ga K "NoState")) := T.glo 13
theorem Txt.g_NoCall (T : Txt w K mg) : mg "NoCall" = some (.ref (He.ga K "NoCall")) := T.glo 14
theorem Txt.g_NoCoins (T : Txt w K mg) : mg "NoCoins" = some (.ref (He.ga K "NoCoins")) := T.glo 15
theorem Txt.g_CoinsOut (T : Txt w K mg) : mg "CoinsOut" = some (.ref (He.ga K "CoinsOut")) := T.glo 16
theorem Txt.g_HasCoins (T : Txt w K mg) : mg "HasCoins" = some (.ref (He.ga K "HasCoins")) := T.glo 17
theorem Txt.g_NotSure (T : Txt w K mg) : mg "NotSure" = some (.ref (He.ga K "NotSure")) := T.glo 18
theorem Txt.g_NotComing (T : Txt w K mg) : mg "NotComing" = some (.ref (He.ga K "NotComing")) := T.glo 19
theorem Txt.g_NoMost (T : Txt w K mg) : mg "NoMost" = some (.ref (He.ga K "NoMost")) := T.glo 20
theorem Txt.g_NoNames (T : Txt w K mg) : mg "NoNames" = some (.ref (He.ga K "NoNames")) := T.glo 21
theorem Txt.g_OtherCalls (T : Txt w K mg) : mg "OtherCalls" = some (.ref (He.ga K "OtherCalls")) := T.glo 22
theorem Txt.g_NoStand (T : Txt w K mg) : mg "NoStand" = some (.ref (He.ga K "NoStand")) := T.glo 23
theorem Txt.g_NoStruck (T : Txt w K mg) : mg "NoStruck" = some (.ref (He.ga K "NoStruck")) := T.glo 24
theorem Txt.g_NoContent (T : Txt w K mg) : mg "NoContent" = some (.ref (He.ga K "NoContent")) := T.glo 25
theorem Txt.g_TooWide (T : Txt w K mg) : mg "TooWide" = some (.ref (He.ga K "TooWide")) := T.glo 26
theorem Txt.g_NoSizes (T : Txt w K mg) : mg "NoSizes" = some (.ref (He.ga K "NoSizes")) := T.glo 27
theorem Txt.g_NoLayouts (T : Txt w K mg) : mg "NoLayouts" = some (.ref (He.ga K "NoLayouts")) := T.glo 28
theorem Txt.g_NoSize (T : Txt w K mg) : mg "NoSize" = some (.ref (He.ga K "NoSize")) := T.glo 29
theorem Txt.g_NoHand (T : Txt w K mg) : mg "NoHand" = some (.ref (He.ga K "NoHand")) := T.glo 30
theorem Txt.g_Busy (T : Txt w K mg) : mg "Busy" = some (.ref (He.ga K "Busy")) := T.glo 31
theorem Txt.g_NotBusy (T : Txt w K mg) : mg "NotBusy" = some (.ref (He.ga K "NotBusy")) := T.glo 32
theorem Txt.g_NoRule (T : Txt w K mg) : mg "NoRule" = some (.ref (He.ga K "NoRule")) := T.glo 33
theorem Txt.g_NoChoice (T : Txt w K mg) : mg "NoChoice" = some (.ref (He.ga K "NoChoice")) := T.glo 34
theorem Txt.g_OtherSizes (T : Txt w K mg) : mg "OtherSizes" = some (.ref (He.ga K "OtherSizes")) := T.glo 35
theorem Txt.g_NoCut (T : Txt w K mg) : mg "NoCut" = some (.ref (He.ga K "NoCut")) := T.glo 36
theorem Txt.g_NoBack (T : Txt w K mg) : mg "NoBack" = some (.ref (He.ga K "NoBack")) := T.glo 37
theorem Txt.g_NotPlain (T : Txt w K mg) : mg "NotPlain" = some (.ref (He.ga K "NotPlain")) := T.glo 38
theorem Txt.g_NoLook (T : Txt w K mg) : mg "NoLook" = some (.ref (He.ga K "NoLook")) := T.glo 39
theorem Txt.g_NoExpression (T : Txt w K mg) : mg "NoExpression" = some (.ref (He.ga K "NoExpression")) := T.glo 40
theorem Txt.g_NoLine (T : Txt w K mg) : mg "NoLine" = some (.ref (He.ga K "NoLine")) := T.glo 41
theorem Txt.g_NothingDone (T : Txt w K mg) : mg "NothingDone" = some (.ref (He.ga K "NothingDone")) := T.glo 42
theorem Txt.g_NoVault (T : Txt w K mg) : mg "NoVault" = some (.ref (He.ga K "NoVault")) := T.glo 43
theorem Txt.g_NoReader (T : Txt w K mg) : mg "NoReader" = some (.ref (He.ga K "NoReader")) := T.glo 44
theorem Txt.g_NoWish (T : Txt w K mg) : mg "NoWish" = some (.ref (He.ga K "NoWish")) := T.glo 45
theorem Txt.g_TooMany (T : Txt w K mg) : mg "TooMany" = some (.ref (He.ga K "TooMany")) := T.glo 46
theorem Txt.g_NoRow (T : Txt w K mg) : mg "NoRow" = some (.ref (He.ga K "NoRow")) := T.glo 47
theorem Txt.g_NoWeaving (T : Txt w K mg) : mg "NoWeaving" = some (.ref (He.ga K "NoWeaving")) := T.glo 48
theorem Txt.g_NoText (T : Txt w K mg) : mg "NoText" = some (.ref (He.ga K "NoText")) := T.glo 49
theorem Txt.x_PastError (T : Txt w K mg) : PySem.W.excIn K (He.ga K "PastError") He.veBase "ValueError.__new__" = true ∧ PySem.W.keepIn K (.ref (He.ga K "PastError")) = true ∧ PySem.W.subIn K (.ref (He.ga K "PastError")) (.type "BaseException") = some true ∧ PySem.W.typeIn K (.ref (He.ga K "PastError")) = some (.type "type") := He.exc_ok (T.fact 50 (f := .exc "PastError"))
theorem Txt.x_NoName (T : Txt w K mg) : PySem.W.excIn K (He.ga K "NoName") He.veBase "ValueError.__new__" = true ∧ PySem.W.keepIn K (.ref (He.ga K "NoName")) = true ∧ PySem.W.subIn K (.ref (He.ga K "NoName")) (.type "BaseException") = some true ∧ PySem.W.typeIn K (.ref (He.ga K "NoName")) = some (.type "type") := He.exc_ok (T.fact 51 (f := .exc "NoName"))
theorem Txt.x_NoState (T : Txt w K mg) : PySem.W.excIn K (He.ga K "NoState") He.veBase "ValueError.__new__" = true ∧ PySem.W.keepIn K (.ref (He.ga K "NoState")) = true ∧ PySem.W.subIn K (.ref (He.ga K "NoState")) (.type "BaseException") = some true ∧ PySem.W.typeIn K (.ref (He.ga K "NoState")) = some (.type "type") := He.exc_ok (T.fact 52 (f := .exc "NoState"))
theorem Txt.x_NoCall (T : Txt w K mg) : PySem.W.excIn K (He.ga K "NoCall") He.veBase "ValueError.__new__" = true ∧ PySem.W.keepIn K (.ref (He.ga K "NoCall")) = true ∧ PySem.W.subIn K (.ref (He.ga K "NoCall")) (.type "BaseException") = some true ∧ PySem.W.typeIn K (.ref (He.ga K "NoCall")) = some (.type "type") := He.exc_ok (T.fact 53 (f := .exc "NoCall"))
theorem Txt.x_NoCoins (T : Txt w K mg) : PySem.W.excIn K (He.ga K "NoCoins") He.veBase "ValueError.__new__" = true ∧ PySem.W.keepIn K (.ref (He.ga K "NoCoins")) = true ∧ PySem.W.subIn K (.ref (He.ga K "NoCoins")) (.type "BaseException") = some true ∧ PySem.W.typeIn K (.ref (He.ga K "NoCoins")) = some (.type "type") := He.exc_ok (T.fact 54 (f := .exc "NoCoins"))
theorem Txt.x_CoinsOut (T : Txt w K mg) : PySem.W.excIn K (He.ga K "CoinsOut") He.veBase "ValueError.__new__" = true ∧ PySem.W.keepIn K (.ref (He.ga K "CoinsOut")) = true ∧ PySem.W.subIn K (.ref (He.ga K "CoinsOut")) (.type "BaseException") = some true ∧ PySem.W.typeIn K (.ref (He.ga K "CoinsOut")) = some (.type "type") := He.exc_ok (T.fact 55 (f := .exc "CoinsOut"))
theorem Txt.x_HasCoins (T : Txt w K mg) : PySem.W.excIn K (He.ga K "HasCoins") He.veBase "ValueError.__new__" = true ∧ PySem.W.keepIn K (.ref (He.ga K "HasCoins")) = true ∧ PySem.W.subIn K (.ref (He.ga K "HasCoins")) (.type "BaseException") = some true ∧ PySem.W.typeIn K (.ref (He.ga K "HasCoins")) = some (.type "type") := He.exc_ok (T.fact 56 (f := .exc "HasCoins"))
theorem Txt.x_NotSure (T : Txt w K mg) : PySem.W.excIn K (He.ga K "NotSure") He.veBase "ValueError.__new__" = true ∧ PySem.W.keepIn K (.ref (He.ga K "NotSure")) = true ∧ PySem.W.subIn K (.ref (He.ga K "NotSure")) (.type "BaseException") = some true ∧ PySem.W.typeIn K (.ref (He.ga K "NotSure")) = some (.type "type") := He.exc_ok (T.fact 57 (f := .exc "NotSure"))
theorem Txt.x_NotComing (T : Txt w K mg) : PySem.W.excIn K (He.ga K "NotComing") He.veBase "ValueError.__new__" = true ∧ PySem.W.keepIn K (.ref (He.ga K "NotComing")) = true ∧ PySem.W.subIn K (.ref (He.ga K "NotComing")) (.type "BaseException") = some true ∧ PySem.W.typeIn K (.ref (He.ga K "NotComing")) = some (.type "type") := He.exc_ok (T.fact 58 (f := .exc "NotComing"))
theorem Txt.x_NoMost (T : Txt w K mg) : PySem.W.excIn K (He.ga K "NoMost") He.veBase "ValueError.__new__" = true ∧ PySem.W.keepIn K (.ref (He.ga K "NoMost")) = true ∧ PySem.W.subIn K (.ref (He.ga K "NoMost")) (.type "BaseException") = some true ∧ PySem.W.typeIn K (.ref (He.ga K "NoMost")) = some (.type "type") := He.exc_ok (T.fact 59 (f := .exc "NoMost"))
theorem Txt.x_NoNames (T : Txt w K mg) : PySem.W.excIn K (He.ga K "NoNames") He.veBase "ValueError.__new__" = true ∧ PySem.W.keepIn K (.ref (He.ga K "NoNames")) = true ∧ PySem.W.subIn K (.ref (He.ga K "NoNames")) (.type "BaseException") = some true ∧ PySem.W.typeIn K (.ref (He.ga K "NoNames")) = some (.type "type") := He.exc_ok (T.fact 60 (f := .exc "NoNames"))
theorem Txt.x_OtherCalls (T : Txt w K mg) : PySem.W.excIn K (He.ga K "OtherCalls") He.veBase "ValueError.__new__" = true ∧ PySem.W.keepIn K (.ref (He.ga K "OtherCalls")) = true ∧ PySem.W.subIn K (.ref (He.ga K "OtherCalls")) (.type "BaseException") = some true ∧ PySem.W.typeIn K (.ref (He.ga K "OtherCalls")) = some (.type "type") := He.exc_ok (T.fact 61 (f := .exc "OtherCalls"))
theorem Txt.x_NoStand (T : Txt w K mg) : PySem.W.excIn K (He.ga K "NoStand") He.veBase "ValueError.__new__" = true ∧ PySem.W.keepIn K (.ref (He.ga K "NoStand")) = true ∧ PySem.W.subIn K (.ref (He.ga K "NoStand")) (.type "BaseException") = some true ∧ PySem.W.typeIn K (.ref (He.ga K "NoStand")) = some (.type "type") := He.exc_ok (T.fact 62 (f := .exc "NoStand"))
theorem Txt.x_NoStruck (T : Txt w K mg) : PySem.W.excIn K (He.ga K "NoStruck") He.veBase "ValueError.__new__" = true ∧ PySem.W.keepIn K (.ref (He.ga K "NoStruck")) = true ∧ PySem.W.subIn K (.ref (He.ga K "NoStruck")) (.type "BaseException") = some true ∧ PySem.W.typeIn K (.ref (He.ga K "NoStruck")) = some (.type "type") := He.exc_ok (T.fact 63 (f := .exc "NoStruck"))
theorem Txt.x_NoContent (T : Txt w K mg) : PySem.W.excIn K (He.ga K "NoContent") He.veBase "ValueError.__new__" = true ∧ PySem.W.keepIn K (.ref (He.ga K "NoContent")) = true ∧ PySem.W.subIn K (.ref (He.ga K "NoContent")) (.type "BaseException") = some true ∧ PySem.W.typeIn K (.ref (He.ga K "NoContent")) = some (.type "type") := He.exc_ok (T.fact 64 (f := .exc "NoContent"))
theorem Txt.x_TooWide (T : Txt w K mg) : PySem.W.excIn K (He.ga K "TooWide") He.veBase "ValueError.__new__" = true ∧ PySem.W.keepIn K (.ref (He.ga K "TooWide")) = true ∧ PySem.W.subIn K (.ref (He.ga K "TooWide")) (.type "BaseException") = some true ∧ PySem.W.typeIn K (.ref (He.ga K "TooWide")) = some (.type "type") := He.exc_ok (T.fact 65 (f := .exc "TooWide"))
theorem Txt.x_NoSizes (T : Txt w K mg) : PySem.W.excIn K (He.ga K "NoSizes") He.veBase "ValueError.__new__" = true ∧ PySem.W.keepIn K (.ref (He.ga K "NoSizes")) = true ∧ PySem.W.subIn K (.ref (He.ga K "NoSizes")) (.type "BaseException") = some true ∧ PySem.W.typeIn K (.ref (He.ga K "NoSizes")) = some (.type "type") := He.exc_ok (T.fact 66 (f := .exc "NoSizes"))
theorem Txt.x_NoLayouts (T : Txt w K mg) : PySem.W.excIn K (He.ga K "NoLayouts") He.veBase "ValueError.__new__" = true ∧ PySem.W.keepIn K (.ref (He.ga K "NoLayouts")) = true ∧ PySem.W.subIn K (.ref (He.ga K "NoLayouts")) (.type "BaseException") = some true ∧ PySem.W.typeIn K (.ref (He.ga K "NoLayouts")) = some (.type "type") := He.exc_ok (T.fact 67 (f := .exc "NoLayouts"))
theorem Txt.x_NoSize (T : Txt w K mg) : PySem.W.excIn K (He.ga K "NoSize") He.veBase "ValueError.__new__" = true ∧ PySem.W.keepIn K (.ref (He.ga K "NoSize")) = true ∧ PySem.W.subIn K (.ref (He.ga K "NoSize")) (.type "BaseException") = some true ∧ PySem.W.typeIn K (.ref (He.ga K "NoSize")) = some (.type "type") := He.exc_ok (T.fact 68 (f := .exc "NoSize"))
theorem Txt.x_NoHand (T : Txt w K mg) : PySem.W.excIn K (He.ga K "NoHand") He.veBase "ValueError.__new__" = true ∧ PySem.W.keepIn K (.ref (He.ga K "NoHand")) = true ∧ PySem.W.subIn K (.ref (He.ga K "NoHand")) (.type "BaseException") = some true ∧ PySem.W.typeIn K (.ref (He.ga K "NoHand")) = some (.type "type") := He.exc_ok (T.fact 69 (f := .exc "NoHand"))
theorem Txt.x_Busy (T : Txt w K mg) : PySem.W.excIn K (He.ga K "Busy") He.veBase "ValueError.__new__" = true ∧ PySem.W.keepIn K (.ref (He.ga K "Busy")) = true ∧ PySem.W.subIn K (.ref (He.ga K "Busy")) (.type "BaseException") = some true ∧ PySem.W.typeIn K (.ref (He.ga K "Busy")) = some (.type "type") := He.exc_ok (T.fact 70 (f := .exc "Busy"))
theorem Txt.x_NotBusy (T : Txt w K mg) : PySem.W.excIn K (He.ga K "NotBusy") He.veBase "ValueError.__new__" = true ∧ PySem.W.keepIn K (.ref (He.ga K "NotBusy")) = true ∧ PySem.W.subIn K (.ref (He.ga K "NotBusy")) (.type "BaseException") = some true ∧ PySem.W.typeIn K (.ref (He.ga K "NotBusy")) = some (.type "type") := He.exc_ok (T.fact 71 (f := .exc "NotBusy"))
theorem Txt.x_NoRule (T : Txt w K mg) : PySem.W.excIn K (He.ga K "NoRule") He.veBase "ValueError.__new__" = true ∧ PySem.W.keepIn K (.ref (He.ga K "NoRule")) = true ∧ PySem.W.subIn K (.ref (He.ga K "NoRule")) (.type "BaseException") = some true ∧ PySem.W.typeIn K (.ref (He.ga K "NoRule")) = some (.type "type") := He.exc_ok (T.fact 72 (f := .exc "NoRule"))
theorem Txt.x_NoChoice (T : Txt w K mg) : PySem.W.excIn K (He.ga K "NoChoice") He.veBase "ValueError.__new__" = true ∧ PySem.W.keepIn K (.ref (He.ga K "NoChoice")) = true ∧ PySem.W.subIn K (.ref (He.ga K "NoChoice")) (.type "BaseException") = some true ∧ PySem.W.typeIn K (.ref (He.ga K "NoChoice")) = some (.type "type") := He.exc_ok (T.fact 73 (f := .exc "NoChoice"))
theorem Txt.x_OtherSizes (T : Txt w K mg) : PySem.W.excIn K (He.ga K "OtherSizes") He.veBase "ValueError.__new__" = true ∧ PySem.W.keepIn K (.ref (He.ga K "OtherSizes")) = true ∧ PySem.W.subIn K (.ref (He.ga K "OtherSizes")) (.type "BaseException") = some true ∧ PySem.W.typeIn K (.ref (He.ga K "OtherSizes")) = some (.type "type") := He.exc_ok (T.fact 74 (f := .exc "OtherSizes"))
theorem Txt.x_NoCut (T : Txt w K mg) : PySem.W.excIn K (He.ga K "NoCut") He.veBase "ValueError.__new__" = true ∧ PySem.W.keepIn K (.ref (He.ga K "NoCut")) = true ∧ PySem.W.subIn K (.ref (He.ga K "NoCut")) (.type "BaseException") = some true ∧ PySem.W.typeIn K (.ref (He.ga K "NoCut")) = some (.type "type") := He.exc_ok (T.fact 75 (f := .exc "NoCut"))
theorem Txt.x_NoBack (T : Txt w K mg) : PySem.W.excIn K (He.ga K "NoBack") He.veBase "ValueError.__new__" = true ∧ PySem.W.keepIn K (.ref (He.ga K "NoBack")) = true ∧ PySem.W.subIn K (.ref (He.ga K "NoBack")) (.type "BaseException") = some true ∧ PySem.W.typeIn K (.ref (He.ga K "NoBack")) = some (.type "type") := He.exc_ok (T.fact 76 (f := .exc "NoBack"))
theorem Txt.x_NotPlain (T : Txt w K mg) : PySem.W.excIn K (He.ga K "NotPlain") He.veBase "ValueError.__new__" = true ∧ PySem.W.keepIn K (.ref (He.ga K "NotPlain")) = true ∧ PySem.W.subIn K (.ref (He.ga K "NotPlain")) (.type "BaseException") = some true ∧ PySem.W.typeIn K (.ref (He.ga K "NotPlain")) = some (.type "type") := He.exc_ok (T.fact 77 (f := .exc "NotPlain"))
theorem Txt.x_NoLook (T : Txt w K mg) : PySem.W.excIn K (He.ga K "NoLook") He.veBase "ValueError.__new__" = true ∧ PySem.W.keepIn K (.ref (He.ga K "NoLook")) = true ∧ PySem.W.subIn K (.ref (He.ga K "NoLook")) (.type "BaseException") = some true ∧ PySem.W.typeIn K (.ref (He.ga K "NoLook")) = some (.type "type") := He.exc_ok (T.fact 78 (f := .exc "NoLook"))
theorem Txt.x_NoExpression (T : Txt w K mg) : PySem.W.excIn K (He.ga K "NoExpression") He.veBase "ValueError.__new__" = true ∧ PySem.W.keepIn K (.ref (He.ga K "NoExpression")) = true ∧ PySem.W.subIn K (.ref (He.ga K "NoExpression")) (.type "BaseException") = some true ∧ PySem.W.typeIn K (.ref (He.ga K "NoExpression")) = some (.type "type") := He.exc_ok (T.fact 79 (f := .exc "NoExpression"))
theorem Txt.x_NoLine (T : Txt w K mg) : PySem.W.excIn K (He.ga K "NoLine") He.veBase "ValueError.__new__" = true ∧ PySem.W.keepIn K (.ref (He.ga K "NoLine")) = true ∧ PySem.W.subIn K (.ref (He.ga K "NoLine")) (.type "BaseException") = some true ∧ PySem.W.typeIn K (.ref (He.ga K "NoLine")) = some (.type "type") := He.exc_ok (T.fact 80 (f := .exc "NoLine"))
theorem Txt.x_NothingDone (T : Txt w K mg) : PySem.W.excIn K (He.ga K "NothingDone") He.veBase "ValueError.__new__" = true ∧ PySem.W.keepIn K (.ref (He.ga K "NothingDone")) = true ∧ PySem.W.subIn K (.ref (He.ga K "NothingDone")) (.type "BaseException") = some true ∧ PySem.W.typeIn K (.ref (He.ga K "NothingDone")) = some (.type "type") := He.exc_ok (T.fact 81 (f := .exc "NothingDone"))
theorem Txt.xm_NoMost_NoVault (T : Txt w K mg) : PySem.W.exmOne K (.ref (He.ga K "NoMost")) (.ref (He.ga K "NoVault")) = some false := of_decide_eq_true (T.fact 82 (f := .exm "NoMost" "NoVault" false))
theorem Txt.xm_NoVault (T : Txt w K mg) : PySem.W.exmOne K (.ref (He.ga K "NoVault")) (.ref (He.ga K "NoVault")) = some true := of_decide_eq_true (T.fact 83 (f := .exm "NoVault" "NoVault" true))
theorem Txt.xm_TooMany_NoVault (T : Txt w K mg) : PySem.W.exmOne K (.ref (He.ga K "TooMany")) (.ref (He.ga K "NoVault")) = some false := of_decide_eq_true (T.fact 84 (f := .exm "TooMany" "NoVault" false))
theorem Txt.xm_NoRow_NoVault (T : Txt w K mg) : PySem.W.exmOne K (.ref (He.ga K "NoRow")) (.ref (He.ga K "NoVault")) = some false := of_decide_eq_true (T.fact 85 (f := .exm "NoRow" "NoVault" false))
theorem Txt.xm_NoText_NoVault (T : Txt w K mg) : PySem.W.exmOne K (.ref (He.ga K "NoText")) (.ref (He.ga K "NoVault")) = some false := of_decide_eq_true (T.fact 86 (f := .exm "NoText" "NoVault" false))
theorem Txt.xm_NoMost_TooMany (T : Txt w K mg) : PySem.W.exmOne K (.ref (He.ga K "NoMost")) (.ref (He.ga K "TooMany")) = some false := of_decide_eq_true (T.fact 87 (f := .exm "NoMost" "TooMany" false))
theorem Txt.xm_NoVault_TooMany (T : Txt w K mg) : PySem.W.exmOne K (.ref (He.ga K "NoVault")) (.ref (He.ga K "TooMany")) = some false := of_decide_eq_true (T.fact 88 (f := .exm "NoVault" "TooMany" false))
theorem Txt.xm_TooMany (T : Txt w K mg) : PySem.W.exmOne K (.ref (He.ga K "TooMany")) (.ref (He.ga K "TooMany")) = some true := of_decide_eq_true (T.fact 89 (f := .exm "TooMany" "TooMany" true))
theorem Txt.xm_NoRow_TooMany (T : Txt w K mg) : PySem.W.exmOne K (.ref (He.ga K "NoRow")) (.ref (He.ga K "TooMany")) = some false := of_decide_eq_true (T.fact 90 (f := .exm "NoRow" "TooMany" false))
theorem Txt.xm_NoText_TooMany (T : Txt w K mg) : PySem.W.exmOne K (.ref (He.ga K "NoText")) (.ref (He.ga K "TooMany")) = some false := of_decide_eq_true (T.fact 91 (f := .exm "NoText" "TooMany" false))
theorem Txt.xm_NoMost_NoRow (T : Txt w K mg) : PySem.W.exmOne K (.ref (He.ga K "NoMost")) (.ref (He.ga K "NoRow")) = some false := of_decide_eq_true (T.fact 92 (f := .exm "NoMost" "NoRow" false))
theorem Txt.xm_NoVault_NoRow (T : Txt w K mg) : PySem.W.exmOne K (.ref (He.ga K "NoVault")) (.ref (He.ga K "NoRow")) = some false := of_decide_eq_true (T.fact 93 (f := .exm "NoVault" "NoRow" false))
theorem Txt.xm_TooMany_NoRow (T : Txt w K mg) : PySem.W.exmOne K (.ref (He.ga K "TooMany")) (.ref (He.ga K "NoRow")) = some false := of_decide_eq_true (T.fact 94 (f := .exm "TooMany" "NoRow" false))
theorem Txt.xm_NoRow (T : Txt w K mg) : PySem.W.exmOne K (.ref (He.ga K "NoRow")) (.ref (He.ga K "NoRow")) = some true := of_decide_eq_true (T.fact 95 (f := .exm "NoRow" "NoRow" true))
theorem Txt.xm_NoText_NoRow (T : Txt w K mg) : PySem.W.exmOne K (.ref (He.ga K "NoText")) (.ref (He.ga K "NoRow")) = some false := of_decide_eq_true (T.fact 96 (f := .exm "NoText" "NoRow" false))
theorem Txt.xm_NoMost_NoText (T : Txt w K mg) : PySem.W.exmOne K (.ref (He.ga K "NoMost")) (.ref (He.ga K "NoText")) = some false := of_decide_eq_true (T.fact 97 (f := .exm "NoMost" "NoText" false))
theorem Txt.xm_NoVault_NoText (T : Txt w K mg) : PySem.W.exmOne K (.ref (He.ga K "NoVault")) (.ref (He.ga K "NoText")) = some false := of_decide_eq_true (T.fact 98 (f := .exm "NoVault" "NoText" false))
theorem Txt.xm_TooMany_NoText (T : Txt w K mg) : PySem.W.exmOne K (.ref (He.ga K "TooMany")) (.ref (He.ga K "NoText")) = some false := of_decide_eq_true (T.fact 99 (f := .exm "TooMany" "NoText" false))
theorem Txt.xm_NoRow_NoText (T : Txt w K mg) : PySem.W.exmOne K (.ref (He.ga K "NoRow")) (.ref (He.ga K "NoText")) = some false := of_decide_eq_true (T.fact 100 (f := .exm "NoRow" "NoText" false))
theorem Txt.xm_NoText (T : Txt w K mg) : PySem.W.exmOne K (.ref (He.ga K "NoText")) (.ref (He.ga K "NoText")) = some true := of_decide_eq_true (T.fact 101 (f := .exm "NoText" "NoText" true))
theorem Txt.xm_NoMost_PastError (T : Txt w K mg) : PySem.W.exmOne K (.ref (He.ga K "NoMost")) (.ref (He.ga K "PastError")) = some true := of_decide_eq_true (T.fact 102 (f := .exm "NoMost" "PastError" true))
theorem Txt.xm_NoVault_PastError (T : Txt w K mg) : PySem.W.exmOne K (.ref (He.ga K "NoVault")) (.ref (He.ga K "PastError")) = some true := of_decide_eq_true (T.fact 103 (f := .exm "NoVault" "PastError" true))
theorem Txt.xm_TooMany_PastError (T : Txt w K mg) : PySem.W.exmOne K (.ref (He.ga K "TooMany")) (.ref (He.ga K "PastError")) = some true := of_decide_eq_true (T.fact 104 (f := .exm "TooMany" "PastError" true))
theorem Txt.xm_NoRow_PastError (T : Txt w K mg) : PySem.W.exmOne K (.ref (He.ga K "NoRow")) (.ref (He.ga K "PastError")) = some true := of_decide_eq_true (T.fact 105 (f := .exm "NoRow" "PastError" true))
theorem Txt.xm_NoText_PastError (T : Txt w K mg) : PySem.W.exmOne K (.ref (He.ga K "NoText")) (.ref (He.ga K "PastError")) = some true := of_decide_eq_true (T.fact 106 (f := .exm "NoText" "PastError" true))
theorem Txt.b_len (T : Txt w K mg) : mg "len" = none := T.fr 107
theorem Txt.b_isinstance (T : Txt w K mg) : mg "isinstance" = none := T.fr 108
theorem Txt.b_int (T : Txt w K mg) : mg "int" = none := T.fr 109
theorem Txt.b_abs (T : Txt w K mg) : mg "abs" = none := T.fr 110
theorem Txt.b_tuple (T : Txt w K mg) : mg "tuple" = none := T.fr 111
theorem Txt.b_list (T : Txt w K mg) : mg "list" = none := T.fr 112
theorem Txt.b_str (T : Txt w K mg) : mg "str" = none := T.fr 113
theorem Txt.b_bool (T : Txt w K mg) : mg "bool" = none := T.fr 114
theorem Txt.b_range (T : Txt w K mg) : mg "range" = none := T.fr 115
theorem Txt.b_zip (T : Txt w K mg) : mg "zip" = none := T.fr 116
theorem Txt.b_enumerate (T : Txt w K mg) : mg "enumerate" = none := T.fr 117
theorem Txt.b_set (T : Txt w K mg) : mg "set" = none := T.fr 118
theorem Txt.b_min (T : Txt w K mg) : mg "min" = none := T.fr 119
theorem Txt.b_max (T : Txt w K mg) : mg "max" = none := T.fr 120
theorem Txt.b_reversed (T : Txt w K mg) : mg "reversed" = none := T.fr 121
theorem Txt.b_sorted (T : Txt w K mg) : mg "sorted" = none := T.fr 122
theorem Txt.b_sum (T : Txt w K mg) : mg "sum" = none := T.fr 123
theorem Txt.b_dict (T : Txt w K mg) : mg "dict" = none := T.fr 124
theorem Txt.b_ValueError (T : Txt w K mg) : mg "ValueError" = none := T.fr 125
theorem Txt.f_NoVault_init (T : Txt w K mg) : ∃ f, FunD K "__init__" "NoVault.__init__" (defArgs s_NoVault_init) (defBody s_NoVault_init) (defScope s_NoVault_init) [] [] (He.fAd K ("NoVault", some "__init__")) f := T.fd 0
theorem Txt.f_NoReader_init (T : Txt w K mg) : ∃ f, FunD K "__init__" "NoReader.__init__" (defArgs s_NoReader_init) (defBody s_NoReader_init) (defScope s_NoReader_init) [] [] (He.fAd K ("NoReader", some "__init__")) f := T.fd 1
theorem Txt.f_NoWish_init (T : Txt w K mg) : ∃ f, FunD K "__init__" "NoWish.__init__" (defArgs s_NoWish_init) (defBody s_NoWish_init) (defScope s_NoWish_init) [] [] (He.fAd K ("NoWish", some "__init__")) f := T.fd 2
theorem Txt.f_TooMany_init (T : Txt w K mg) : ∃ f, FunD K "__init__" "TooMany.__init__" (defArgs s_TooMany_init) (defBody s_TooMany_init) (defScope s_TooMany_init) [] [] (He.fAd K ("TooMany", some "__init__")) f := T.fd 3
theorem Txt.f_NoRow_init (T : Txt w K mg) : ∃ f, FunD K "__init__" "NoRow.__init__" (defArgs s_NoRow_init) (defBody s_NoRow_init) (defScope s_NoRow_init) [] [] (He.fAd K ("NoRow", some "__init__")) f := T.fd 4
theorem Txt.f_NoWeaving_init (T : Txt w K mg) : ∃ f, FunD K "__init__" "NoWeaving.__init__" (defArgs s_NoWeaving_init) (defBody s_NoWeaving_init) (defScope s_NoWeaving_init) [] [] (He.fAd K ("NoWeaving", some "__init__")) f := T.fd 5
theorem Txt.f_NoText_init (T : Txt w K mg) : ∃ f, FunD K "__init__" "NoText.__init__" (defArgs s_NoText_init) (defBody s_NoText_init) (defScope s_NoText_init) [] [] (He.fAd K ("NoText", some "__init__")) f := T.fd 6
theorem Txt.f_l_pool (T : Txt w K mg) : ∃ f, FunD K "_law_pool" "_law_pool" (defArgs s_l_pool) (defBody s_l_pool) (defScope s_l_pool) [] [] (He.fAd K ("_law_pool", none)) f := T.fd 7
theorem Txt.f_l_draw (T : Txt w K mg) : ∃ f, FunD K "_law_draw" "_law_draw" (defArgs s_l_draw) (defBody s_l_draw) (defScope s_l_draw) [] [] (He.fAd K ("_law_draw", none)) f := T.fd 8
theorem Txt.f_l_same (T : Txt w K mg) : ∃ f, FunD K "_law_same" "_law_same" (defArgs s_l_same) (defBody s_l_same) (defScope s_l_same) [] [] (He.fAd K ("_law_same", none)) f := T.fd 9
theorem Txt.f_l_first_half (T : Txt w K mg) : ∃ f, FunD K "_law_first_half" "_law_first_half" (defArgs s_l_first_half) (defBody s_l_first_half) (defScope s_l_first_half) [] [] (He.fAd K ("_law_first_half", none)) f := T.fd 10
theorem Txt.f_l_second_half (T : Txt w K mg) : ∃ f, FunD K "_law_second_half" "_law_second_half" (defArgs s_l_second_half) (defBody s_l_second_half) (defScope s_l_second_half) [] [] (He.fAd K ("_law_second_half", none)) f := T.fd 11
theorem Txt.f_l_errors (T : Txt w K mg) : ∃ f, FunD K "_law_errors" "_law_errors" (defArgs s_l_errors) (defBody s_l_errors) (defScope s_l_errors) [] [] (He.fAd K ("_law_errors", none)) f := T.fd 12
theorem Txt.f_l_thing (T : Txt w K mg) : ∃ f, FunD K "_law_thing" "_law_thing" (defArgs s_l_thing) (defBody s_l_thing) (defScope s_l_thing) [] [] (He.fAd K ("_law_thing", none)) f := T.fd 13
theorem Txt.f_l_same_thing (T : Txt w K mg) : ∃ f, FunD K "_law_same_thing" "_law_same_thing" (defArgs s_l_same_thing) (defBody s_l_same_thing) (defScope s_l_same_thing) [] [] (He.fAd K ("_law_same_thing", none)) f := T.fd 14
theorem Txt.f_l_fields_kept (T : Txt w K mg) : ∃ f, FunD K "_law_fields_kept" "_law_fields_kept" (defArgs s_l_fields_kept) (defBody s_l_fields_kept) (defScope s_l_fields_kept) [] [] (He.fAd K ("_law_fields_kept", none)) f := T.fd 15
theorem Txt.f_l_caught (T : Txt w K mg) : ∃ f, FunD K "_law_caught" "_law_caught" (defArgs s_l_caught) (defBody s_l_caught) (defScope s_l_caught) [] [] (He.fAd K ("_law_caught", none)) f := T.fd 16
theorem Txt.f_law (T : Txt w K mg) : ∃ f, FunD K "law" "law" (defArgs s_law) (defBody s_law) (defScope s_law) [] [] (He.fAd K ("law", none)) f := T.fd 17
theorem Txt.e_NoVault (T : Txt w K mg) : oexB K "NoVault" "part" = true := (He.ba T.ex).1
theorem Txt.e_NoReader (T : Txt w K mg) : oexB K "NoReader" "part" = true := (He.ba (He.ba T.ex).2).1
theorem Txt.e_NoWish (T : Txt w K mg) : oexB K "NoWish" "part" = true := (He.ba (He.ba (He.ba T.ex).2).2).1
theorem Txt.e_TooMany (T : Txt w K mg) : oexB K "TooMany" "most" = true := (He.ba (He.ba (He.ba (He.ba T.ex).2).2).2).1
theorem Txt.e_NoRow (T : Txt w K mg) : oexB K "NoRow" "index" = true := (He.ba (He.ba (He.ba (He.ba (He.ba T.ex).2).2).2).2).1
theorem Txt.e_NoWeaving (T : Txt w K mg) : oexB K "NoWeaving" "index" = true := (He.ba (He.ba (He.ba (He.ba (He.ba (He.ba T.ex).2).2).2).2).2).1
theorem Txt.e_NoText (T : Txt w K mg) : oexB K "NoText" "line" = true := (He.ba (He.ba (He.ba (He.ba (He.ba (He.ba (He.ba T.ex).2).2).2).2).2).2).1
theorem Txt.e_PastError (T : Txt w K mg) : pinB K "PastError" = true := (He.ba (He.ba (He.ba (He.ba (He.ba (He.ba (He.ba (He.ba T.ex).2).2).2).2).2).2).2).1
theorem Txt.e_isx (T : Txt w K mg) : isxB K "PastError" en = true := (He.ba (He.ba (He.ba (He.ba (He.ba (He.ba (He.ba (He.ba T.ex).2).2).2).2).2).2).2).2
end
end M

set_option Elab.async false
set_option linter.all false
set_option maxRecDepth 100000
set_option maxHeartbeats 2000000
namespace M
open PySem PySem.Spec PyProof.Rows L2
/-! ### defs by their names, what they promise -/
/-- the global name x holds a def that keeps sp at level k -/
structure Ca (P : Program) (w : World) (K : PySem.W.Frag) (mg : Str → Option Value) (base : Heap) (k : Nat) (x : Str) (sp : Sp) : Prop where
  ex : ∃ (f : Addr) (fd : FuncData) (ps : List Str), FnOk P w K mg base CX0 k f fd ps sp ∧ mg x = some (.ref f) ∧ PySem.W.keepIn K (.ref f) = true ∧ Binds K fd ps []
/-- a method of the class C -/
structure Me (P : Program) (w : World) (K : PySem.W.Frag) (mg : Str → Option Value) (base : Heap) (k : Nat) (C : Addr) (m : Str) (sp : Sp) : Prop where
  ex : ∃ (f : Addr) (fd : FuncData) (ps : List Str), Cls K C ∧ Meth K C m f ∧ FnOk P w K mg base CX0 k f fd ps sp ∧ Binds K fd ps []
/-- the class x is made by its __init__ -/
structure Ma (P : Program) (w : World) (K : PySem.W.Frag) (mg : Str → Option Value) (base : Heap) (k : Nat) (x : Str) (C : Addr) (sp : Sp) : Prop where
  ex : ∃ (f : Addr) (fd : FuncData) (ps : List Str), Mk K C f ∧ FnOk P w K mg base CX0 k f fd ps sp ∧ mg x = some (.ref C) ∧ Binds K fd ps []
section
variable {P : Program} {w : World} {K : PySem.W.Frag} {mg : Str → Option Value} {base : Heap} {x m q : Str} {st : Stmt} {N ps : List Str} {k : Nat} {sp : Sp} {C f : Addr}
abbrev BindsH (x q : Str) (st : Stmt) (ps : List Str) : Prop := ∀ (kV doc pm : Value) (an : Option Addr) (cdv ct : Value) (us : List Value), us.length = ps.length → bindArgs (PySem.W.fnOf x q (defArgs st) (defBody st) (defScope st) .none kV doc pm an cdv ct) ⟨us, []⟩ = pure (ps.zip us)
abbrev BodyH (P : Program) (w : World) (K : PySem.W.Frag) (mg : Str → Option Value) (base : Heap) (q : Str) (st : Stmt) (N : List Str) (k : Nat) (f : Addr) (sp : Sp) : Prop := ∀ (cdv : Value) (A : Around) (outer : List Env) (s : Shared) (H : Hp) (vs : List V) (Q : VK) (E : XK), Room k (A.deeper (envOfC q (defScope st) s.heap.objs.size f cdv)) → sp vs H Q E →
      ∃ t, PSs (cxOf CX0 P w K mg base N q (defScope st) f cdv A outer s H E).nox (defBody st) t ∧ t { nx := fun _ H' => Q .non H', rt := Q } (start N vs) H
theorem fn_d {fd : FuncData} (F : FunD K x q (defArgs st) (defBody st) (defScope st) [] [] f fd) (S : FnScope N ps (defScope st)) (len : ∀ vs H Q E, sp vs H Q E → vs.length = ps.length)
    (hbody : BodyH P w K mg base q st N k f sp) : FnOk P w K mg base CX0 (k + 1) f fd ps sp := by
  refine F.ok S len (fun cdv A outer s H vs Q E hr h => ?_)
  obtain ⟨t, h1, h2⟩ := hbody cdv A outer s H vs Q E hr h
  exact ⟨t, h1.nox, h2⟩
theorem ca_of (F : ∃ fd, FunD K x x (defArgs st) (defBody st) (defScope st) [] [] (He.fAd K (x, none)) fd) (g : mg x = some (.ref (He.ga K x))) (S : FnScope N ps (defScope st)) (hb : BindsH x x st ps) (len : ∀ vs H Q E, sp vs H Q E → vs.length = ps.length)
    (hbody : BodyH P w K mg base x st N k (He.fAd K (x, none)) sp) : Ca P w K mg base (k + 1) x sp := by
  obtain ⟨fd, F⟩ := F
  exact ⟨_, fd, ps, fn_d F S len hbody, g, F.kp, F.bindsN hb⟩
theorem me_of {C : Str} (F : ∃ fd, FunD K m q (defArgs st) (defBody st) (defScope st) [] [] (He.fAd K (C, some m)) fd) (c : Cls K (He.ga K C)) (g : Meth K (He.ga K C) m (He.ma K (He.ga K C) m)) (S : FnScope N ps (defScope st)) (hb : BindsH m q st ps) (len : ∀ vs H Q E, sp vs H Q E → vs.length = ps.length)
    (hbody : BodyH P w K mg base q st N k (He.fAd K (C, some m)) sp) : Me P w K mg base (k + 1) (He.ga K C) m sp := by
  obtain ⟨fd, F⟩ := F
  exact ⟨_, fd, ps, c, g, fn_d F S len hbody, F.bindsN hb⟩
theorem ma_of {C : Str} (F : ∃ fd, FunD K "__init__" q (defArgs st) (defBody st) (defScope st) [] [] (He.fAd K (C, some "__init__")) fd) (g : mg C = some (.ref (He.ga K C))) (mk : Mk K (He.ga K C) (He.ma K (He.ga K C) "__init__")) (S : FnScope N ps (defScope st)) (hb : BindsH "__init__" q st ps) (len : ∀ vs H Q E, sp vs H Q E → vs.length = ps.length)
    (hbody : BodyH P w K mg base q st N k (He.fAd K (C, some "__init__")) sp) : Ma P w K mg base (k + 1) C (He.ga K C) sp := by
  obtain ⟨fd, F⟩ := F
  exact ⟨_, fd, ps, mk, fn_d F S len hbody, g, F.bindsN hb⟩
theorem Ca.mono {j : Nat} (c : Ca P w K mg base j x sp) (h : j ≤ k) : Ca P w K mg base k x sp := by
  obtain ⟨f, fd, ps, F, r⟩ := c.ex
  exact ⟨f, fd, ps, F.mono h, r⟩
end
section
variable {X : Cx} {k j : Nat} {x m : Str} {sp : Sp} {C : Addr} {p pos apos : Pos} {e o : Expr} {es : List Expr} {t : TA} {ta : TE}
theorem pe_ca (c : Ca X.prog X.w X.K X.mg X.base k x sp) (hr : Room j X.A) (ha : PA X (e :: es) t) (hk : k ≤ j := by decide) (hg : Gl X x := by rfl)
    (hdb : (x == ("__debug__" : Str)) = false := by decide) (he : starEach (e :: es) X.env = (false, eval e X.env) :: starEach es X.env := by rfl) (hpl : (backTo pos (starEach es X.env)).any (·.1) = false := by rfl) :
    PE X (.Call (.Name x p) (e :: es) [] pos) (tCall sp [] E0 t) := by
  obtain ⟨f, fd, ps, F, hm, kp, b⟩ := c.ex
  exact pe_call F (hr.mono hk) hg hm kp b .nil pass0 ha hdb he hpl
theorem pe_ma (c : Ma X.prog X.w X.K X.mg X.base k x C sp) (hr : Room j X.A) (ha : PA X (e :: es) t) (hk : k + 1 ≤ j := by decide) (hg : Gl X x := by rfl)
    (hdb : (x == ("__debug__" : Str)) = false := by decide) (he : starEach (e :: es) X.env = (false, eval e X.env) :: starEach es X.env := by rfl) (hpl : (backTo pos (starEach es X.env)).any (·.1) = false := by rfl) :
    PE X (.Call (.Name x p) (e :: es) [] pos) (tMake C sp [] E0 t) := by
  obtain ⟨f, fd, ps, M, F, hm, b⟩ := c.ex
  exact pe_make M F (hr.mono hk) hg hm b .nil pass0 ha hdb he hpl
theorem pe_me0 {pl : Sem Bool} (c : Me X.prog X.w X.K X.mg X.base k C m sp) (hr : Room j X.A) (he : PE X o ta) (hk : k ≤ j := by decide)
    (ht : eval (.Call (.Attribute o m apos) [] [] pos) X.env = (do
      let ov ← eval o X.env
      standAt apos.atName
      let (f, first) ← holding [ov] (getMethod ov m pl)
      callWith pos f first (backTo pos (starEach [] X.env)) (backToKw pos (keywordEach [] X.env))) := by rfl) :
    PE X (.Call (.Attribute o m apos) [] [] pos) (tMeth C m sp [] E0 ta tNil) := by
  obtain ⟨f, fd, ps, hc, hm, F, b⟩ := c.ex
  exact pe_meth0 (pl := pl) he hc hm F (hr.mono hk) b .nil pass0 ht
theorem pe_me {pl : Sem Bool} (c : Me X.prog X.w X.K X.mg X.base k C m sp) (hr : Room j X.A) (he : PE X o ta) (ha : PA X (e :: es) t) (hk : k ≤ j := by decide)
    (hst : starEach (e :: es) X.env = (false, eval e X.env) :: starEach es X.env := by rfl) (hpl : (backTo pos (starEach es X.env)).any (·.1) = false := by rfl)
    (ht : eval (.Call (.Attribute o m apos) (e :: es) [] pos) X.env = (do
      let ov ← eval o X.env
      standAt apos.atName
      let (f, first) ← holding [ov] (getMethod ov m pl)
      callWith pos f first (backTo pos (starEach (e :: es) X.env)) (backToKw pos (keywordEach [] X.env))) := by rfl) :
    PE X (.Call (.Attribute o m apos) (e :: es) [] pos) (tMeth C m sp [] E0 ta t) := by
  obtain ⟨f, fd, ps, hc, hm, F, b⟩ := c.ex
  exact pe_meth (pl := pl) he hc hm F (hr.mono hk) b .nil pass0 ha hst hpl ht
/-- isinstance(a, b) -/
theorem pe_isi {a b : Expr} {ta tb : TE} (h : X.mg "isinstance" = none) (ha : PE X a ta) (hb : PE X b tb) (hg : Gl X "isinstance" := by rfl)
    (he : starEach [a, b] X.env = (false, eval a X.env) :: starEach [b] X.env := by rfl) (hpl : (backTo pos (starEach [b] X.env)).any (·.1) = false := by rfl)
    (he2 : starEach [b] X.env = (false, eval b X.env) :: starEach [] X.env := by rfl) :
    PE X (.Call (.Name "isinstance" p) [a, b] [] pos) (tCB (rIsi X.K) (tCons ta (tCons tb tNil))) :=
  pe_callB call_isi hg h boot_isinstance (pa_cons ha (pa_cons hb pa_nil he2) he) (he := he) (hpl := hpl)
/-- a built-in class as a value -/
theorem pe_ty {n : String} {x : Str} (h : X.mg x = none) (hv : bootBuiltins x = some (.type n)) (hg : Gl X x := by rfl) (hn : x ≠ "__name__" := by decide) (hd : (x == ("__debug__" : Str)) = false := by decide) : PE X (.Name x pos) (tC (.ty n)) := pe_bltn hg h hv rfl hn hd
theorem pe_gi {n : Int} {x : Str} (h : ∃ u, X.mg x = some u ∧ RelV (.int n) u) (hg : Gl X x := by rfl) (hd : (x == ("__debug__" : Str)) = false := by decide) : PE X (.Name x pos) (tC (.int n)) := by
  obtain ⟨u, hm, r⟩ := h
  exact pe_glob hg hm r hd
theorem pe_gr {x : Str} {a : Addr} (h : X.mg x = some (.ref a)) (hg : Gl X x := by rfl) (hd : (x == ("__debug__" : Str)) = false := by decide) : PE X (.Name x pos) (tC (.ref a)) := pe_glob hg h rfl hd
end
section
variable {X : Cx} {i j k : Nat} {x y z : Str} {p1 p2 p3 pos : Pos} {n : Nat}
/-- a, b as a target -/
theorem pg_two (K : PySem.W.Frag) (i j : Nat) (hK : X.K = K) (hc : X.calm = true) (nd : X.N.Nodup) (hi : X.N[i]? = some x) (hj : X.N[j]? = some y) (hx : Loc X.env.scope x) (hy : Loc X.env.scope y)
    (fx : X.fn x = true ∨ X.env.scope.names.lookup x = some .local) (fy : X.fn y = true ∨ X.env.scope.names.lookup y = some .local) :
    PG X (.Tuple [.Name x p1, .Name y p2] n pos) (gTup K 2 (gCons (gName i) (gCons (gName j) gNil))) := hK ▸
  pg_tup hc (pgs_cons (pg_name nd hi hx fx) (pgs_cons (pg_name nd hj hy fy) pgs_nil))
/-- a, b, c as a target -/
theorem pg_three (K : PySem.W.Frag) (i j k : Nat) (hK : X.K = K) (hc : X.calm = true) (nd : X.N.Nodup) (hi : X.N[i]? = some x) (hj : X.N[j]? = some y) (hk : X.N[k]? = some z) (hx : Loc X.env.scope x) (hy : Loc X.env.scope y) (hz : Loc X.env.scope z)
    (fx : X.fn x = true ∨ X.env.scope.names.lookup x = some .local) (fy : X.fn y = true ∨ X.env.scope.names.lookup y = some .local) (fz : X.fn z = true ∨ X.env.scope.names.lookup z = some .local) :
    PG X (.Tuple [.Name x p1, .Name y p2, .Name z p3] n pos) (gTup K 3 (gCons (gName i) (gCons (gName j) (gCons (gName k) gNil)))) := hK ▸
  pg_tup hc (pgs_cons (pg_name nd hi hx fx) (pgs_cons (pg_name nd hj hy fy) (pgs_cons (pg_name nd hk hz fz) pgs_nil)))
end
theorem boot_int : bootBuiltins "int" = some (.type "int") := by decide +kernel
theorem boot_bool : bootBuiltins "bool" = some (.type "bool") := by decide +kernel
theorem boot_str : bootBuiltins "str" = some (.type "str") := by decide +kernel
theorem boot_list : bootBuiltins "list" = some (.type "list") := by decide +kernel
theorem boot_tuple : bootBuiltins "tuple" = some (.type "tuple") := by decide +kernel
theorem boot_abs : bootBuiltins "abs" = some (.builtin "abs") := by decide +kernel
theorem boot_max : bootBuiltins "max" = some (.builtin "max") := by decide +kernel
theorem boot_min : bootBuiltins "min" = some (.builtin "min") := by decide +kernel
theorem boot_set : bootBuiltins "set" = some (.type "set") := by decide +kernel
/-! ### kinds of values -/
/-- the kinds that the program asks for -/
inductive Kd where
  | non | bool | int | str | list | tuple | dict | obj
  deriving DecidableEq
def Kd.name : Kd → String
  | .non => "NoneType" | .bool => "bool" | .int => "int" | .str => "str" | .list => "list" | .tuple => "tuple" | .dict => "dict" | .obj => "object"
/-- isinstance's answer -/
def Kd.is (k c : Kd) : Bool := decide (k = c) || (decide (k = .bool) && decide (c = .int))
theorem kd_kit {K : PySem.W.Frag} (k c : Kd) (h : k ≠ .obj) (h2 : c ≠ .obj) : PySem.W.kitOne K (.type k.name) (.type c.name) = some (k.is c) := by
  refine kit_ty ?_
  cases k <;> cases c <;> first | decide +kernel | exact absurd rfl h | exact absurd rfl h2
/-- v is of the kind k -/
inductive Of (K : PySem.W.Frag) (H : Hp) : V → Kd → Prop where
  | non : Of K H .non .non
  | bl (b : Bool) : Of K H (.bl b) .bool
  | int (i : Int) : Of K H (.int i) .int
  | str (x : Str) : Of K H (.str x) .str
  | list {a : Addr} {xs : List V} (h : SqL K H a xs) : Of K H (.ref a) .list
  | tuple {a : Addr} {xs : List V} (h : SqT K H a xs) : Of K H (.ref a) .tuple
  | dict {a : Addr} (h : TyX K H (.ref a) (.type "dict")) : Of K H (.ref a) .dict
  | obj {a C : Addr} (h : TyX K H (.ref a) (.ref C)) (hk : ∀ c : Kd, c ≠ .obj → PySem.W.kitOne K (.ref C) (.type c.name) = some false) : Of K H (.ref a) .obj
theorem ty_sqL {K : PySem.W.Frag} {H : Hp} {a : Addr} {xs : List V} (h : SqL K H a xs) : TyX K H (.ref a) (.type "list") := by
  rcases h with (h | ⟨o, h⟩) | ⟨o, its, n, h1, h2, _⟩
  · exact .base (.lst h)
  · exact .base (.frz h)
  · exact .kList h1 h2
theorem ty_sqT {K : PySem.W.Frag} {H : Hp} {a : Addr} {xs : List V} (h : SqT K H a xs) : TyX K H (.ref a) (.type "tuple") := by
  rcases h with (h | ⟨o, h⟩) | ⟨o, its, n, h1, h2, _⟩
  · exact .base (.tup h)
  · exact .fTuple h
  · exact .kTuple h1 h2
/-- what isinstance(v, c) comes to -/
theorem isi_k {K : PySem.W.Frag} {H : Hp} {v : V} {k : Kd} (c : Kd) {Q : VK} (h : Of K H v k) (q : Q (.bl (k.is c)) H) (hc : c ≠ .obj := by decide) : rIsi K [v, .ty c.name] H Q := by
  cases h with
  | non => exact ⟨_, _, _, _, _, rfl, .ty _, .base .non, kd_kit .non c (by decide) hc, q⟩
  | bl b => exact ⟨_, _, _, _, _, rfl, .ty _, .base (.bl b), kd_kit .bool c (by decide) hc, q⟩
  | int b => exact ⟨_, _, _, _, _, rfl, .ty _, .base (.int b), kd_kit .int c (by decide) hc, q⟩
  | str b => exact ⟨_, _, _, _, _, rfl, .ty _, .base (.str b), kd_kit .str c (by decide) hc, q⟩
  | list b => exact ⟨_, _, _, _, _, rfl, .ty _, ty_sqL b, kd_kit .list c (by decide) hc, q⟩
  | tuple b => exact ⟨_, _, _, _, _, rfl, .ty _, ty_sqT b, kd_kit .tuple c (by decide) hc, q⟩
  | dict b => exact ⟨_, _, _, _, _, rfl, .ty _, b, kd_kit .dict c (by decide) hc, q⟩
  | obj b hk => 
    have e : Kd.is .obj c = false := by cases c <;> first | rfl | exact absurd rfl hc
    rw [e] at q
    exact ⟨_, _, _, _, _, rfl, .ty _, b, hk c hc, q⟩
theorem pe_imp {X : Cx} {e : Expr} {t t' : TE} (h : PE X e t) (i : ∀ σ H Q, t' σ H Q → t σ H Q) : PE X e t' := ⟨fun pins s σ H Q I q => h.run pins s σ H Q I (i σ H Q q)⟩
theorem callR_imp {X : Cx} {f : Value} {r r' : List V → Hp → VK → Prop} (h : CallR X f r) (i : ∀ vs H Q, r' vs H Q → r vs H Q) : CallR X f r' := fun pins s σ H xs us Q I rv q => h pins s σ H xs us Q I rv (i xs H Q q)
/-- isinstance(v, c): its kind -/
def rIs (K : PySem.W.Frag) (c : Kd) : List V → Hp → VK → Prop := fun xs H Q => ∃ (v : V) (k : Kd), xs = [v, .ty c.name] ∧ Of K H v k ∧ Q (.bl (k.is c)) H
theorem call_is {X : Cx} (c : Kd) (hc : c ≠ .obj := by decide) : CallR X (.builtin "isinstance") (rIs X.K c) := callR_imp call_isi fun vs H Q ⟨v, k, e, h, q⟩ => by
  subst e
  exact isi_k c h q hc
section
variable {X : Cx} {a : Expr} {ta : TE} {x : Str} {p p2 pos : Pos}
theorem pe_is (c : Kd) (h : X.mg "isinstance" = none) (ha : PE X a ta) (hm : X.mg x = none) (hv : bootBuiltins x = some (.type c.name)) (hc : c ≠ .obj := by decide) (hg2 : Gl X x := by rfl) (hn : x ≠ "__name__" := by decide) (hd : (x == ("__debug__" : Str)) = false := by decide) (hg : Gl X "isinstance" := by rfl)
    (he : starEach [a, .Name x p2] X.env = (false, eval a X.env) :: starEach [.Name x p2] X.env := by rfl) (hpl : (backTo pos (starEach [.Name x p2] X.env)).any (·.1) = false := by rfl)
    (he2 : starEach [.Name x p2] X.env = (false, eval (.Name x p2) X.env) :: starEach [] X.env := by rfl) :
    PE X (.Call (.Name "isinstance" p) [a, .Name x p2] [] pos) (tCB (rIs X.K c) (tCons ta (tCons (tC (.ty c.name)) tNil))) :=
  pe_callB (call_is c hc) hg h boot_isinstance (pa_cons ha (pa_cons (pe_ty (pos := p2) hm hv hg2 hn hd) pa_nil he2) he) (he := he) (hpl := hpl)
end
/-! ### data -/
theorem same_t {K : PySem.W.Frag} {H H' : Hp} {a : Addr} {xs : List V} (e : Same H H') (h : SqT K H a xs) : SqT K H' a xs := by
  rcases h with (h | ⟨o, h⟩) | h
  · exact .inl (.inl (e _ _ h))
  · exact .inl (.inr ⟨o, e _ _ h⟩)
  · exact .inr h
theorem same_new {H : Hp} {p : Addr} {o : HO} (h : H p = none) : Same H (upd H p o) := fun a u e => by
  rw [upd_ne (ne_of_none e h)]
  exact e
mutual
theorem dp_same {K : PySem.W.Frag} {H H' : Hp} (e : Same H H') : ∀ {v : V} {d : PyData}, Dp K H v d → Dp K H' v d
  | _, _, .non => .non
  | _, _, .bl b => .bl b
  | _, _, .int i => .int i
  | _, _, .str x => .str x
  | _, _, .lst h r => .lst (e.seq h) (dps_same e r)
  | _, _, .tup h r => .tup (same_t e h) (dps_same e r)
theorem dps_same {K : PySem.W.Frag} {H H' : Hp} (e : Same H H') : ∀ {vs : List V} {ds : List PyData}, DpAll K H vs ds → DpAll K H' vs ds
  | _, _, .nil => .nil
  | _, _, .cons h r => .cons (dp_same e h) (dps_same e r)
end
def kdOf : PyData → Kd
  | .bool _ => .bool
  | .int _ => .int
  | .str _ => .str
  | .list _ => .list
  | .tuple _ => .tuple
  | _ => .non
theorem dp_kd {K : PySem.W.Frag} {H : Hp} {v : V} {d : PyData} (h : Dp K H v d) : Of K H v (kdOf d) := by
  cases h with
  | non => exact .non
  | bl b => exact .bl b
  | int i => exact .int i
  | str x => exact .str x
  | lst h _ => exact .list h
  | tup h _ => exact .tuple h
end M

set_option Elab.async false
set_option linter.all false
set_option maxRecDepth 100000
set_option maxHeartbeats 2000000
namespace M
open PySem PySem.Spec PyProof.Rows L2

section
variable {P : Program} {w : World} {K : PySem.W.Frag} {mg : Str → Option Value} {base : Heap}
/-! ### pastless.checks -/
def spInteger (K : PySem.W.Frag) : Sp := fun vs H Q _ => ∃ (v : V) (k : Kd), vs = [v] ∧ Of K H v k ∧ Q (.bl (decide (k = .int))) H
def spWithin : Sp := fun vs H Q _ => ∃ (i lo hi : Int), vs = [.int i, .int lo, .int hi] ∧ Q (.bl (decide (lo ≤ i) && decide (i ≤ hi))) H
/-- within its bounds -/
theorem within_t {i lo hi : Int} (h : lo ≤ i ∧ i ≤ hi) : (decide (lo ≤ i) && decide (i ≤ hi)) = true := by simp [h.1, h.2]
def spTuple (K : PySem.W.Frag) : Sp := fun vs H Q _ => ∃ (a : Addr) (xs : List V) (n : Int), vs = [.ref a, .int n] ∧ SqT K H a xs ∧ Q (.bl (decide ((xs.length : Int) = n))) H
/-- hs is a state of cells of the sizes ss -/
def StateOk (ss hs : List Int) : Prop := ss.length = hs.length ∧ ∀ (i : Nat) (s h : Int), ss[i]? = some s → hs[i]? = some h → 0 ≤ h ∧ h < s
theorem get_map {l : List Int} {i : Nat} {x : V} (h : (l.map V.int)[i]? = some x) : ∃ z, l[i]? = some z ∧ x = .int z := by
  rw [List.getElem?_map] at h
  cases e : l[i]? with
  | none => rw [e] at h; cases h
  | some z => rw [e] at h; exact ⟨z, rfl, (Option.some.inj h).symm⟩
def spState (K : PySem.W.Frag) : Sp := fun vs H Q _ => ∃ (a b : Addr) (ss hs : List Int), vs = [.ref a, .ref b] ∧ SqT K H a (ss.map .int) ∧ SqT K H b (hs.map .int) ∧ StateOk ss hs ∧ ∀ H', Same H H' → Q (.bl true) H'
end

end M

set_option Elab.async false
set_option linter.all false
set_option maxRecDepth 100000
set_option maxHeartbeats 2000000
namespace M
open PySem PySem.Spec PyProof.Rows L2

/-! ### what bodies, codes and vaults are -/
inductive Exp where
  | num (n : Int) | reg (r : Str) | op (s : Str) (a b : Exp)
def Exp.d : Exp → PyData
  | .num n => .int n
  | .reg r => .str r
  | .op s a b => .tuple [.str s, a.d, b.d]
inductive Row where
  | read (r : Str) (c : Int) | set (c : Int) (e : Exp) | swap (r : Str) (c : Int) (e f : Exp) | keep (r : Str) (e : Exp) | coin (r : Str)
  | iff (e : Exp) (a b : List Row) | times (e : Exp) (a : List Row) | ans (e : Exp)
mutual
def Row.d : Row → PyData
  | .read r c => .tuple [.str "read", .str r, .int c]
  | .set c e => .tuple [.str "set", .int c, e.d]
  | .swap r c e f => .tuple [.str "swap", .str r, .int c, e.d, f.d]
  | .keep r e => .tuple [.str "keep", .str r, e.d]
  | .coin r => .tuple [.str "coin", .str r]
  | .iff e a b => .tuple [.str "if", e.d, .tuple (rowsD a), .tuple (rowsD b)]
  | .times e a => .tuple [.str "times", e.d, .tuple (rowsD a)]
  | .ans e => .tuple [.str "answer", e.d]
def rowsD : List Row → List PyData
  | [] => []
  | r :: rs => r.d :: rowsD rs
end
/-- a row of a code -/
inductive FR where
  | row (r : Row) | unless (e : Exp) (p : Nat) | on (p : Nat) | rounds (e : Exp) | round (p : Nat) | hole
def FR.d : FR → PyData
  | .row r => r.d
  | .unless e p => .tuple [.str "unless", e.d, .int p]
  | .on p => .tuple [.str "on", .int p]
  | .rounds e => .tuple [.str "rounds", e.d]
  | .round p => .tuple [.str "round", .int p]
  | .hole => .tuple []
mutual
def putRow : Row → List FR → List FR
  | .iff e a b, c =>
    let c1 := putRows a (c ++ [FR.hole])
    let c2 := putRows b ((c1 ++ [FR.hole]).set c.length (FR.unless e (c1.length + 1)))
    c2.set c1.length (FR.on c2.length)
  | .times e a, c =>
    let c1 := putRows a (c ++ [FR.rounds e, FR.hole])
    (c1 ++ [FR.on (c.length + 1)]).set (c.length + 1) (FR.round (c1.length + 1))
  | .read r k, c => c ++ [.row (.read r k)]
  | .set k e, c => c ++ [.row (.set k e)]
  | .swap r k e f, c => c ++ [.row (.swap r k e f)]
  | .keep r e, c => c ++ [.row (.keep r e)]
  | .coin r, c => c ++ [.row (.coin r)]
  | .ans e, c => c ++ [.row (.ans e)]
def putRows : List Row → List FR → List FR
  | [], c => c
  | r :: rs, c => putRows rs (putRow r c)
end
def codeOf (rows : List Row) : List FR := putRows rows [] ++ [.row (.ans (.num 0))]
structure Vlt where
  cells : List (Int × Int)
  deeds : List (Str × Int × List Row)
def cellD (c : Int × Int) : PyData := .tuple [.int c.1, .int c.2]
def deedD (d : Str × Int × List Row) : PyData := .tuple [.str d.1, .int d.2.1, .tuple (rowsD d.2.2)]
def Vlt.calls (v : Vlt) : List (Str × Int) := v.deeds.flatMap fun d => (List.range d.2.1.toNat).map fun (j : Nat) => (d.1, (j : Int))
def codeD (rows : List Row) : PyData := .tuple ((codeOf rows).map FR.d)
/-- what the attributes of a vault hold -/
def vflds (a d c : Addr) (b : Bool) : List (Str × V) := putF "_coins" (.bl b) (putF "_codes" (.ref c) (putF "_deeds" (.ref d) (putF "_cells" (.ref a) [])))
theorem v1 : ¬ (("_cells" : Str) = "_deeds") := by decide +kernel
theorem v2 : ¬ (("_cells" : Str) = "_codes") := by decide +kernel
theorem v3 : ¬ (("_cells" : Str) = "_coins") := by decide +kernel
theorem v4 : ¬ (("_deeds" : Str) = "_codes") := by decide +kernel
theorem v5 : ¬ (("_deeds" : Str) = "_coins") := by decide +kernel
theorem v6 : ¬ (("_codes" : Str) = "_coins") := by decide +kernel
theorem vf_cells (a d c : Addr) (b : Bool) : (vflds a d c b).lookup ("_cells" : Str) = some (.ref a) := by
  unfold vflds
  rw [lookup_putF, if_neg v3, lookup_putF, if_neg v2, lookup_putF, if_neg v1, lookup_putF, if_pos rfl]
theorem vf_deeds (a d c : Addr) (b : Bool) : (vflds a d c b).lookup ("_deeds" : Str) = some (.ref d) := by
  unfold vflds
  rw [lookup_putF, if_neg v5, lookup_putF, if_neg v4, lookup_putF, if_pos rfl]
theorem vf_codes (a d c : Addr) (b : Bool) : (vflds a d c b).lookup ("_codes" : Str) = some (.ref c) := by
  unfold vflds
  rw [lookup_putF, if_neg v6, lookup_putF, if_pos rfl]
theorem vf_coins (a d c : Addr) (b : Bool) : (vflds a d c b).lookup ("_coins" : Str) = some (.bl b) := by
  unfold vflds
  rw [lookup_putF, if_pos rfl]
theorem vf_no (a d c : Addr) (b : Bool) {m : Str} (h1 : ¬ m = "_cells") (h2 : ¬ m = "_deeds") (h3 : ¬ m = "_codes") (h4 : ¬ m = "_coins") : (vflds a d c b).lookup m = none := by
  unfold vflds
  rw [lookup_putF, if_neg h4, lookup_putF, if_neg h3, lookup_putF, if_neg h2, lookup_putF, if_neg h1]
  rfl
/-- the codes by the names of the deeds -/
def CodesR (K : PySem.W.Frag) (H : Hp) : List (Key × V) → List (Str × Int × List Row) → Prop
  | [], [] => True
  | (k, v) :: r, d :: ds => k = Sum.inr d.1 ∧ Dp K H v (codeD d.2.2) ∧ CodesR K H r ds
  | _, _ => False
/-- a vault stands at p -/
structure VaultAt (K : PySem.W.Frag) (H : Hp) (p : Addr) (v : Vlt) : Prop where
  ob : ∃ (dx a d c : Addr) (b : Bool) (kvs : List (Key × V)), H p = some (.ins (He.ga K "Vault") dx (vflds a d c b)) ∧ Dp K H (.ref a) (.tuple (v.cells.map cellD)) ∧ Dp K H (.ref d) (.tuple (v.deeds.map deedD)) ∧ H c = some (.dK kvs) ∧ CodesR K H kvs v.deeds
/-- the bounds of a vault -/
structure VOk (v : Vlt) : Prop where
  c1 : v.cells.length ≤ 6
  d1 : v.deeds.length ≤ 8
  ch : ∀ d ∈ v.deeds, 1 ≤ d.2.1 ∧ d.2.1 ≤ 9
  nd : (v.deeds.map (·.1)).Nodup
theorem codes_same {K : PySem.W.Frag} {H H' : Hp} (e : Same H H') : ∀ {kvs : List (Key × V)} {ds : List (Str × Int × List Row)}, CodesR K H kvs ds → CodesR K H' kvs ds
  | [], [], _ => trivial
  | (_, _) :: _, _ :: _, h => ⟨h.1, dp_same e h.2.1, codes_same e h.2.2⟩
  | [], _ :: _, h => h.elim
  | _ :: _, [], h => h.elim
theorem VaultAt.same {K : PySem.W.Frag} {H H' : Hp} {p : Addr} {v : Vlt} (e : Same H H') (h : VaultAt K H p v) : VaultAt K H' p v := by
  obtain ⟨dx, a, d, c, b, kvs, h1, h2, h3, h4, h5⟩ := h.ob
  exact ⟨dx, a, d, c, b, kvs, e _ _ h1, dp_same e h2, dp_same e h3, e _ _ h4, codes_same e h5⟩
/-! ### data taken apart -/
section
variable {K : PySem.W.Frag} {H : Hp}
theorem dp_tup {v : V} {ds : List PyData} (h : Dp K H v (.tuple ds)) : ∃ (a : Addr) (xs : List V), v = .ref a ∧ SqT K H a xs ∧ DpAll K H xs ds := by
  cases h with
  | tup h r => exact ⟨_, _, rfl, h, r⟩
theorem dp_lst {v : V} {ds : List PyData} (h : Dp K H v (.list ds)) : ∃ (a : Addr) (xs : List V), v = .ref a ∧ SqL K H a xs ∧ DpAll K H xs ds := by
  cases h with
  | lst h r => exact ⟨_, _, rfl, h, r⟩
theorem dp_int {v : V} {i : Int} (h : Dp K H v (.int i)) : v = .int i := by
  cases h
  rfl
theorem dp_str {v : V} {i : Str} (h : Dp K H v (.str i)) : v = .str i := by
  cases h
  rfl
theorem dps_len : ∀ {vs : List V} {ds : List PyData}, DpAll K H vs ds → vs.length = ds.length
  | _, _, .nil => rfl
  | _, _, .cons _ r => congrArg (· + 1) (dps_len r)
theorem dps_get : ∀ {vs : List V} {ds : List PyData} {i : Nat} {v : V}, DpAll K H vs ds → vs[i]? = some v → ∃ d, ds[i]? = some d ∧ Dp K H v d
  | _, _, i, v, .nil, h => by simp at h
  | _, _, 0, v, .cons h r, e => by
    cases (Option.some.inj e)
    exact ⟨_, rfl, h⟩
  | _, _, i + 1, v, .cons h r, e => dps_get (i := i) r e
theorem dps_at : ∀ {vs : List V} {ds : List PyData} {i : Nat} {d : PyData}, DpAll K H vs ds → ds[i]? = some d → ∃ v, vs[i]? = some v ∧ Dp K H v d
  | _, _, i, v, .nil, h => by simp at h
  | _, _, 0, v, .cons h r, e => by
    cases (Option.some.inj e)
    exact ⟨_, rfl, h⟩
  | _, _, i + 1, v, .cons h r, e => dps_at (i := i) r e
theorem dps_app : ∀ {vs ws : List V} {ds es : List PyData}, DpAll K H vs ds → DpAll K H ws es → DpAll K H (vs ++ ws) (ds ++ es)
  | _, _, _, _, .nil, r => r
  | _, _, _, _, .cons h t, r => .cons h (dps_app t r)
theorem dps_set : ∀ {vs : List V} {ds : List PyData} {i : Nat} {v : V} {d : PyData}, DpAll K H vs ds → Dp K H v d → DpAll K H (vs.set i v) (ds.set i d)
  | _, _, _, _, _, .nil, _ => .nil
  | _, _, 0, _, _, .cons _ r, z => .cons z r
  | _, _, i + 1, _, _, .cons h r, z => .cons h (dps_set (i := i) r z)
theorem dp2 {v : V} {d e : PyData} (h : Dp K H v (.tuple [d, e])) : ∃ (a : Addr) (x y : V), v = .ref a ∧ SqT K H a [x, y] ∧ Dp K H x d ∧ Dp K H y e := by
  obtain ⟨a, xs, rfl, h, r⟩ := dp_tup h
  cases r with | cons h1 r => cases r with | cons h2 r => cases r with | nil => exact ⟨a, _, _, rfl, h, h1, h2⟩
theorem dp3 {v : V} {d e f : PyData} (h : Dp K H v (.tuple [d, e, f])) : ∃ (a : Addr) (x y z : V), v = .ref a ∧ SqT K H a [x, y, z] ∧ Dp K H x d ∧ Dp K H y e ∧ Dp K H z f := by
  obtain ⟨a, xs, rfl, h, r⟩ := dp_tup h
  cases r with | cons h1 r => cases r with | cons h2 r => cases r with | cons h3 r => cases r with | nil => exact ⟨a, _, _, _, rfl, h, h1, h2, h3⟩
theorem dps_ints : ∀ {vs : List V} {is : List Int}, DpAll K H vs (is.map PyData.int) → vs = is.map V.int
  | _, [], .nil => rfl
  | _, i :: is, .cons h r => by
    rw [dp_int h, dps_ints r]
    rfl
theorem ints_dps : ∀ {is : List Int}, DpAll K H (is.map V.int) (is.map PyData.int)
  | [] => .nil
  | i :: is => .cons (.int i) ints_dps
end
/-! ### what a list that grows leaves as it was -/
/-- all but what stands at D is as it was -/
def But (D : Addr) (H H' : Hp) : Prop := ∀ b o, b ≠ D → H b = some o → H' b = some o
theorem But.upd {D : Addr} {H : Hp} {o : HO} : But D H (upd H D o) := fun b u hb e => by
  rw [upd_ne hb]
  exact e
theorem same_but {D : Addr} {H H' : Hp} (s : Same H H') : But D H H' := fun b o _ e => s b o e
theorem But.trans {D : Addr} {H H1 H2 : Hp} (s : But D H H1) (t : But D H1 H2) : But D H H2 := fun b o hb e => t b o hb (s b o hb e)
/-- no list within -/
inductive NoL : PyData → Prop where
  | non : NoL .none
  | bool (b : Bool) : NoL (.bool b)
  | int (i : Int) : NoL (.int i)
  | str (x : Str) : NoL (.str x)
  | tup {ds : List PyData} (h : ∀ d ∈ ds, NoL d) : NoL (.tuple ds)
/-- what stands at D may change -/
def Ch (H : Hp) (D : Addr) : Prop := (∀ xs, H D ≠ some (.tup xs)) ∧ ∀ o u, H D ≠ some (.frz o u)
theorem Ch.lst {H : Hp} {D : Addr} {l : List V} (h : H D = some (.lst l)) : Ch H D := ⟨fun _ e => (by rw [h] at e; cases e), fun _ _ e => (by rw [h] at e; cases e)⟩
theorem Ch.dK {H : Hp} {D : Addr} {l : List (Key × V)} (h : H D = some (.dK l)) : Ch H D := ⟨fun _ e => (by rw [h] at e; cases e), fun _ _ e => (by rw [h] at e; cases e)⟩
theorem Ch.ins {H : Hp} {D C dx : Addr} {l : List (Str × V)} (h : H D = some (.ins C dx l)) : Ch H D := ⟨fun _ e => (by rw [h] at e; cases e), fun _ _ e => (by rw [h] at e; cases e)⟩
theorem Ch.new {H : Hp} {D : Addr} (h : H D = none) : Ch H D := ⟨fun _ e => (by rw [h] at e; cases e), fun _ _ e => (by rw [h] at e; cases e)⟩
section
variable {K : PySem.W.Frag} {H H' : Hp} {D : Addr}
theorem sqT_but (hD : Ch H D) (s : But D H H') {a : Addr} {xs : List V} (h : SqT K H a xs) : SqT K H' a xs := by
  rcases h with (h | ⟨o, h⟩) | h
  · exact .inl (.inl (s _ _ (fun e => hD.1 _ (e ▸ h)) h))
  · exact .inl (.inr ⟨o, s _ _ (fun e => hD.2 _ _ (e ▸ h)) h⟩)
  · exact .inr h
mutual
theorem dp_but (hD : Ch H D) (s : But D H H') : ∀ {v : V} {d : PyData}, Dp K H v d → NoL d → Dp K H' v d
  | _, _, .non, _ => .non
  | _, _, .bl b, _ => .bl b
  | _, _, .int i, _ => .int i
  | _, _, .str x, _ => .str x
  | _, _, .lst _ _, n => nomatch n
  | _, _, .tup h r, n => .tup (sqT_but hD s h) (dps_but hD s r (by cases n with | tup h => exact h))
theorem dps_but (hD : Ch H D) (s : But D H H') : ∀ {vs : List V} {ds : List PyData}, DpAll K H vs ds → (∀ d ∈ ds, NoL d) → DpAll K H' vs ds
  | _, _, .nil, _ => .nil
  | _, _, .cons h r, n => .cons (dp_but hD s h (n _ List.mem_cons_self)) (dps_but hD s r fun d hd => n d (List.mem_cons_of_mem _ hd))
end
end
/-! ### comprehensions and loops that leave all that was as it was -/
section
variable {J : It} {n : Nat} {G : Hp → Prop} {Y : Nat → Hp → V → Hp → Prop}
/-- a list comprehension: its i-th item is R i -/
theorem lc_out (w : Walk J n G Y) {g : TG} {te : TE} {vs : List Nat} {σ : L2.St} {H1 : Hp} {D : Addr} {Qd : Hp → Prop} (hD : H1 D = none) (hn : n ≤ 100000) (R : Nat → V → Hp → Prop) (hR : ∀ i y H H', Ch H D → But D H H' → R i y H → R i y H')
    (hG : ∀ H, Same H1 H → G H)
    (hs : ∀ (i : Nat) (x : V) (H H' : Hp) (N : VK) (F : Hp → Prop), i < n → Same H1 H → Y i H x H' → (∀ y H4, Same H H4 → R i y H4 → N y H4) → g x (wipe σ vs) H' fun σ2 H2 => wipe σ2 vs = wipe σ vs ∧ if true = true then te σ2 H2 N else F H2)
    (hd : ∀ H ys, Same H1 H → H D = some (.lst ys) → ys.length = n → (∀ i y, ys[i]? = some y → R i y H) → Qd H) :
    ∃ W : Nat → Nat → Hp → Prop, (∃ m, W 0 m (upd H1 D (.lst []))) ∧ ∀ i m H, W i m H →
      (J.stop i H ∧ Qd H) ∨ (J.go i H ∧ ∃ Nx : Hp → Prop, (∀ H', Nx H' → ∃ m', m' < m ∧ W (i + 1) m' H') ∧ ∀ x H', J.yld i H x H' → g x (wipe σ vs) H' fun σ2 H2 => wipe σ2 vs = wipe σ vs ∧ tYes σ2 H2 fun b H3 =>
        if b = true then te σ2 H3 fun y H4 => ∃ acc, H4 D = some (.lst acc) ∧ acc.length < sizeLine ∧ Nx (upd H4 D (.lst (acc ++ [y]))) else Nx H3) := by
  let Pv : Nat → Hp → Prop := fun i H => ∃ ys, Same H1 H ∧ H D = some (.lst ys) ∧ ys.length = i ∧ ∀ j y, ys[j]? = some y → R j y H
  refine lc_it w Pv ⟨[], same_new hD, upd_same, rfl, fun j y e => by simp at e⟩ (fun i H _ ⟨_, s, _⟩ => hG H s) (fun i x H H' hi ⟨ys, s, eD, el, hr⟩ y => ?_) (fun H ⟨ys, s, eD, el, hr⟩ => hd H ys s eD el hr)
  refine hs i x H H' (fun y H4 => ∃ acc, H4 D = some (.lst acc) ∧ acc.length < sizeLine ∧ Pv (i + 1) (upd H4 D (.lst (acc ++ [y])))) (fun H3 => Pv (i + 1) H3) hi s y fun z H4 s4 rz => ⟨ys, s4 _ _ eD, by rw [sizeLine_eq]; omega, ys ++ [z], fun b o e => ?_, upd_same, by simp [el], fun j u e => ?_⟩
  · rw [upd_ne (ne_of_none e hD)]
    exact s4 b o (s b o e)
  · have bt : But D H (upd H4 D (.lst (ys ++ [z]))) := (same_but s4 (D := D)).trans But.upd
    by_cases hj : j < ys.length
    · rw [List.getElem?_append_left hj] at e
      exact hR j u H _ (.lst eD) bt (hr j u e)
    · rw [List.getElem?_append_right (by omega)] at e
      have e0 : j - ys.length = 0 := by
        cases q : j - ys.length with
        | zero => rfl
        | succ m => rw [q] at e; simp at e
      rw [e0] at e
      cases (Option.some.inj e)
      have ej : j = i := by omega
      subst ej
      exact hR _ _ H4 _ (.lst (s4 _ _ eD)) But.upd rz
end

end M

set_option Elab.async false
set_option linter.all false
set_option maxRecDepth 100000
set_option maxHeartbeats 2000000
namespace M
open PySem PySem.Spec PyProof.Rows L2

theorem map_of {α : Type} {cs : List α} {f : α → V} {ys : List V} (hl : ys.length = cs.length) (h : ∀ (i : Nat) (y : V), ys[i]? = some y → ∃ c, cs[i]? = some c ∧ y = f c) : ys = cs.map f := by
  refine List.ext_getElem? fun i => ?_
  rw [List.getElem?_map]
  cases e : ys[i]? with
  | some y =>
    obtain ⟨c, hc, rfl⟩ := h i y e
    rw [hc]
    rfl
  | none =>
    have q : cs[i]? = none := by
      rw [List.getElem?_eq_none_iff] at e ⊢
      omega
    rw [q]
    rfl
theorem get_mapA {α β : Type} {l : List α} {f : α → β} {i : Nat} {x : β} (h : (l.map f)[i]? = some x) : ∃ z, l[i]? = some z ∧ x = f z := by
  rw [List.getElem?_map] at h
  cases e : l[i]? with
  | none => rw [e] at h; cases h
  | some z => rw [e] at h; exact ⟨z, rfl, (Option.some.inj h).symm⟩
section
variable {P : Program} {w : World} {K : PySem.W.Frag} {mg : Str → Option Value} {base : Heap}
/-! ### pastless.vaults: what a vault tells -/
def spSizes (K : PySem.W.Frag) (f : Int × Int → Int) : Sp := fun vs H Q _ => ∃ (p : Addr) (v : Vlt), vs = [.ref p] ∧ VaultAt K H p v ∧ v.cells.length ≤ 6 ∧ ∀ a H', Same H H' → H' a = some (.tup ((v.cells.map f).map V.int)) → Q (.ref a) H'
end

end M

set_option Elab.async false
set_option linter.all false
set_option maxRecDepth 100000
set_option maxHeartbeats 2000000
namespace M
open PySem PySem.Spec PyProof.Rows L2

/-! ### any walk: Pv by the turn and the heap -/
section
variable {J : It} {n : Nat} {G : Hp → Prop} {Y : Nat → Hp → V → Hp → Prop}
theorem it_any (w : Walk J n G Y) {B : (Hp → Prop) → V → Hp → Prop} {H1 : Hp} {Qd : Hp → Prop} (Pv : Nat → Hp → Prop) (h0 : Pv 0 H1) (hG : ∀ i H, i ≤ n → Pv i H → G H) (hs : ∀ i x H H', i < n → Pv i H → Y i H x H' → B (Pv (i + 1)) x H')
    (hd : ∀ H, Pv n H → Qd H) : ∃ W : Nat → Nat → Hp → Prop, (∃ m, W 0 m H1) ∧ ∀ i m H, W i m H → (J.stop i H ∧ Qd H) ∨ (J.go i H ∧ ∃ Nx : Hp → Prop, (∀ H', Nx H' → ∃ m', m' < m ∧ W (i + 1) m' H') ∧ ∀ x H', J.yld i H x H' → B Nx x H') := by
  refine ⟨fun i m H => m + i = n ∧ Pv i H, ⟨n, rfl, h0⟩, fun i m H ⟨hm, hp⟩ => ?_⟩
  have hg := hG i H (by omega) hp
  rcases Nat.lt_or_ge i n with hi | hi
  · exact .inr ⟨w.goes i H hi hg, Pv (i + 1), fun H' hp' => ⟨m - 1, by omega, by omega, hp'⟩, fun x H' y => hs i x H H' hi hp (w.yields i H x H' hi hg y)⟩
  · obtain rfl : i = n := by omega
    exact .inl ⟨w.stops H hg, hd H hp⟩
end
/-- the tuples of calls -/
def TupsAt (H : Hp) : List V → List (Str × Int) → Prop
  | [], [] => True
  | y :: ys, c :: cs => (∃ t, y = .ref t ∧ H t = some (.tup [.str c.1, .int c.2])) ∧ TupsAt H ys cs
  | _, _ => False
theorem tups_but {D : Addr} {H H' : Hp} (hD : Ch H D) (s : But D H H') : ∀ {ys : List V} {cs : List (Str × Int)}, TupsAt H ys cs → TupsAt H' ys cs
  | [], [], _ => trivial
  | _ :: _, _ :: _, ⟨⟨t, e, h⟩, r⟩ => ⟨⟨t, e, s t _ (fun z => hD.1 _ (z ▸ h)) h⟩, tups_but hD s r⟩
  | [], _ :: _, h => h.elim
  | _ :: _, [], h => h.elim
theorem tups_same {H H' : Hp} (s : Same H H') : ∀ {ys : List V} {cs : List (Str × Int)}, TupsAt H ys cs → TupsAt H' ys cs
  | [], [], _ => trivial
  | _ :: _, _ :: _, ⟨⟨t, e, h⟩, r⟩ => ⟨⟨t, e, s t _ h⟩, tups_same s r⟩
  | [], _ :: _, h => h.elim
  | _ :: _, [], h => h.elim
theorem tups_len {H : Hp} : ∀ {ys : List V} {cs : List (Str × Int)}, TupsAt H ys cs → ys.length = cs.length
  | [], [], _ => rfl
  | _ :: _, _ :: _, ⟨_, r⟩ => congrArg (· + 1) (tups_len r)
  | [], _ :: _, h => h.elim
  | _ :: _, [], h => h.elim
theorem tups_snoc {H : Hp} {t : Addr} {c : Str × Int} (ht : H t = some (.tup [.str c.1, .int c.2])) : ∀ {ys : List V} {cs : List (Str × Int)}, TupsAt H ys cs → TupsAt H (ys ++ [.ref t]) (cs ++ [c])
  | [], [], _ => ⟨⟨t, rfl, ht⟩, trivial⟩
  | _ :: _, _ :: _, ⟨h, r⟩ => ⟨h, tups_snoc ht r⟩
  | [], _ :: _, h => h.elim
  | _ :: _, [], h => h.elim
theorem tups_get {H : Hp} : ∀ {ys : List V} {cs : List (Str × Int)} {i : Nat} {y : V}, TupsAt H ys cs → ys[i]? = some y → ∃ c t, cs[i]? = some c ∧ y = .ref t ∧ H t = some (.tup [.str c.1, .int c.2])
  | [], [], i, y, _, e => by simp at e
  | _ :: _, c :: _, 0, y, ⟨⟨t, e, h⟩, r⟩, z => by
    cases (Option.some.inj z)
    exact ⟨c, t, rfl, e, h⟩
  | _ :: _, _ :: _, i + 1, y, ⟨h, r⟩, z => tups_get (i := i) r z
  | [], _ :: _, _, _, h, _ => h.elim
  | _ :: _, [], _, _, h, _ => h.elim
theorem take_more {α : Type} {l : List α} {i : Nat} {x : α} (h : l[i]? = some x) : l.take (i + 1) = l.take i ++ [x] := by
  rw [List.take_add_one, h]
  rfl
theorem range_more (j : Nat) : List.range (j + 1) = List.range j ++ [j] := List.range_succ
/-- all but the dict of a name -/
theorem codes_get {K : PySem.W.Frag} {H : Hp} : ∀ {kvs : List (Key × V)} {ds : List (Str × Int × List Row)} {d : Str × Int × List Row}, CodesR K H kvs ds → (ds.map (·.1)).Nodup → d ∈ ds → ∃ v, valV kvs (Sum.inr d.1 : Key) = some v ∧ Dp K H v (codeD d.2.2)
  | [], [], d, _, _, h => by cases h
  | (k, v) :: r, e :: ds, d, h, n, hd => by
    obtain ⟨rfl, hv, hr⟩ := h
    rw [List.map_cons, List.nodup_cons] at n
    by_cases q : e.1 = d.1
    · have : d = e := by
        rcases List.mem_cons.mp hd with z | z
        · exact z
        · exact absurd (q ▸ List.mem_map.mpr ⟨d, z, rfl⟩) n.1
      subst this
      refine ⟨v, ?_, hv⟩
      unfold valV
      rw [List.find?_cons_of_pos (by simp)]
      rfl
    · have hd' : d ∈ ds := by
        rcases List.mem_cons.mp hd with z | z
        · exact absurd (by rw [z]) q
        · exact z
      obtain ⟨u, hu, hw⟩ := codes_get hr n.2 hd'
      refine ⟨u, ?_, hw⟩
      unfold valV at hu ⊢
      rw [List.find?_cons_of_neg (by simp [q])]
      exact hu
  | [], _ :: _, _, h, _, _ => h.elim
  | _ :: _, [], _, h, _, _ => h.elim
/-! ### no lists within -/
theorem Exp.noL : ∀ e : Exp, NoL e.d
  | .num n => .int n
  | .reg r => .str r
  | .op s a b => .tup fun d h => by
    rcases List.mem_cons.mp h with rfl | h
    · exact .str s
    rcases List.mem_cons.mp h with rfl | h
    · exact a.noL
    rcases List.mem_cons.mp h with rfl | h
    · exact b.noL
    cases h
mutual
theorem Row.noL : ∀ r : Row, NoL r.d
  | .read r c => .tup (by intro d h; simp at h; rcases h with rfl | rfl | rfl <;> constructor)
  | .set c e => .tup (by intro d h; simp at h; rcases h with rfl | rfl | rfl <;> first | exact e.noL | constructor)
  | .swap r c e f => .tup (by intro d h; simp at h; rcases h with rfl | rfl | rfl | rfl | rfl <;> first | exact e.noL | exact f.noL | constructor)
  | .keep r e => .tup (by intro d h; simp at h; rcases h with rfl | rfl | rfl <;> first | exact e.noL | constructor)
  | .coin r => .tup (by intro d h; simp at h; rcases h with rfl | rfl <;> constructor)
  | .iff e a b => .tup (by intro d h; simp at h; rcases h with rfl | rfl | rfl | rfl <;> first | exact e.noL | exact .tup (rows_noL a) | exact .tup (rows_noL b) | constructor)
  | .times e a => .tup (by intro d h; simp at h; rcases h with rfl | rfl | rfl <;> first | exact e.noL | exact .tup (rows_noL a) | constructor)
  | .ans e => .tup (by intro d h; simp at h; rcases h with rfl | rfl <;> first | exact e.noL | constructor)
theorem rows_noL : ∀ rs : List Row, ∀ d ∈ rowsD rs, NoL d
  | [], d, h => by cases h
  | r :: rs, d, h => by
    rcases List.mem_cons.mp h with rfl | h
    · exact r.noL
    · exact rows_noL rs d h
end
theorem FR.noL : ∀ r : FR, NoL r.d
  | .row r => r.noL
  | .unless e p => .tup (by intro d h; simp at h; rcases h with rfl | rfl | rfl <;> first | exact e.noL | constructor)
  | .on p => .tup (by intro d h; simp at h; rcases h with rfl | rfl <;> constructor)
  | .rounds e => .tup (by intro d h; simp at h; rcases h with rfl | rfl <;> first | exact e.noL | constructor)
  | .round p => .tup (by intro d h; simp at h; rcases h with rfl | rfl <;> constructor)
  | .hole => .tup (by intro d h; cases h)
theorem code_noL (rs : List Row) : NoL (codeD rs) := .tup fun d h => by
  obtain ⟨r, _, rfl⟩ := List.mem_map.mp h
  exact r.noL
section
variable {P : Program} {w : World} {K : PySem.W.Frag} {mg : Str → Option Value} {base : Heap}
def spCalls (K : PySem.W.Frag) : Sp := fun vs H Q _ => ∃ (p : Addr) (v : Vlt), vs = [.ref p] ∧ VaultAt K H p v ∧ VOk v ∧ ∀ a ys H', Same H H' → H' a = some (.lst ys) → TupsAt H' ys v.calls → Q (.ref a) H'
end

end M

set_option Elab.async false
set_option linter.all false
set_option maxRecDepth 100000
set_option maxHeartbeats 2000000
namespace M
open PySem PySem.Spec PyProof.Rows L2

/-- the def x of the module, its parameters told -/
structure Cf (P : Program) (w : World) (K : PySem.W.Frag) (mg : Str → Option Value) (base : Heap) (k : Nat) (x : Str) (ps : List Str) (sp : Sp) : Prop where
  ex : ∃ (fd : FuncData) (oc : Value) (od : Option Addr) (osl : Array (Option Value)), K.lookup (He.ga K x) = some ⟨oc, od, .func fd, osl⟩ ∧ FnOk P w K mg base CX0 k (He.ga K x) fd ps sp ∧ PySem.W.keepIn K (.ref (He.ga K x)) = true ∧ Binds K fd ps []
  g : mg x = some (.ref (He.ga K x))
theorem cf_of {P : Program} {w : World} {K : PySem.W.Frag} {mg : Str → Option Value} {base : Heap} {x : Str} {st : Stmt} {N ps : List Str} {k : Nat} {sp : Sp} (F : ∃ fd, FunD K x x (defArgs st) (defBody st) (defScope st) [] [] (He.fAd K (x, none)) fd) (g : mg x = some (.ref (He.ga K x))) (S : FnScope N ps (defScope st)) (hb : BindsH x x st ps)
    (len : ∀ vs H Q E, sp vs H Q E → vs.length = ps.length) (hbody : BodyH P w K mg base x st N k (He.fAd K (x, none)) sp) : Cf P w K mg base (k + 1) x ps sp := by
  obtain ⟨fd, F⟩ := F
  obtain ⟨oc, od, dV, kV, doc, pm, an, cdv, ct, osl, e, lk, _⟩ := F.ex
  exact ⟨⟨fd, oc, od, osl, lk, fn_d F S len hbody, F.kp, F.bindsN hb⟩, g⟩
theorem Cf.mono {P : Program} {w : World} {K : PySem.W.Frag} {mg : Str → Option Value} {base : Heap} {x : Str} {ps : List Str} {j k : Nat} {sp : Sp} (c : Cf P w K mg base j x ps sp) (h : j ≤ k) : Cf P w K mg base k x ps sp := by
  obtain ⟨fd, oc, od, osl, lk, F, r⟩ := c.ex
  exact ⟨⟨fd, oc, od, osl, lk, F.mono h, r⟩, c.g⟩
theorem ne_ho {H : Hp} {a b : Addr} {o p : HO} (ha : H a = some o) (hb : H b = some p) (n : o ≠ p) : a ≠ b := fun e => n (by rw [e, hb] at ha; exact (Option.some.inj ha).symm)
theorem at0 {a : V} {xs : List V} : atI (a :: xs) 0 = some a := atI_nat (xs := a :: xs) (j := 0) rfl
theorem at1 {a b : V} {xs : List V} : atI (a :: b :: xs) 1 = some b := atI_nat (xs := a :: b :: xs) (j := 1) rfl
theorem at2 {a b c : V} {xs : List V} : atI (a :: b :: c :: xs) 2 = some c := atI_nat (xs := a :: b :: c :: xs) (j := 2) rfl
theorem at3 {a b c d : V} {xs : List V} : atI (a :: b :: c :: d :: xs) 3 = some d := atI_nat (xs := a :: b :: c :: d :: xs) (j := 3) rfl
def NameOk (s : Str) : Prop := 1 ≤ s.length ∧ s.length ≤ 8 ∧ ∀ c ∈ s.cps.toList, 97 ≤ c ∧ c ≤ 122
theorem sign_le {a c : Nat} (h : a ≤ c) : (!decide (([c] : List Nat) < [a])) = true := by
  have : ¬ (([c] : List Nat) < [a]) := by
    rw [List.cons_lt_cons_iff]
    rintro (h1 | ⟨_, h2⟩)
    · omega
    · exact absurd h2 (by simp)
  rw [decide_eq_false this]
  rfl
theorem if_true_of {c : Bool} {A B : Prop} (hc : c = true) (h : A) : if c = true then A else B := by
  rw [if_pos hc]
  exact h
theorem if_not_of {c : Bool} {A B : Prop} (hc : c = true) (h : B) : if (!c) = true then A else B := by
  rw [hc]
  exact iteF h
theorem getD_mem {l : List Int} {i : Nat} {d : Int} (h : i < l.length) : l.getD i d ∈ l := by
  rw [List.getD_eq_getElem?_getD, List.getElem?_eq_getElem h]
  exact List.getElem_mem h
theorem atK {l : List Int} {k : Int} {n : Nat} (h0 : 0 ≤ k) (hk : k < n) (hn : l.length = n) : atI (l.map V.int) k = some (.int (l.getD k.toNat 0)) := by
  have e : ((k.toNat : Nat) : Int) = k := Int.toNat_of_nonneg h0
  have hl : k.toNat < l.length := by omega
  have := atI_nat (xs := l.map V.int) (j := k.toNat) (v := .int (l.getD k.toNat 0)) (by
    rw [List.getElem?_map, List.getD_eq_getElem?_getD, List.getElem?_eq_getElem hl]
    rfl)
  rw [e] at this
  exact this
theorem none_of {H H' : Hp} {x : Addr} (s : Same H H') (h : H' x = none) : H x = none := by
  cases e : H x with
  | none => rfl
  | some o => rw [s _ _ e] at h; cases h
theorem let26 {i : Int} (h : 0 ≤ i ∧ i < 26) : atI ("abcdefghijklmnopqrstuvwxyz" : Str).cps.toList i = some (97 + i.toNat) := by
  obtain ⟨k, rfl⟩ : ∃ k : _root_.Fin 26, i = ((k.val : Nat) : Int) := ⟨⟨i.toNat, by omega⟩, by show i = ((i.toNat : Nat) : Int); omega⟩
  revert k
  decide +kernel
theorem joinL_nil : ∀ ps : List (List Nat), TL.joinL [] ps = ps.flatten
  | [] => rfl
  | [p] => by show p = p ++ []; rw [List.append_nil]
  | p :: q :: r => by
    show p ++ ([] ++ TL.joinL [] (q :: r)) = p ++ (q :: r).flatten
    rw [List.nil_append, joinL_nil (q :: r)]
theorem join_letters {ss : List Str} (h : ∀ s ∈ ss, ∃ c, s = ⟨#[c]⟩ ∧ 97 ≤ c ∧ c ≤ 122) : (Txt.join ("" : Str) ss).cps.toList.length = ss.length ∧ ∀ c ∈ (Txt.join ("" : Str) ss).cps.toList, 97 ≤ c ∧ c ≤ 122 := by
  have e : (Txt.join ("" : Str) ss).cps.toList = (ss.map TL.tl).flatten := by
    have := TL.tl_join ("" : Str) ss
    rw [← TL.join_eq] at this
    rw [← joinL_nil]
    exact this
  rw [e]
  clear e
  induction ss with
  | nil => exact ⟨rfl, fun c hc => by cases hc⟩
  | cons s r ih =>
    obtain ⟨c, rfl, h1, h2⟩ := h s List.mem_cons_self
    obtain ⟨i1, i2⟩ := ih fun x hx => h x (List.mem_cons_of_mem _ hx)
    have et : TL.tl (⟨#[c]⟩ : Str) = [c] := rfl
    rw [List.map_cons, List.flatten_cons, et]
    refine ⟨by rw [List.length_append, i1]; simp; omega, fun d hd => ?_⟩
    rcases List.mem_append.mp hd with hd | hd
    · rw [List.mem_singleton.mp hd]
      exact ⟨h1, h2⟩
    · exact i2 d hd
theorem str_len (s : Str) : s.length = s.cps.toList.length := by rw [Array.length_toList]; rfl
theorem boot_all : bootBuiltins "all" = some (.builtin "all") := by decide +kernel
section
variable {P : Program} {w : World} {K : PySem.W.Frag} {mg : Str → Option Value} {base : Heap}
def spName : Sp := fun vs H Q _ => ∃ (s : Str), vs = [.str s] ∧ NameOk s ∧ Q (.bl true) H
end

end M

set_option Elab.async false
set_option linter.all false
set_option maxRecDepth 100000
set_option maxHeartbeats 2000000
namespace M
open PySem PySem.Spec PyProof.Rows L2

/-! ### what the law draws -/
def PoolAt (H : Hp) (a : Addr) : Prop := ∃ g s n : Int, H a = some (.lst [.int g, .int s, .int n]) ∧ 0 ≤ g ∧ (0 ≤ s ∧ s < 1099511627776) ∧ 0 ≤ n
section
variable {P : Program} {w : World} {K : PySem.W.Frag} {mg : Str → Option Value} {base : Heap}
def spPool (K : PySem.W.Frag) : Sp := fun vs H Q _ => ∃ (a : Addr) (ns : List Int) (k : Int), vs = [.ref a, .int k] ∧ SqL K H a (ns.map .int) ∧ ns.length ≤ 63 ∧ (0 ≤ k ∧ k ≤ 63) ∧ ∀ (p : Addr) (H' : Hp), Same H H' → H p = none → PoolAt H' p → Q (.ref p) H'
theorem ca_l_pool (T : Txt w K mg) : Ca P w K mg base 1 "_law_pool" (spPool K) := by
  refine ca_of (N := ["_law_script", "_law_k", "_law_cell", "_law_seed"]) (ps := ["_law_script", "_law_k"]) T.f_l_pool T.g_law_pool ⟨rfl, rfl, rfl, by decide +kernel, rfl, by decide +kernel, by decide +kernel⟩ (fun _ _ _ _ _ _ us hl => match us, hl with | [_, _], _ => rfl)
    (fun vs H Q E h => by obtain ⟨a, ns, k, rfl, ha, hl, hk, q⟩ := h; rfl) (fun cdv A outer s H vs Q E hr h => ?_)
  have nd : (["_law_script", "_law_k", "_law_cell", "_law_seed"] : List Str).Nodup := by decide +kernel
  obtain ⟨a, ns, k, rfl, ha, hl, hk, q⟩ := h
  refine ⟨_, (pss_cons (ps_if (pt_cmpR op_eq (pe_callB call_len_seq (by rfl) T.b_len PySem.boot_len (pa_cons (pv 0) pa_nil)) pe_int (nomark _)) (pss_one (ps_ret (pe_lst (pa_cons pe_int (pa_cons (pe_op op_add pe_int (pe_op op_mul pe_int (pv 1))) (pa_cons pe_int pa_nil)))))) pss_nil)
      (pss_cons (ps_set (i := 2) nd rfl (.inl rfl) (pe_callB call_abs (by rfl) T.b_abs boot_abs (pa_cons (pe_ix ix_list (pv 0) (pe_op op_mod (pv 1) (pe_callB call_len_seq (by rfl) T.b_len PySem.boot_len (pa_cons (pv 0) pa_nil))) (fun _ _ => rfl)) pa_nil)))
      (pss_cons (ps_set (i := 3) nd rfl (.inl rfl) (pe_op op_add (pe_op op_add (pe_op op_mod (pe_callTy call_int1 (by rfl) T.b_int boot_int (pa_cons (pv 2) pa_nil)) pe_int) (pe_op op_mul pe_int (pv 1))) (pe_callTy call_int1 (by rfl) T.b_int boot_int (pa_cons (pe_cmpR op_lt (pe_ix ix_list (pv 0) (pe_op op_mod (pv 1) (pe_callB call_len_seq (by rfl) T.b_len PySem.boot_len (pa_cons (pv 0) pa_nil))) (fun _ _ => rfl)) pe_int (nomark _)) pa_nil))))
      (pss_cons (ps_if (PW.pt (pw_and (pt_cmpR op_lt (pv 1) (pe_callB call_len_seq (by rfl) T.b_len PySem.boot_len (pa_cons (pv 0) pa_nil)) (nomark _)) (pw_and1 (pt_cmpR op_ge (pv 2) (pe_op op_pow pe_int pe_int) (nomark _))))) (pss_one (ps_ret (pe_lst (pa_cons (pv 2) (pa_cons (pv 3) (pa_cons pe_int pa_nil)))))) pss_nil)
      (pss_one (ps_ret (pe_lst (pa_cons pe_int (pa_cons (pv 3) (pa_cons pe_int pa_nil)))))))))), ?_⟩
  refine ⟨_, rfl, _, _, rfl, .inl ha, rfl, _, rfl, ?_⟩
  by_cases c : ns.length = 0
  · rw [decide_eq_true (show V.int ((ns.map V.int).length : Nat) = V.int 0 from by rw [List.length_map, c]; rfl)]
    refine iteT ⟨_, rfl, _, _, rfl, rfl, .inl (by decide), _, _, rfl, rfl, (by show 3 ≤ sizeLine; decide), fun p np => ?_⟩
    exact q p _ (same_new np) np ⟨_, _, _, upd_same, by decide, by omega, by decide⟩
  · rw [decide_eq_false (show ¬ V.int ((ns.map V.int).length : Nat) = V.int 0 from fun z => c (by have := V.int.inj z; rw [List.length_map] at this; omega))]
    refine iteF ?_
    have hm0 := Int.emod_nonneg k (show ((ns.map V.int).length : Int) ≠ 0 by rw [List.length_map]; omega)
    have hm1 := Int.emod_lt_of_pos k (show (0 : Int) < ((ns.map V.int).length : Nat) by rw [List.length_map]; omega)
    have hat := atK (l := ns) hm0 hm1 (by rw [List.length_map])
    generalize ns.getD (k % ((ns.map V.int).length : Nat)).toNat 0 = x at hat
    have pos : (fun (_ j : Int) => 0 < j) k ((ns.map V.int).length : Nat) := by show (0 : Int) < ((ns.map V.int).length : Nat); rw [List.length_map]; omega
    refine ⟨_, rfl, _, rfl, _, rfl, _, _, rfl, .inl ha, _, _, rfl, rfl, pos, _, _, _, _, rfl, rfl, ha, hat, _, rfl, ?_⟩
    have hx : 0 ≤ (if x < 0 then -x else x) := by split <;> omega
    generalize (if x < 0 then -x else x) = z at hx
    refine ⟨_, rfl, .inl ⟨_, rfl, _, _, rfl, rfl, (by show (0 : Int) < 2147483629; decide), _, rfl, _, _, rfl, rfl, .inl (by decide), _, _, rfl, rfl, ?_⟩⟩
    refine ⟨_, rfl, _, rfl, _, rfl, _, _, rfl, .inl ha, _, _, rfl, rfl, pos, _, _, _, _, rfl, rfl, ha, hat, _, _, rfl, rfl, .inr ⟨_, rfl, _, _, rfl, rfl, ?_⟩⟩
    have s0 : 0 ≤ (if decide (x < 0) = true then (1 : Int) else 0) ∧ (if decide (x < 0) = true then (1 : Int) else 0) ≤ 1 := by split <;> omega
    have z0 := Int.emod_nonneg z (show (2147483629 : Int) ≠ 0 by decide)
    have z1 := Int.emod_lt_of_pos z (show (0 : Int) < 2147483629 by decide)
    have sb : 0 ≤ z % 2147483629 + 1009 * k + (if decide (x < 0) = true then (1 : Int) else 0) ∧ z % 2147483629 + 1009 * k + (if decide (x < 0) = true then (1 : Int) else 0) < 1099511627776 := by omega
    refine ⟨_, rfl, _, rfl, _, _, rfl, .inl ha, _, _, rfl, rfl, _, rfl, ?_⟩
    have no : ∀ p, H p = none → Q (.ref p) (upd H p (.lst [.int 0, .int (z % 2147483629 + 1009 * k + (if decide (x < 0) = true then (1 : Int) else 0)), .int 0])) := fun p np => q p _ (same_new np) np ⟨_, _, _, upd_same, by decide, sb, by decide⟩
    by_cases c1 : k < ((ns.map V.int).length : Nat)
    · rw [decide_eq_true c1]
      refine iteT ⟨_, rfl, _, _, rfl, rfl, ⟨by decide, by decide, by decide⟩, _, _, rfl, rfl, _, rfl, ?_⟩
      by_cases c2 : (10 ^ (18 : Int).toNat : Int) ≤ z
      · rw [decide_eq_true c2]
        refine iteT ⟨_, rfl, _, rfl, (by show 3 ≤ sizeLine; decide), fun p np => ?_⟩
        exact q p _ (same_new np) np ⟨_, _, _, upd_same, hx, sb, by decide⟩
      · rw [decide_eq_false c2]
        exact iteF ⟨_, rfl, (by show 3 ≤ sizeLine; decide), no⟩
    · rw [decide_eq_false c1]
      exact iteF ⟨_, rfl, (by show 3 ≤ sizeLine; decide), no⟩
def spDraw : Sp := fun vs H Q _ => ∃ (a : Addr) (m : Int), vs = [.ref a, .int m] ∧ PoolAt H a ∧ (1 ≤ m ∧ m ≤ 1000) ∧ ∀ (i : Int) (H' : Hp), But a H H' → PoolAt H' a → (0 ≤ i ∧ i < m) → Q (.int i) H'
theorem ca_l_draw (T : Txt w K mg) : Ca P w K mg base 1 "_law_draw" (spDraw) := by
  refine ca_of (N := ["_law_pool_here", "_law_many", "_law_digit", "_law_number"]) (ps := ["_law_pool_here", "_law_many"]) T.f_l_draw T.g_law_draw ⟨rfl, rfl, rfl, by decide +kernel, rfl, by decide +kernel, by decide +kernel⟩ (fun _ _ _ _ _ _ us hl => match us, hl with | [_, _], _ => rfl)
    (fun vs H Q E h => by obtain ⟨a, m, rfl, ⟨g, sd, n, hp, hg, hs, hn⟩, hm, q⟩ := h; rfl) (fun cdv A outer s H vs Q E hr h => ?_)
  have nd : (["_law_pool_here", "_law_many", "_law_digit", "_law_number"] : List Str).Nodup := by decide +kernel
  obtain ⟨a, m, rfl, ⟨g, sd, n, hp, hg, hs, hn⟩, hm, q⟩ := h
  refine ⟨_, (pss_cons (ps_if (pt_cmpR op_gt (pe_ix ix_list (pv 0) pe_int (fun _ _ => rfl)) pe_int (nomark _)) (pss_cons (ps_set (i := 2) nd rfl (.inl rfl) (pe_op op_mod (pe_callTy call_int1 (by rfl) T.b_int boot_int (pa_cons (pe_ix ix_list (pv 0) pe_int (fun _ _ => rfl)) pa_nil)) (pv 1)))
      (pss_cons (ps_asg (pe_op op_fdiv (pe_ix ix_list (pv 0) pe_int (fun _ _ => rfl)) (pv 1)) (pg_sub (pv 0) pe_int set_list))
      (pss_one (ps_ret (pv 2))))) pss_nil)
      (pss_cons (ps_asg (pe_op op_add (pe_ix ix_list (pv 0) pe_int (fun _ _ => rfl)) pe_int) (pg_sub (pv 0) pe_int set_list))
      (pss_cons (ps_set (i := 3) nd rfl (.inl rfl) (pe_op op_mod (pe_callTy call_int1 (by rfl) T.b_int boot_int (pa_cons (pe_op op_mul (pe_op op_add (pe_ix ix_list (pv 0) pe_int (fun _ _ => rfl)) pe_int) (pe_op op_add (pe_op op_mul pe_int (pe_ix ix_list (pv 0) pe_int (fun _ _ => rfl))) pe_int)) pa_nil)) pe_int))
      (pss_cons (ps_set (i := 3) nd rfl (.inl rfl) (pe_op op_mod (pe_callTy call_int1 (by rfl) T.b_int boot_int (pa_cons (pe_op op_mul (pv 3) (pe_op op_add (pe_op op_fdiv (pv 3) pe_int) pe_int)) pa_nil)) pe_int))
      (pss_cons (ps_set (i := 3) nd rfl (.inl rfl) (pe_op op_mod (pe_callTy call_int1 (by rfl) T.b_int boot_int (pa_cons (pe_op op_mul (pv 3) (pe_op op_add (pe_op op_fdiv (pv 3) pe_int) pe_int)) pa_nil)) pe_int))
      (pss_one (ps_ret (pe_op op_mod (pe_callTy call_int1 (by rfl) T.b_int boot_int (pa_cons (pe_op op_fdiv (pv 3) pe_int) pa_nil)) (pv 1))))))))), ?_⟩
  have hsq : SqL K H a [.int g, .int sd, .int n] := .of hp
  refine ⟨_, rfl, _, _, _, _, rfl, rfl, hsq, at0, _, _, rfl, rfl, _, rfl, ?_⟩
  by_cases c : (0 : Int) < g
  · rw [decide_eq_true c]
    refine iteT ?_
    refine ⟨_, rfl, _, _, _, _, rfl, rfl, hsq, at0, .inl ⟨_, rfl, _, rfl, _, _, rfl, rfl, (by show (0 : Int) < m; omega), ?_⟩⟩
    refine ⟨_, rfl, _, _, _, _, rfl, rfl, hsq, at0, _, rfl, _, _, rfl, rfl, ⟨(by show (0 : Int) < m; omega), (by show m < 1073741824; omega)⟩, ?_⟩
    refine ⟨_, rfl, a, _, _, 0, rfl, rfl, hp, rfl, ?_⟩
    refine ⟨_, rfl, q _ _ But.upd ⟨g / m, sd, n, upd_same, Int.ediv_nonneg (by omega) (by omega), hs, hn⟩ ⟨Int.emod_nonneg _ (by omega), Int.emod_lt_of_pos _ (by omega)⟩⟩
  · rw [decide_eq_false c]
    refine iteF ?_
    refine ⟨_, rfl, _, _, _, _, rfl, rfl, hsq, at2, _, _, rfl, rfl, _, rfl, a, _, _, 2, rfl, rfl, hp, rfl, ?_⟩
    have hp2 : upd H a (.lst (([.int g, .int sd, .int n] : List V).set 2 (.int (n + 1)))) a = some (.lst [.int g, .int sd, .int (n + 1)]) := upd_same
    have b2 : But a H (upd H a (.lst (([.int g, .int sd, .int n] : List V).set 2 (.int (n + 1))))) := But.upd
    have hsq2 : SqL K _ a [.int g, .int sd, .int (n + 1)] := .of hp2
    have md : ∀ (u : Int), (fun (_ j : Int) => 0 < j) u m := fun u => by show (0 : Int) < m; omega
    refine ⟨_, rfl, _, _, _, _, rfl, rfl, hsq2, at1, _, _, rfl, rfl, _, rfl, _, _, _, _, rfl, rfl, hsq2, at2, _, _, rfl, rfl, .inl (by decide), _, _, rfl, rfl, _, _, rfl, rfl, .inl ?_, .inl ⟨_, rfl, _, _, rfl, rfl, (by show (0 : Int) < 2147483647; decide), ?_⟩⟩
    · show -(2 ^ 64) < sd + 1 ∧ sd + 1 < 2 ^ 64
      omega
    have mb : ∀ u : Int, -(2 ^ 64) < u % 2147483647 ∧ u % 2147483647 < 2 ^ 64 := fun u => by
      have h0 := Int.emod_nonneg u (show (2147483647 : Int) ≠ 0 by decide)
      have h1 := Int.emod_lt_of_pos u (show (0 : Int) < 2147483647 by decide)
      omega
    refine ⟨_, rfl, _, rfl, _, _, rfl, rfl, ⟨(by show (0 : Int) < 1009; decide), (by show (1009 : Int) < 1073741824; decide)⟩, _, _, rfl, rfl, _, _, rfl, rfl, .inl (by constructor <;> omega), .inl ⟨_, rfl, _, _, rfl, rfl, (by show (0 : Int) < 2147483647; decide), ?_⟩⟩
    refine ⟨_, rfl, _, rfl, _, _, rfl, rfl, ⟨(by show (0 : Int) < 2003; decide), (by show (2003 : Int) < 1073741824; decide)⟩, _, _, rfl, rfl, _, _, rfl, rfl, .inl (by constructor <;> omega), .inl ⟨_, rfl, _, _, rfl, rfl, (by show (0 : Int) < 2147483399; decide), ?_⟩⟩
    refine ⟨_, rfl, _, _, rfl, rfl, ⟨(by show (0 : Int) < 16; decide), (by show (16 : Int) < 1073741824; decide)⟩, .inl ⟨_, rfl, _, rfl, _, _, rfl, rfl, (by show (0 : Int) < m; omega), ?_⟩⟩
    exact q _ _ b2 ⟨g, sd, n + 1, hp2, hg, hs, by omega⟩ ⟨Int.emod_nonneg _ (by omega), Int.emod_lt_of_pos _ (by omega)⟩
end

end M

set_option Elab.async false
set_option linter.all false
set_option maxRecDepth 100000
set_option maxHeartbeats 2000000
namespace M
open PySem PySem.Spec PyProof.Rows L2

theorem PoolAt.ch {H : Hp} {a : Addr} (h : PoolAt H a) : Ch H a := by
  obtain ⟨_, _, _, h, _⟩ := h
  exact .lst h
theorem PoolAt.same {H H' : Hp} {a : Addr} (s : Same H H') (h : PoolAt H a) : PoolAt H' a := by
  obtain ⟨_, _, _, h, r⟩ := h
  exact ⟨_, _, _, s _ _ h, r⟩
theorem PoolAt.at {H : Hp} {a : Addr} (h : PoolAt H a) : ∃ l, H a = some (.lst l) := by
  obtain ⟨_, _, _, h, _⟩ := h
  exact ⟨_, h⟩
theorem PoolAt.but {H H' : Hp} {a D : Addr} (ne : a ≠ D) (b : But D H H') (h : PoolAt H a) : PoolAt H' a := by
  obtain ⟨_, _, _, h, r⟩ := h
  exact ⟨_, _, _, b _ _ ne h, r⟩
theorem pool_ne {H : Hp} {p b : Addr} (h : PoolAt H p) (nb : H b = none) : p ≠ b := fun e => by
  obtain ⟨_, _, _, h, _⟩ := h
  rw [e, nb] at h
  cases h
theorem pool_nl {H : Hp} {p l : Addr} (h : PoolAt H p) (nb : H l = none) : l ≠ p := fun e => (pool_ne h nb) e.symm
theorem ix_tupK {X : Cx} (K : PySem.W.Frag) (hK : X.K = K) : IxR X (rIxT K) := hK ▸ ix_tup

end M

set_option Elab.async false
set_option linter.all false
set_option maxRecDepth 100000
set_option maxHeartbeats 2000000
namespace M
open PySem PySem.Spec PyProof.Rows L2

/-- the tuple (tuple, list) of types -/
abbrev two_ty : List V := [.ty "tuple", .ty "list"]
theorem of_ty {K : PySem.W.Frag} {H : Hp} {v : V} {k : Kd} (h : Of K H v k) (hk : k ≠ .obj) : TyX K H v (.type k.name) := by
  cases h with
  | non => exact .base .non
  | bl b => exact .base (.bl b)
  | int b => exact .base (.int b)
  | str b => exact .base (.str b)
  | list b => exact ty_sqL b
  | tuple b => exact ty_sqT b
  | dict b => exact b
  | obj b _ => exact absurd rfl hk
def rIs2 (K : PySem.W.Frag) : List V → Hp → VK → Prop := fun xs H Q => ∃ (v : V) (k : Kd) (tp : Addr), xs = [v, .ref tp] ∧ H tp = some (.tup two_ty) ∧ Of K H v k ∧ k ≠ .obj ∧ Q (.bl (k.is .tuple || k.is .list)) H
theorem call_is2 {X : Cx} : CallR X (.builtin "isinstance") (rIs2 X.K) := callR_imp call_isiT fun vs H Q ⟨v, k, tp, e, ht, h, hk, q⟩ => by
  subst e
  refine ⟨v, tp, two_ty, .type k.name, [.type "tuple", .type "list"], _, rfl, ht, .cons (.ty _) (.cons (.ty _) .nil), of_ty h hk, ?_, q⟩
  have h1 := kd_kit (K := X.K) k .tuple hk (by decide)
  have h2 := kd_kit (K := X.K) k .list hk (by decide)
  exact kitAny_cons h1 (fun e => kitAny_cons h2 (fun e2 => by rw [kitAny_nil, e, e2]; rfl) (fun e2 => by rw [e2, Bool.or_true])) (fun e => by rw [e, Bool.true_or])
theorem kdOf_obj (d : PyData) : kdOf d ≠ .obj := by
  cases d <;> simp [kdOf]
mutual
def dpt : PyData → Nat
  | .tuple ds => dpts ds + 1
  | .list ds => dpts ds + 1
  | _ => 0
def dpts : List PyData → Nat
  | [] => 0
  | d :: r => Nat.max (dpt d) (dpts r)
end
mutual
/-- no sequence in it is longer than this -/
def nar : PyData → Prop
  | .tuple ds => ds.length ≤ 100000 ∧ nars ds
  | .list ds => ds.length ≤ 100000 ∧ nars ds
  | _ => True
def nars : List PyData → Prop
  | [] => True
  | d :: r => nar d ∧ nars r
end
theorem nars_at : ∀ {ds : List PyData} {i : Nat} {d : PyData}, nars ds → ds[i]? = some d → nar d
  | [], i, d, _, h => by simp at h
  | e :: r, 0, d, n, h => by
    cases (Option.some.inj h)
    exact n.1
  | e :: r, i + 1, d, n, h => nars_at (ds := r) (i := i) n.2 h
theorem dpts_at : ∀ {ds : List PyData} {i : Nat} {d : PyData}, ds[i]? = some d → dpt d ≤ dpts ds
  | [], i, d, h => by simp at h
  | e :: r, 0, d, h => by
    cases (Option.some.inj h)
    exact Nat.le_max_left _ _
  | e :: r, i + 1, d, h => Nat.le_trans (dpts_at (ds := r) (i := i) h) (Nat.le_max_right _ _)
section
variable {P : Program} {w : World} {K : PySem.W.Frag} {mg : Str → Option Value} {base : Heap}
def spLSame (K : PySem.W.Frag) (n : Nat) : Sp := fun vs H Q _ => ∃ (x y : V) (d : PyData), vs = [x, y] ∧ Dp K H x d ∧ Dp K H y d ∧ dpt d < n ∧ nar d ∧ ∀ H', Same H H' → Q (.bl true) H'
theorem ca_l_same : ∀ (n : Nat) (T : Txt w K mg), Ca P w K mg base (n + 1) "_law_same" (spLSame K n)
  | 0, T => by
    refine ca_of (N := ["_law_one", "_law_two", "_law_k"]) (ps := ["_law_one", "_law_two"]) T.f_l_same T.g_law_same ⟨rfl, rfl, rfl, by decide +kernel, rfl, by decide +kernel, by decide +kernel⟩ (fun _ _ _ _ _ _ us hl => match us, hl with | [_, _], _ => rfl)
      (fun vs H Q E h => by obtain ⟨x, y, d, rfl, hx, hy, hd, hnr, q⟩ := h; rfl) (fun cdv A outer s H vs Q E hr h => ?_)
    have nd : (["_law_one", "_law_two", "_law_k"] : List Str).Nodup := by decide +kernel
    obtain ⟨x, y, d, rfl, hx, hy, hd, hnr, q⟩ := h
    omega
  | n + 1, T => by
    refine ca_of (N := ["_law_one", "_law_two", "_law_k"]) (ps := ["_law_one", "_law_two"]) T.f_l_same T.g_law_same ⟨rfl, rfl, rfl, by decide +kernel, rfl, by decide +kernel, by decide +kernel⟩ (fun _ _ _ _ _ _ us hl => match us, hl with | [_, _], _ => rfl)
      (fun vs H Q E h => by obtain ⟨x, y, d, rfl, hx, hy, hd, hnr, q⟩ := h; rfl) (fun cdv A outer s H vs Q E hr h => ?_)
    have nd : (["_law_one", "_law_two", "_law_k"] : List Str).Nodup := by decide +kernel
    obtain ⟨x, y, d, rfl, hx, hy, hd, hnr, q⟩ := h
    refine ⟨_, (pss_cons (ps_if (pt_val (pe_callB call_is2 (by rfl) T.b_isinstance boot_isinstance (pa_cons (pv 0) (pa_cons (pe_tup (pa_cons (pe_ty T.b_tuple boot_tuple) (pa_cons (pe_ty T.b_list boot_list) pa_nil))) pa_nil)))) (pss_cons (ps_if (PW.pt (pw_or (pt_not (pt_val (pe_callB call_is2 (by rfl) T.b_isinstance boot_isinstance (pa_cons (pv 1) (pa_cons (pe_tup (pa_cons (pe_ty T.b_tuple boot_tuple) (pa_cons (pe_ty T.b_list boot_list) pa_nil))) pa_nil))))) (pw_or1 (pt_cmpR op_ne (pe_is .list T.b_isinstance (pv 0) T.b_list boot_list) (pe_is .list T.b_isinstance (pv 1) T.b_list boot_list) (nomark _))))) (pss_one (ps_ret pe_bl)) pss_nil)
      (pss_cons (ps_if (pt_cmpR op_ne (pe_callB call_len_seq (by rfl) T.b_len PySem.boot_len (pa_cons (pv 0) pa_nil)) (pe_callB call_len_seq (by rfl) T.b_len PySem.boot_len (pa_cons (pv 1) pa_nil)) (nomark _)) (pss_one (ps_ret pe_bl)) pss_nil)
      (pss_cons (ps_for PassesOwn.never rfl (pi_range1 rfl T.b_range (pa_cons (pe_callB call_len_seq (by rfl) T.b_len PySem.boot_len (pa_cons (pv 0) pa_nil)) pa_nil)) (pg_name (i := 2) nd rfl (.inl rfl)) (pss_one (ps_if (pt_not (pt_val (pe_ca (ca_l_same n T) hr (pa_cons (pe_ix ix_seq (pv 0) (pv 2) (fun _ _ => rfl)) (pa_cons (pe_ix ix_seq (pv 1) (pv 2) (fun _ _ => rfl)) pa_nil)) (by omega)))) (pss_one (ps_ret pe_bl)) pss_nil)))
      (pss_one (ps_ret pe_bl))))) pss_nil)
      (pss_cons (ps_if (PW.pt (pw_or (pt_val (pe_is .bool T.b_isinstance (pv 0) T.b_bool boot_bool)) (pw_or1 (pt_val (pe_is .bool T.b_isinstance (pv 1) T.b_bool boot_bool))))) (pss_one (ps_ret (pe_and (pe_is .bool T.b_isinstance (pv 0) T.b_bool boot_bool) (pe_and (pe_is .bool T.b_isinstance (pv 1) T.b_bool boot_bool) (pe_one (pe_cmpR op_eq (pv 0) (pv 1) (nomark _))))))) pss_nil)
      (pss_cons (ps_if (pt_val (pe_is .int T.b_isinstance (pv 0) T.b_int boot_int)) (pss_one (ps_ret (pe_and (pe_is .int T.b_isinstance (pv 1) T.b_int boot_int) (pe_one (pe_cmpR op_eq (pv 0) (pv 1) (nomark _)))))) pss_nil)
      (pss_cons (ps_if (pt_val (pe_is .str T.b_isinstance (pv 0) T.b_str boot_str)) (pss_one (ps_ret (pe_and (pe_is .str T.b_isinstance (pv 1) T.b_str boot_str) (pe_one (pe_cmpR op_eq (pv 0) (pv 1) (nomark _)))))) pss_nil)
      (pss_one (ps_ret (pe_and (pe_cmp (pc_isN (pv 0)) rfl) (pe_one (pe_cmp (pc_isN (pv 1)) rfl))))))))), ?_⟩
    refine ⟨_, rfl, (by show 2 ≤ sizeLine; decide), fun tp ntp => ⟨_, kdOf d, tp, rfl, upd_same, dp_kd (dp_same (same_new ntp) hx), kdOf_obj d, _, rfl, ?_⟩⟩
    have s1 : Same H (upd H tp (.tup two_ty)) := same_new ntp
    have hx1 := dp_same s1 hx
    have hy1 := dp_same s1 hy
    have q1 : ∀ H', Same (upd H tp (.tup two_ty)) H' → Q (.bl true) H' := fun H' s => q H' (s1.trans s)
    generalize upd H tp (.tup [V.ty "tuple", V.ty "list"]) = H1 at hx1 hy1 q1 ⊢
    have kx := dp_kd hx1
    have ky := dp_kd hy1
    by_cases hseq : kdOf d = .list ∨ kdOf d = .tuple
    · have e1 : ((kdOf d).is .tuple || (kdOf d).is .list) = true := by rcases hseq with h | h <;> rw [h] <;> rfl
      obtain ⟨a, b, xs, ys, ds, rfl, rfl, sa, sb, dx, dy, hn, hl5, hns⟩ : ∃ (a b : Addr) (xs ys : List V) (ds : List PyData), x = .ref a ∧ y = .ref b ∧ (SqL K H1 a xs ∨ SqT K H1 a xs) ∧ (SqL K H1 b ys ∨ SqT K H1 b ys) ∧ DpAll K H1 xs ds ∧ DpAll K H1 ys ds ∧ dpts ds < n ∧ ds.length ≤ 100000 ∧ nars ds := by
        cases hx1 with
        | lst h1 h2 => cases hy1 with | lst h3 h4 => exact ⟨_, _, _, _, _, rfl, rfl, .inl h1, .inl h3, h2, h4, Nat.lt_of_succ_lt_succ hd, hnr⟩
        | tup h1 h2 => cases hy1 with | tup h3 h4 => exact ⟨_, _, _, _, _, rfl, rfl, .inr h1, .inr h3, h2, h4, Nat.lt_of_succ_lt_succ hd, hnr⟩
        | _ => rcases hseq with h | h <;> cases h
      have lxy : xs.length = ys.length := (dps_len dx).trans (dps_len dy).symm
      rw [e1]
      refine iteT ⟨_, rfl, (by show 2 ≤ sizeLine; decide), fun tp2 ntp2 => ⟨_, kdOf d, tp2, rfl, upd_same, dp_kd (dp_same (same_new ntp2) hy1), kdOf_obj d, _, rfl, ?_⟩⟩
      rw [e1]
      have s2 : Same H1 (upd H1 tp2 (.tup two_ty)) := same_new ntp2
      have kx2 := dp_kd (dp_same s2 hx1)
      have ky2 := dp_kd (dp_same s2 hy1)
      have sa2 := sa.imp s2.seq (same_t s2)
      have sb2 := sb.imp s2.seq (same_t s2)
      have dx2 := dps_same s2 dx
      have dy2 := dps_same s2 dy
      have q2 : ∀ H', Same (upd H1 tp2 (.tup two_ty)) H' → Q (.bl true) H' := fun H' s => q1 H' (s2.trans s)
      generalize upd H1 tp2 (.tup [V.ty "tuple", V.ty "list"]) = H2 at kx2 ky2 sa2 sb2 dx2 dy2 q2 ⊢
      refine iteF ⟨_, rfl, _, _, rfl, kx2, _, rfl, _, _, rfl, ky2, rfl, _, rfl, ?_⟩
      rw [decide_eq_true rfl]
      refine iteF ⟨_, rfl, _, _, rfl, sa2, _, rfl, _, _, rfl, sb2, rfl, _, rfl, ?_⟩
      rw [decide_eq_true (show V.int (xs.length : Nat) = V.int (ys.length : Nat) from by rw [lxy])]
      refine iteF ⟨_, rfl, _, _, rfl, sa2, _, rfl, ?_⟩
      have lx := dps_len dx
      refine ⟨by omega, by omega, for_it (n := xs.length) walk_range (fun i σ' H' => ∃ z, σ' = [some (.ref a), some (.ref b), z] ∧ Same H2 H') ⟨none, rfl, Same.refl _⟩ (fun _ _ _ _ _ => trivial) ?_ ?_⟩
      · rintro i z σ' H0 H' hi ⟨_, rfl, s3⟩ ⟨rfl, rfl⟩
        have hid : i < ds.length := by omega
        obtain ⟨u, hu, du⟩ := dps_at dx2 (List.getElem?_eq_getElem hid)
        obtain ⟨v, hv, dv⟩ := dps_at dy2 (List.getElem?_eq_getElem hid)
        have ei : (0 : Int) + (i : Nat) = ((i : Nat) : Int) := by omega
        have rx : ∀ G : VK, G u H' → rIx K (.ref a) (.int (0 + (i : Nat))) H' G := fun G g => sa2.elim (fun h => .inl ⟨a, xs, _, u, rfl, rfl, s3.seq h, by rw [ei]; exact atI_nat hu, g⟩) (fun h => .inr (.inl ⟨a, xs, _, u, rfl, rfl, same_t s3 h, by rw [ei]; exact atI_nat hu, g⟩))
        have ry : ∀ G : VK, G v H' → rIx K (.ref b) (.int (0 + (i : Nat))) H' G := fun G g => sb2.elim (fun h => .inl ⟨b, ys, _, v, rfl, rfl, s3.seq h, by rw [ei]; exact atI_nat hv, g⟩) (fun h => .inr (.inl ⟨b, ys, _, v, rfl, rfl, same_t s3 h, by rw [ei]; exact atI_nat hv, g⟩))
        refine ⟨_, rfl, _, rfl, rx _ ⟨_, rfl, _, rfl, ry _ ?_⟩⟩
        refine ⟨u, v, ds[i], rfl, dp_same s3 du, dp_same s3 dv, Nat.lt_of_le_of_lt (dpts_at (List.getElem?_eq_getElem hid)) hn, nars_at hns (List.getElem?_eq_getElem hid), fun H4 s4 => ⟨_, rfl, iteF ⟨_, rfl, s3.trans s4⟩⟩⟩
      · rintro σ' H' ⟨_, rfl, s3⟩
        exact q2 _ s3
    · have e1 : ((kdOf d).is .tuple || (kdOf d).is .list) = false := by
        cases e : kdOf d <;> simp_all [Kd.is]
      rw [e1]
      refine iteF ?_
      cases hx1 with
      | non =>
        cases hy1
        exact ⟨_, rfl, _, _, rfl, kx, _, rfl, iteF ⟨_, rfl, _, _, rfl, ky, _, rfl, iteF ⟨_, rfl, _, _, rfl, kx, _, rfl, iteF ⟨_, rfl, _, _, rfl, kx, _, rfl, iteF ⟨_, rfl, _, rfl, iteT ⟨_, rfl, q1 _ (Same.refl _)⟩⟩⟩⟩⟩⟩
      | bl b =>
        cases hy1
        refine ⟨_, rfl, _, _, rfl, kx, _, rfl, iteT ⟨_, rfl, _, _, rfl, kx, _, rfl, iteT ⟨_, rfl, _, _, rfl, ky, _, rfl, iteT ⟨_, rfl, _, rfl, rfl, ?_⟩⟩⟩⟩
        rw [decide_eq_true rfl]
        exact q1 _ (Same.refl _)
      | int i =>
        cases hy1
        refine ⟨_, rfl, _, _, rfl, kx, _, rfl, iteF ⟨_, rfl, _, _, rfl, ky, _, rfl, iteF ⟨_, rfl, _, _, rfl, kx, _, rfl, iteT ⟨_, rfl, _, _, rfl, ky, _, rfl, iteT ⟨_, rfl, _, rfl, rfl, ?_⟩⟩⟩⟩⟩
        rw [decide_eq_true rfl]
        exact q1 _ (Same.refl _)
      | str i =>
        cases hy1
        refine ⟨_, rfl, _, _, rfl, kx, _, rfl, iteF ⟨_, rfl, _, _, rfl, ky, _, rfl, iteF ⟨_, rfl, _, _, rfl, kx, _, rfl, iteF ⟨_, rfl, _, _, rfl, kx, _, rfl, iteT ⟨_, rfl, _, _, rfl, ky, _, rfl, iteT ⟨_, rfl, _, rfl, rfl, ?_⟩⟩⟩⟩⟩⟩
        rw [decide_eq_true rfl]
        exact q1 _ (Same.refl _)
      | lst h1 h2 => exact absurd (.inl rfl) hseq
      | tup h1 h2 => exact absurd (.inr rfl) hseq
end

end M

set_option Elab.async false
set_option linter.all false
set_option maxRecDepth 100000
set_option maxHeartbeats 2000000
namespace M
open PySem PySem.Spec PyProof.Rows L2

/-! ### an own error without arguments -/
section
variable {X : Cx} {C : Addr} {bmB : List Value} {B newId initId : String}
theorem pmk_own0 {x : Str} {p pos : Pos} (F : ExcBaseFacts B newId initId bmB) (q : PySem.W.excIn X.K C bmB newId = true) (gC : X.mg x = some (.ref C)) (kC : PySem.W.keepIn X.K (.ref C) = true) (r : Raises X (.ref C)) (hg : Gl X x := by rfl)
    (hdb : (x == ("__debug__" : Str)) = false := by decide) : PMk X (.Call (.Name x p) [] [] pos) (fun _ H Q => Q (.ref C) none H) := by
  intro pins s σ H Q I h
  refine wpAny_Call_Name_kw (ld_glob I hg gC ?_ hdb)
  refine PySem.W.callWith_K0 I.kIn kC ?_
  show wpAny _ _ (call (.ref C) []) _ _ _
  obtain ⟨bm, N, nm, qn, bs, hdct, sn, sub, ab, col, dd, k0, k1, k2, k3, k5, mN, hC, hN, hni, T⟩ := exc_obj I.kIn q
  refine wpAny_call_exc_subT F T hC hN hni (fun h' e hm => ?_) (Nat.zero_le _)
  exact mk_of I hm r h (I.hok.gone hm.new)
end
/-! ### defs that may raise -/
structure CaX (P : Program) (w : World) (K : PySem.W.Frag) (mg : Str → Option Value) (base : Heap) (k : Nat) (x : Str) (sp : Sp) : Prop where
  ex : ∃ (f : Addr) (fd : FuncData) (ps : List Str), FnOk P w K mg base (L2.CX P w) k f fd ps sp ∧ mg x = some (.ref f) ∧ PySem.W.keepIn K (.ref f) = true ∧ Binds K fd ps []
structure CfX (P : Program) (w : World) (K : PySem.W.Frag) (mg : Str → Option Value) (base : Heap) (k : Nat) (x : Str) (ps : List Str) (sp : Sp) : Prop where
  ex : ∃ (fd : FuncData) (oc : Value) (od : Option Addr) (osl : Array (Option Value)), K.lookup (He.ga K x) = some ⟨oc, od, .func fd, osl⟩ ∧ FnOk P w K mg base (L2.CX P w) k (He.ga K x) fd ps sp ∧ PySem.W.keepIn K (.ref (He.ga K x)) = true ∧ Binds K fd ps []
  g : mg x = some (.ref (He.ga K x))
section
variable {P : Program} {w : World} {K : PySem.W.Frag} {mg : Str → Option Value} {base : Heap} {x m q : Str} {st : Stmt} {N ps : List Str} {k : Nat} {sp : Sp} {C f : Addr}
abbrev BodyX (P : Program) (w : World) (K : PySem.W.Frag) (mg : Str → Option Value) (base : Heap) (q : Str) (st : Stmt) (N : List Str) (k : Nat) (f : Addr) (sp : Sp) : Prop := ∀ (cdv : Value) (A : Around) (outer : List Env) (s : Shared) (H : Hp) (vs : List V) (Q : VK) (E : XK), Room k (A.deeper (envOfC q (defScope st) s.heap.objs.size f cdv)) → sp vs H Q E →
      ∃ t, PSs (cxOf (L2.CX P w) P w K mg base N q (defScope st) f cdv A outer s H E) (defBody st) t ∧ t { nx := fun _ H' => Q .non H', rt := Q } (start N vs) H
theorem ca_ofX (F : ∃ fd, FunD K x x (defArgs st) (defBody st) (defScope st) [] [] (He.fAd K (x, none)) fd) (g : mg x = some (.ref (He.ga K x))) (S : FnScope N ps (defScope st)) (hb : BindsH x x st ps) (len : ∀ vs H Q E, sp vs H Q E → vs.length = ps.length)
    (hbody : BodyX P w K mg base x st N k (He.fAd K (x, none)) sp) : CaX P w K mg base (k + 1) x sp := by
  obtain ⟨fd, F⟩ := F
  exact ⟨_, fd, ps, F.ok S len hbody, g, F.kp, F.bindsN hb⟩
theorem cf_ofX (F : ∃ fd, FunD K x x (defArgs st) (defBody st) (defScope st) [] [] (He.fAd K (x, none)) fd) (g : mg x = some (.ref (He.ga K x))) (S : FnScope N ps (defScope st)) (hb : BindsH x x st ps) (len : ∀ vs H Q E, sp vs H Q E → vs.length = ps.length)
    (hbody : BodyX P w K mg base x st N k (He.fAd K (x, none)) sp) : CfX P w K mg base (k + 1) x ps sp := by
  obtain ⟨fd, F⟩ := F
  obtain ⟨oc, od, dV, kV, doc, pm, an, cdv, ct, osl, e, lk, _⟩ := F.ex
  exact ⟨⟨fd, oc, od, osl, lk, F.ok S len hbody, F.kp, F.bindsN hb⟩, g⟩
theorem CfX.mono {j : Nat} (c : CfX P w K mg base j x ps sp) (h : j ≤ k) : CfX P w K mg base k x ps sp := by
  obtain ⟨fd, oc, od, osl, lk, F, r⟩ := c.ex
  exact ⟨⟨fd, oc, od, osl, lk, F.mono h, r⟩, c.g⟩
/-- who raises nothing may stand among those who may -/
theorem fn_toX {fd : FuncData} (F : FnOk P w K mg base CX0 k f fd ps sp) : FnOk P w K mg base (L2.CX P w) k f fd ps sp :=
  ⟨F.len, fun A outer s H args us vs Q E hr he hb hv h => codeAny_mono (F.run A outer s H args us vs Q E hr he hb hv h) fun r s' hq => by
    cases r with
    | error e => exact hq.elim
    | ok fl => cases fl <;> exact hq⟩
theorem Cf.toX (c : Cf P w K mg base k x ps sp) : CfX P w K mg base k x ps sp := by
  obtain ⟨fd, oc, od, osl, lk, F, r⟩ := c.ex
  exact ⟨⟨fd, oc, od, osl, lk, fn_toX F, r⟩, c.g⟩
end
section
variable {X : Cx} {k j : Nat} {x : Str} {sp : Sp} {p pos : Pos} {e : Expr} {es : List Expr} {t : TA}
theorem pe_caX {W : WX} (c : CaX X.prog X.w X.K X.mg X.base k x sp) (hr : Room j X.A) (tk : Takes X W) (ha : PA X (e :: es) t) (hk : k ≤ j := by decide) (hg : Gl X x := by rfl)
    (hdb : (x == ("__debug__" : Str)) = false := by decide) (he : starEach (e :: es) X.env = (false, eval e X.env) :: starEach es X.env := by rfl) (hpl : (backTo pos (starEach es X.env)).any (·.1) = false := by rfl) :
    PE X (.Call (.Name x p) (e :: es) [] pos) (tCallS sp (WE W) t) := by
  obtain ⟨f, fd, ps, F, hm, kp, b⟩ := c.ex
  exact pe_callS F (hr.mono hk) hg hm kp b (fun σ => passAt tk σ) ha hdb he hpl
/-- of several defs that the slot may hold, such as may raise -/
structure HeldX (P : Program) (w : World) (K : PySem.W.Frag) (mg : Str → Option Value) (base : Heap) (k : Nat) (f : Addr) (sp : Sp) : Prop where
  ex : ∃ (fd : FuncData) (ps : List Str), FnOk P w K mg base (L2.CX P w) k f fd ps sp ∧ PySem.W.keepIn K (.ref f) = true ∧ Binds K fd ps []
def tCallAX (i : Nat) (S : Addr → Option Sp) (E : XK) (t : TA) : TE := fun σ H Q => ∃ f sp, σ[i]? = some (some (.ref f)) ∧ S f = some sp ∧ t σ H fun vs H1 => sp vs H1 Q E
theorem pe_callAX {i : Nat} {S : Addr → Option Sp} {E : XK} (A : ∀ f sp, S f = some sp → HeldX X.prog X.w X.K X.mg X.base k f sp) (hr : Room k X.A) (tk : Takes X (fun cls d _ H => E cls d H)) (hN : X.N[i]? = some x) (hv : Vis X.env.scope x) (ha : PA X (e :: es) t)
    (hdb : (x == ("__debug__" : Str)) = false := by decide) (hcd : (x == ("__classdict__" : Str)) = false := by decide)
    (he : starEach (e :: es) X.env = (false, eval e X.env) :: starEach es X.env := by rfl) (hpl : (backTo pos (starEach es X.env)).any (·.1) = false := by rfl) : PE X (.Call (.Name x p) (e :: es) [] pos) (tCallAX i S E t) := by
  refine ⟨fun pins s σ H Q I h => ?_⟩
  obtain ⟨f, sp, hs, hS, ht⟩ := h
  obtain ⟨fd, ps, F, hk, hb⟩ := (A f sp hS).ex
  refine (pe_callL (i := i) (f := f) (sp := sp) (dvs := []) (E := E) F hr hN hv hk hb .nil (fun pins σ H s e s' I c => passAt tk σ pins H s e s' I c) ha hdb hcd he hpl).run pins s σ H Q I ⟨hs, ?_⟩
  have e0 : (fun (vs : List V) (H1 : Hp) => sp (vs ++ []) H1 Q E) = fun vs H1 => sp vs H1 Q E := by
    funext vs H1
    rw [List.append_nil]
  show t σ H (fun vs H1 => sp (vs ++ []) H1 Q E)
  rw [e0]
  exact ht
end

end M

set_option Elab.async false
set_option linter.all false
set_option maxRecDepth 100000
set_option maxHeartbeats 2000000
namespace M
open PySem PySem.Spec PyProof.Rows L2

/-! ### try with clauses, each with a name or without -/
/-- an exception has come down to the clauses: it is at a; u is the state without it, s the state now -/
structure Came (X : Cx) (pins : List (Addr × Obj)) (G : Heap) (u s : Shared) (a : Addr) (σ : L2.St) (H : Hp) (cls : Value) (d : Option Addr) : Prop where
  inv : Inv X pins σ H u
  out : ∀ b o, u.heap.get? b = some o → b ∉ frs X.stack → G.get? b = some o
  up : u.heap.UpToSlots s.heap
  fly : HandSPX.FlyingZ G (X.env :: X.outer) a (Zc cls d) s.heap
  no : H a = none
  os : s.os = u.os
  bare : AllBare s.gens
section
variable {X : Cx} {pins : List (Addr × Obj)} {G : Heap} {u s : Shared} {a : Addr} {σ : L2.St} {H : Hp} {cls : Value} {d : Option Addr}
theorem Came.now (c : Came X pins G u s a σ H cls d) : Inv X pins σ H s := c.inv.landed c.out c.fly.1 c.up c.os c.bare
theorem Came.spot (c : Came X pins G u s a σ H cls d) (hf : X.env.frame = some X.env.locals) : ∃ oe, s.heap.get? a = some oe ∧ Zc cls d oe ∧ (∃ vs, oe.data = .fields vs) ∧ a ≠ X.env.locals ∧ a ∉ X.fs := by
  obtain ⟨oe, vs, e1, e2, e3⟩ := c.fly.there
  have away : ∀ env ∈ X.env :: X.outer, env.frame ≠ some a := by
    intro env hm z
    obtain ⟨_, o2, q1, q2⟩ := c.fly.2.2.1.mem (List.mem_filterMap.mpr ⟨env, hm, z⟩ : a ∈ frs (X.env :: X.outer))
    cases e1.symm.trans q1
    exact q2 _ e3
  refine ⟨oe, e1, e2, ⟨vs, e3⟩, ?_, ?_⟩
  · intro z
    exact away X.env List.mem_cons_self (hf.trans (congrArg some z.symm))
  · intro hm
    obtain ⟨env, h1, h2⟩ := List.mem_filterMap.mp hm
    exact away env (List.mem_cons_of_mem _ h1) h2
theorem Came.on (c : Came X pins G u s a σ H cls d) {h : Heap} (fl : HandSPX.FlyingZ G (X.env :: X.outer) a (Zc cls d) h) (up : s.heap.UpToSlots h) : Came X pins G u { s with heap := h } a σ H cls d :=
  ⟨c.inv, c.out, c.up.trans up, fl, c.no, c.os, c.bare⟩
end
/-- the clauses keep their wish -/
def Hands (X : Cx) (hds : List ExceptHandler) (wish : Ends → WX) : Prop := ∀ (pins : List (Addr × Obj)) (G : Heap) (u s : Shared) (a : Addr) (σ : L2.St) (H : Hp) (cls : Value) (d : Option Addr) (D : Ends), Came X pins G u s a σ H cls d → wish D cls d σ H →
  wpAny (model X.prog X.w) X.A (handleBy (.ref a) X.env hds) (SP X pins D) X.xe s
/-- a clause without a name, then the others -/
def wOne (K : PySem.W.Frag) (c : Value) (ts : Addr → Value → Option Addr → TS) (wish : Ends → WX) : Ends → WX := fun D cls d σ H =>
  ∃ b, PySem.W.exmOne K cls c = some b ∧ (b = true → ∀ a, H a = none → ts a cls d D σ H) ∧ (b = false → wish D cls d σ H)
/-- the ends of a suite whose clause keeps the exception at the slot i -/
def lets (i : Nat) (D : Ends) : Ends := ⟨fun σ H => D.nx (σ.set i none) H, D.rt, fun σ H => D.bk (σ.set i none) H, fun σ H => D.ct (σ.set i none) H⟩
/-- a clause with a name, its slot i, then the others -/
def wNmd (K : PySem.W.Frag) (c : Value) (i : Nat) (ts : Addr → Value → Option Addr → TS) (wish : Ends → WX) : Ends → WX := fun D cls d σ H =>
  ∃ b, PySem.W.exmOne K cls c = some b ∧ (b = true → ∀ a, H a = none → ts a cls d (lets i D) (σ.set i (some (.ref a))) H) ∧ (b = false → wish D cls d σ H)
section
variable {X : Cx} {x n : Str} {c : Value} {i : Nat} {b0 : Stmt} {bs body orelse : List Stmt} {hd : ExceptHandler} {hds : List ExceptHandler} {wish : Ends → WX} {ts : Addr → Value → Option Addr → TS} {np pos hpos : Pos} {Wout : WX} {tb : WX → TS} {te : TS}
theorem hands_nil (hs : X.stack = X.env :: X.outer) (hf : X.env.frame = some X.env.locals) (tk : Takes X Wout) : Hands X [] (fun _ => Wout) := by
  intro pins G u s a σ H cls d D c h
  apply wpAny_handleBy_nil
  obtain ⟨_, _, _, oe, vs, T, oT, tr, e1, e2, e3, e4, _⟩ := id c.fly
  unfold PySem.passOn
  apply wpAny_bind
  refine wpAny_field e1 e3 e4 ?_
  have ne : ¬ ((Value.ref T == Value.none) = true) := by simp
  have last : wpAny (model X.prog X.w) X.A (setFlight (.ref a) X.env.frame) (fun _ z => wpAny (model X.prog X.w) X.A (throw (.ref a) : Sem Flow) (SP X pins D) X.xe z) X.xe s := by
    rw [hf]
    apply HandSPX.setFlight_upZ c.fly
    intro h4 held up
    apply wpAny_throw
    apply tk
    refine ⟨a, G, u, pins, σ, H, cls, d, rfl, c.inv, c.out, c.up.trans up, Or.inr (Or.inr ?_), c.no, c.os, c.bare, h⟩
    rw [hs]
    exact held
  simp only [if_neg ne]
  first
    | exact wpAny_bind (wpAny_pure (wpAny_bind last))
    | exact wpAny_bind last
theorem came_test {pins : List (Addr × Obj)} {G : Heap} {u s : Shared} {a : Addr} {σ : L2.St} {H : Hp} {cls : Value} {d : Option Addr} {b : Bool} (hc : Names X x c) (hf : X.env.frame = some X.env.locals) (k : Came X pins G u s a σ H cls d) (hb : PySem.W.exmOne X.K cls c = some b)
    {E Z : Value → Shared → Prop} {Q : Bool → Shared → Prop} (q : Q b s) : wpAny (model X.prog X.w) (X.A.mark (some (.ref a))) (eval (.Name x np) X.env) (fun v s1 => wpAny (model X.prog X.w) (X.A.mark (some (.ref a))) (excMatches (.ref a) v) Q E s1) Z s := by
  obtain ⟨oe, e1, e2, ⟨vs, e3⟩, nL, nF⟩ := k.spot hf
  have J := k.now
  have S := J.suite e1 e3 k.no nL nF
  have LT : PySem.W.Looks (model X.prog X.w) s.heap (typeOf (.ref a)) cls := by
    intro A1 Q1 E1 s1 keep q1
    refine wpAny_typeOf_ref (keep _ _ e1) ?_
    rw [e2.1]
    exact q1
  have LM := PySem.W.exm_one (M := model X.prog X.w) J.kIn LT hb
  have q2 := LM.here (A := X.A.mark (some (.ref a))) (E := E) q
  obtain ⟨h1, h2, h3⟩ := hc
  rcases h3 with h3 | ⟨h3, h4, h5⟩
  · exact ld_glob (X := X.suite a ((a, oe) :: (X.pn ++ pins))) S h1 h3 q2 h2
  · exact ld_blt (X := X.suite a ((a, oe) :: (X.pn ++ pins))) S h1 h3 h4 q2 h5 h2
theorem hands_one (hc : Names X x c) (hf : X.env.frame = some X.env.locals)
    (su : ∀ (a : Addr) (oe : Obj) (cls : Value) (d : Option Addr) (pn : List (Addr × Obj)), Zc cls d oe → (∃ vs, oe.data = .fields vs) → PSs (X.suite a ((a, oe) :: pn)) (b0 :: bs) (ts a cls d)) (r : Hands X hds wish) :
    Hands X (.ExceptHandler (some (.Name x np)) none (b0 :: bs) hpos :: hds) (wOne X.K c ts wish) := by
  intro pins G u s a σ H cls d D k h
  obtain ⟨b, h1, h2, h3⟩ := h
  refine wpAny_handleBy_cons (codeAny_handlers_test ?_) (fun q => by cases q)
  refine came_test (d := d) hc hf k h1 ?_
  cases b
  · exact r pins G u s a σ H cls d D k (h3 rfl)
  · apply codeAny_handlers_suite
    apply HandSPX.lands_againZ k.fly
    intro h4 fl4 up4
    have k4 := k.on fl4 up4
    obtain ⟨oe, e1, e2, ⟨vs, e3⟩, nL, nF⟩ := k4.spot hf
    have S := k4.now.suite e1 e3 k4.no nL nF
    refine wpAny_mono ((su a oe cls d (X.pn ++ pins) e2 ⟨vs, e3⟩).run [] _ σ H D S (h2 rfl a k.no)) ?_ (fun _ _ z => z.elim)
    intro f s6 z
    have ok := k.inv.ok
    cases f with
    | ret v =>
      obtain ⟨v6, σ6, H6, S6, z1, z2⟩ := z
      exact ⟨v6, σ6, H6, S6.unsuite ok, z1, z2⟩
    | next => exact match z with | ⟨σ6, H6, S6, z1⟩ => ⟨σ6, H6, S6.unsuite ok, z1⟩
    | brk => exact match z with | ⟨σ6, H6, S6, z1⟩ => ⟨σ6, H6, S6.unsuite ok, z1⟩
    | cont => exact match z with | ⟨σ6, H6, S6, z1⟩ => ⟨σ6, H6, S6.unsuite ok, z1⟩
theorem hands_as (hc : Names X x c) (hf : X.env.frame = some X.env.locals) (hN : X.N.Nodup) (hi : X.N[i]? = some n) (hl : X.env.kindOf n = some .local)
    (su : ∀ (a : Addr) (oe : Obj) (cls : Value) (d : Option Addr) (pn : List (Addr × Obj)), Zc cls d oe → (∃ vs, oe.data = .fields vs) → PSs (X.suite a ((a, oe) :: pn)) (b0 :: bs) (ts a cls d)) (r : Hands X hds wish) :
    Hands X (.ExceptHandler (some (.Name x np)) (some n) (b0 :: bs) hpos :: hds) (wNmd X.K c i ts wish) := by
  intro pins G u s a σ H cls d D k h
  obtain ⟨b, h1, h2, h3⟩ := h
  refine wpAny_handleBy_cons (codeAny_handlers_test ?_) (fun q => by cases q)
  refine came_test (d := d) hc hf k h1 ?_
  cases b
  · exact r pins G u s a σ H cls d D k (h3 rfl)
  · apply codeAny_handlers_suite_as
    apply HandSPX.lands_againZ k.fly
    intro h4 fl4 up4
    have k4 := k.on fl4 up4
    obtain ⟨oe, e1, e2, ⟨vs, e3⟩, nL, nF⟩ := k4.spot hf
    have S := k4.now.suite e1 e3 k4.no nL nF
    refine store_ok (X := X.suite a ((a, oe) :: (X.pn ++ pins))) (v := .ref a) S hN hi (.inl hl) rfl ?_ (.inr hl)
    intro s5 S5
    refine wpAny_mono ((su a oe cls d (X.pn ++ pins) e2 ⟨vs, e3⟩).run [] s5 _ H (lets i D) S5 (h2 rfl a k.no)) ?_ (fun _ _ z => z.elim)
    intro f s6 z
    have ok := k.inv.ok
    cases f with
    | ret v =>
      obtain ⟨v6, σ6, H6, S6, z1, z2⟩ := z
      exact gone_ok (S6.unsuite ok) hN hi hl fun s7 J7 => ⟨v6, _, H6, J7, z1, z2⟩
    | next => exact match z with | ⟨σ6, H6, S6, z1⟩ => gone_ok (S6.unsuite ok) hN hi hl fun s7 J7 => ⟨_, H6, J7, z1⟩
    | brk => exact match z with | ⟨σ6, H6, S6, z1⟩ => gone_ok (S6.unsuite ok) hN hi hl fun s7 J7 => ⟨_, H6, J7, z1⟩
    | cont => exact match z with | ⟨σ6, H6, S6, z1⟩ => gone_ok (S6.unsuite ok) hN hi hl fun s7 J7 => ⟨_, H6, J7, z1⟩
/-- try: body, then clauses that keep their wish, and an else -/
theorem ps_tryH (hh : Hands X (hd :: hds) wish) (hs : X.stack = X.env :: X.outer) (hf : X.env.frame = some X.env.locals)
    (hb : ∀ (W : WX) (pn : List (Addr × Obj)) (xe : Value → Shared → Prop), Takes (X.tr pn xe) W → PassesOwn (model X.prog X.w) X.A X.env xe → PSs (X.tr pn xe) body (tb W)) (ho : PSs X orelse te) :
    PS X (.Try body (hd :: hds) orelse [] pos) (fun D σ H => tb (wish D) ⟨te D, D.rt, D.bk, D.ct⟩ σ H) := by
  refine ⟨?_⟩
  intro pins s σ H D I h
  have hfr : X.A.frames = some (X.env :: X.outer) := I.ok.frames.trans (congrArg some hs)
  let xe : Value → Shared → Prop := fun e z => wpAny (model X.prog X.w) X.A (noteFrame e X.env) (fun _ z2 => wpAny (model X.prog X.w) X.A (setFlight e none) (fun _ z3 => wpAny (model X.prog X.w) X.A (handleBy e X.env (hd :: hds)) (SP X pins D) X.xe z3) X.xe z2) X.xe z
  have catches : Takes (X.tr (X.pn ++ pins) xe) (wish D) := by
    intro e z w
    obtain ⟨a, G, z0, pins1, σ1, H1, cls, d, rfl, J, w1, w2, w3, w4, w5, w6, w7⟩ := w
    have w3 : Sky G X.stack a (Zc cls d) X.env.locals z.heap := w3
    rw [hs] at w3
    refine Sky.land (M := model X.prog X.w) (A := X.A) (E₁ := X.xe) Zc.steady hfr hf w3 ?_
    intro h3 fl up
    exact hh pins G z0 { z with heap := h3 } a σ1 H1 cls d D ⟨J.ofTry I.ok, w1, w2.trans up, fl, w4, w5, w6⟩ w7
  apply wpAny_Try_except
  refine wpAny_mono ((hb (wish D) (X.pn ++ pins) xe catches PassesOwn.looking).run [] s σ H _ (I.toTry _) h) ?_ (fun _ _ z => z)
  intro f s1 z
  cases f with
  | ret v => exact match z with | ⟨v1, σ1, H1, J, z1, z2⟩ => ⟨v1, σ1, H1, J.ofTry I.ok, z1, z2⟩
  | brk => exact match z with | ⟨σ1, H1, J, z1⟩ => ⟨σ1, H1, J.ofTry I.ok, z1⟩
  | cont => exact match z with | ⟨σ1, H1, J, z1⟩ => ⟨σ1, H1, J.ofTry I.ok, z1⟩
  | next =>
    obtain ⟨σ1, H1, J, z1⟩ := z
    exact ho.run pins s1 σ1 H1 D (J.ofTry I.ok) z1
end

end M

set_option Elab.async false
set_option linter.all false
set_option maxRecDepth 100000
set_option maxHeartbeats 2000000
namespace M
open PySem PySem.Spec PyProof.Rows L2

/-! ### errors with a field -/
theorem oexS_ok {K : PySem.W.Frag} {C : Addr} (h : oexS K C = true) : ∃ nm q N bs bm sn sub ab col dd k0 k1 k2 k3 k5, K.lookup C = some (excClassObj nm q C N bs bm true sn sub ab col dd k0 k1 k2 k3 k5 "ValueError.__new__") ∧ PySem.HandSPX.refsVE bm = true := by
  unfold oexS at h
  split at h
  · rename_i t dd cd sl hl
    split at h
    · rename_i D bm k0 k1 k2 k3 n k5 hm hs
      obtain ⟨h1, h⟩ := He.ba h
      obtain ⟨h2, h⟩ := He.ba h
      obtain ⟨h3, h⟩ := He.ba h
      obtain ⟨h4, h⟩ := He.ba h
      obtain ⟨h5, h6⟩ := He.ba h
      cases of_decide_eq_true h1
      cases of_decide_eq_true h2
      cases of_decide_eq_true h3
      obtain ⟨nm, bs, mr, ns, qn, hd, sn, sub, ab, col, de⟩ := cd
      dsimp only at hm h4 h5
      subst hm
      cases h4
      have h5 : de = false := by cases de <;> first | rfl | cases h5
      subst h5
      obtain ⟨sl⟩ := sl
      have hs : sl = [k0, k1, k2, k3, some (.builtin "ValueError.__new__"), k5] := hs
      subst hs
      exact ⟨nm, qn, ns, bs, bm, sn, sub, ab, col, dd, k0, k1, k2, k3, k5, hl, h6⟩
    · cases h
  · cases h
/-- the class x is an error class with an __init__ of its own, which keeps the field f -/
structure Xc (K : PySem.W.Frag) (x f : Str) : Prop where
  oex : OexC K (He.ga K x)
  xf : XfC K (He.ga K x)
  no : PySem.W.findIn K (.ref (He.ga K x)) f = some none
  ini : PySem.W.findIn K (.ref (He.ga K x)) "__init__" = some (some (.ref (He.ma K (He.ga K x) "__init__")))
  fn : PySem.W.typeIn K (.ref (He.ma K (He.ga K x) "__init__")) = some (.type "function")
theorem oexB_ok {K : PySem.W.Frag} {x f : Str} (h : oexB K x f = true) : Xc K x f := by
  obtain ⟨h1, h⟩ := He.ba h
  obtain ⟨h2, h⟩ := He.ba h
  obtain ⟨h3, h⟩ := He.ba h
  obtain ⟨h4, h⟩ := He.ba h
  obtain ⟨h5, h⟩ := He.ba h
  obtain ⟨h6, h⟩ := He.ba h
  obtain ⟨h7, h⟩ := He.ba h
  obtain ⟨h8, h9⟩ := He.ba h
  exact ⟨⟨oexS_ok h1, He.eqO_ok h2, of_decide_eq_true h3, of_decide_eq_true h4, h5⟩, xfB_ok h6, He.eqO_ok h7, He.eqO_ok h8, of_decide_eq_true h9⟩
section
variable {X : Cx} {x f : Str} {e : Expr} {es : List Expr} {ta : TA} {p1 p2 p pos : Pos}
/-- PastError.__init__(self, ..) -/
theorem pe_pinit {pl : Sem Bool} (hm : X.mg x = some (.ref (He.ga X.K x))) (pn : pinB X.K x = true) (ha : PA X (e :: es) ta) (hg : Gl X x := by rfl) (hdb : (x == ("__debug__" : Str)) = false := by decide)
    (hc : eval (.Call (.Attribute (.Name x p1) "__init__" p2) (e :: es) [] pos) X.env = (do
      let ov ← eval (.Name x p1) X.env
      standAt p2.atName
      let (f, first) ← holding [ov] (getMethod ov "__init__" pl)
      callWith pos f first (backTo pos (starEach (e :: es) X.env)) (backToKw pos (keywordEach [] X.env))) := by rfl)
    (he : starEach (e :: es) X.env = (false, eval e X.env) :: starEach es X.env := by rfl) (hpl : (backTo pos (starEach es X.env)).any (·.1) = false := by rfl) :
    PE X (.Call (.Attribute (.Name x p1) "__init__" p2) (e :: es) [] pos) (tVeI X.K ta) := by
  obtain ⟨h1, pn⟩ := He.ba pn
  obtain ⟨h2, h3⟩ := He.ba pn
  have h3 : PySem.W.findCls X.K (.ref (He.ga X.K x)) (.type "type") "__init__" = some (.val (.builtin "ValueError.__init__")) := by
    split at h3
    · rename_i i hi
      cases of_decide_eq_true h3
      exact hi
    · cases h3
  refine ⟨?_⟩
  intro pins s σ H Q I h
  refine PySem.W.methodCall_KW ?_ hc
  refine ld_glob I hg hm ?_ hdb
  refine PySem.W.method_cls I.kIn (of_decide_eq_true h2) ?_
  refine PySem.W.cls_value I.kIn h1 h3 (by decide +kernel) ?_
  refine PyProof.Rows.callWith_method1 (id := "ValueError.__init__") (thn (ha.run pos pins _ σ H _ (I.tok _) h) ?_) he hpl
  rintro us s1 ⟨vs, H1, I1, r1, a, C, ws, rfl, hl, T, ea, q⟩
  obtain ⟨u0, ur, rfl, ra, rw'⟩ : ∃ u0 ur, us = u0 :: ur ∧ RelV (.ref a) u0 ∧ Vals ws ur := by
    cases r1 with | cons z1 z2 => exact ⟨_, _, rfl, z1, z2⟩
  cases (ra : u0 = Value.ref a)
  refine oinit_ok T I1 ea ?_ fun s2 J => ⟨.non, H1, J, rfl, q⟩
  rw [sizeLine_eq, ← Paired.length rw']
  omega
end
/-- what such an __init__ does -/
def spXi (K : PySem.W.Frag) (x f : Str) : Sp := fun vs H Q _ => ∃ (a : Addr) (v : V), vs = [.ref a, v] ∧ H a = some (exo a (He.ga K x) none) ∧ ∀ dx, H dx = none → dx ≠ a → Q .non (upd (upd H dx (exd dx [(f, v)])) a (exo a (He.ga K x) (some dx)))
/-- the error class x, its __init__ known -/
structure Xi (P : Program) (w : World) (K : PySem.W.Frag) (mg : Str → Option Value) (base : Heap) (k : Nat) (x f : Str) : Prop where
  c : Xc K x f
  g : mg x = some (.ref (He.ga K x))
  ex : ∃ (fd : FuncData) (ps : List Str), FnOk P w K mg base CX0 k (He.ma K (He.ga K x) "__init__") fd ps (spXi K x f) ∧ Binds K fd ps []
section
variable {P : Program} {w : World} {K : PySem.W.Frag} {mg : Str → Option Value} {base : Heap} {x f q : Str} {st : Stmt} {N ps : List Str} {k : Nat}
theorem xi_of (F : ∃ fd, FunD K "__init__" q (defArgs st) (defBody st) (defScope st) [] [] (He.fAd K (x, some "__init__")) fd) (g : mg x = some (.ref (He.ga K x))) (o : oexB K x f = true) (S : FnScope N ps (defScope st)) (hb : BindsH "__init__" q st ps) (two : ps.length = 2)
    (hbody : BodyH P w K mg base q st N k (He.fAd K (x, some "__init__")) (spXi K x f)) : Xi P w K mg base (k + 1) x f := by
  obtain ⟨fd, F⟩ := F
  refine ⟨oexB_ok o, g, fd, ps, fn_d F S ?_ hbody, F.bindsN hb⟩
  rintro vs H Q E ⟨a, v, rfl, _⟩
  exact two.symm
end
/-- what such an __init__ keeps, where an error was just laid -/
theorem xi_made {K : PySem.W.Frag} {x f : Str} {H : Hp} {a : Addr} {v : V} {Q : VK} {E : XK} (g : ∀ d, H d = none → d ≠ a → Q .non (upd (upd H d (exd d [(f, v)])) a (exo a (He.ga K x) (some d)))) : spXi K x f [.ref a, v] (upd H a (exo a (He.ga K x) none)) Q E := by
  refine ⟨a, v, rfl, upd_same, ?_⟩
  intro d hd hne
  have hd2 : H d = none := by rwa [upd_ne hne] at hd
  have e : upd (upd (upd H a (exo a (He.ga K x) none)) d (exd d [(f, v)])) a (exo a (He.ga K x) (some d)) = upd (upd H d (exd d [(f, v)])) a (exo a (He.ga K x) (some d)) := by
    funext b
    by_cases hb : b = a
    · rw [hb, upd_same, upd_same]
    · rw [upd_ne hb, upd_ne hb]
      by_cases hc : b = d
      · rw [hc, upd_same, upd_same]
      · rw [upd_ne hc, upd_ne hc, upd_ne hb]
  rw [e]
  exact g d hd2 hne
/-! ### such an error, raised -/
section
variable {X : Cx} {k j : Nat} {x f : Str} {e : Expr} {te : TE} {p pos : Pos}
/-- raise x(e) -/
theorem pmk_x (c : Xi X.prog X.w X.K X.mg X.base k x f) (hr : Room j X.A) (he : PE X e te) (hs : starEach [e] X.env = (false, eval e X.env) :: starEach [] X.env := by rfl) (hpl : (backTo pos (starEach [] X.env)).any (·.1) = false := by rfl) (hk : k + 1 ≤ j := by decide) (hg : Gl X x := by rfl)
    (hdb : (x == ("__debug__" : Str)) = false := by decide) : PMk X (.Call (.Name x p) [e] [] pos) (tMkO (He.ga X.K x) (spXi X.K x f) [] (tCons te tNil)) := by
  obtain ⟨fd, ps, F, b⟩ := c.ex
  exact pmk_oex (CX := CX0) (p := p) (pos := pos) c.c.oex c.c.ini c.c.fn F (hr.mono hk) b .nil L2.pass0 hg c.g (pa_cons he pa_nil hs) hdb hs hpl
/-- raise x() -/
theorem ps_raise0 {W : WX} {rp : Pos} (K : PySem.W.Frag) (hK : X.K = K) {bmB : List Value} {B newId initId : String} (F : ExcBaseFacts B newId initId bmB) (c : PySem.W.excIn X.K (He.ga X.K x) bmB newId = true ∧ PySem.W.keepIn X.K (.ref (He.ga X.K x)) = true ∧ PySem.W.subIn X.K (.ref (He.ga X.K x)) (.type "BaseException") = some true ∧ PySem.W.typeIn X.K (.ref (He.ga X.K x)) = some (.type "type"))
    (g : X.mg x = some (.ref (He.ga X.K x))) (hc : X.calm = true) (tk : Takes X W) (hg : Gl X x := by rfl) (hdb : (x == ("__debug__" : Str)) = false := by decide) : PS X (.Raise (some (.Call (.Name x p) [] [] pos)) none rp) (fun _ σ H => W (.ref (He.ga K x)) none σ H) := by
  subst hK
  exact ps_raise hc tk (pmk_own0 F c.1 g c.2.1 (raises_own c.2.2.1 c.2.2.2) hg hdb)
/-- .. what is to be shown then -/
theorem xi_raised {K : PySem.W.Frag} {x f : Str} {H : Hp} {v : V} {Q : XK} (g : ∀ d, H d = none → Q (.ref (He.ga K x)) (some d) (upd H d (.xd [(f, v)]))) : [v].length ≤ 1000 ∧ ∀ a, H a = none → spXi K x f (.ref a :: ([v] ++ [])) (upd H a (exo a (He.ga K x) none))
    (fun u H2 => u = .non ∧ ∃ (d : Addr) (fs : List (Str × V)), H2 a = some (exo a (He.ga K x) (some d)) ∧ H2 d = some (exd d fs) ∧ H d = none ∧ Q (.ref (He.ga K x)) (some d) (upd (del H2 a) d (.xd fs))) (fun _ _ _ => False) := by
  refine ⟨by show 1 ≤ 1000; decide, ?_⟩
  intro a ha
  refine xi_made ?_
  intro d hd hne
  refine ⟨rfl, d, [(f, v)], upd_same, ?_, hd, ?_⟩
  · rw [upd_ne hne, upd_same]
  · have e : upd (del (upd (upd H d (exd d [(f, v)])) a (exo a (He.ga K x) (some d))) a) d (.xd [(f, v)]) = upd H d (.xd [(f, v)]) := by
      funext b
      by_cases hb : b = d
      · rw [hb, upd_same, upd_same]
      · rw [upd_ne hb, upd_ne hb]
        by_cases hc : b = a
        · rw [hc, del_same, ha]
        · rw [del_ne hc, upd_ne hc, upd_ne hb]
    rw [e]
    exact g d hd
/-- a reading may be weakened behind the expression -/
def tUp (te : TE) : TE := fun σ H Q => ∃ R : VK, te σ H R ∧ ∀ v H1, R v H1 → Q v H1
theorem pe_up (he : PE X e te) : PE X e (tUp te) := by
  refine ⟨?_⟩
  rintro pins s σ H Q I ⟨R, h, i⟩
  refine wpAny_mono (he.run pins s σ H R I h) ?_ (fun _ _ z => z)
  rintro u s1 ⟨v, H1, J, r, z⟩
  exact ⟨v, H1, J, r, i v H1 z⟩
theorem ps_raiseX {W : WX} {rp : Pos} (K : PySem.W.Frag) (hK : X.K = K) (c : Xi X.prog X.w X.K X.mg X.base k x f) (hc : X.calm = true) (tk : Takes X W) (hr : Room j X.A) (he : PE X e te) (hs : starEach [e] X.env = (false, eval e X.env) :: starEach [] X.env := by rfl) (hpl : (backTo pos (starEach [] X.env)).any (·.1) = false := by rfl) (hk : k + 1 ≤ j := by decide)
    (hg : Gl X x := by rfl) (hdb : (x == ("__debug__" : Str)) = false := by decide) : PS X (.Raise (some (.Call (.Name x p) [e] [] pos)) none rp) (fun _ σ H => te σ H fun v H1 => ∀ d, H1 d = none → W (.ref (He.ga K x)) (some d) σ (upd H1 d (.xd [(f, v)]))) := by
  subst hK
  have r := ps_raise (pos := rp) hc tk (pmk_x (p := p) (pos := pos) c hr (pe_up he) hs hpl hk hg hdb)
  refine ⟨?_⟩
  intro pins s σ H D I h
  refine r.run pins s σ H D I ⟨_, h, ?_⟩
  intro v H1 z
  exact xi_raised (Q := fun cls d H' => W cls d σ H') z
/-- x(e), as a value -/
theorem pe_x (c : Xi X.prog X.w X.K X.mg X.base k x f) (hr : Room j X.A) (he : PE X e te) (hs : starEach [e] X.env = (false, eval e X.env) :: starEach [] X.env := by rfl) (hpl : (backTo pos (starEach [] X.env)).any (·.1) = false := by rfl) (hk : k + 1 ≤ j := by decide) (hg : Gl X x := by rfl)
    (hdb : (x == ("__debug__" : Str)) = false := by decide) :
    PE X (.Call (.Name x p) [e] [] pos) (fun σ H Q => te σ H fun v H1 => ∀ a d, H1 a = none → H1 d = none → d ≠ a → Q (.ref a) (upd (upd H1 d (exd d [(f, v)])) a (exo a (He.ga X.K x) (some d)))) := by
  obtain ⟨fd, ps, F, bd⟩ := c.ex
  obtain ⟨nm, q, N, bs, bm, sn, sub, ab, col, dd, k0, k1, k2, k3, k5, hC, hbm⟩ := c.c.oex.cls
  refine ⟨?_⟩
  intro pins s σ H Q I h
  refine wpAny_Call_Name_kw (ld_glob I hg c.g ?_ hdb)
  refine PySem.W.callWith_K (h₀ := X.base) I.ok.mod.kin c.c.oex.kC ?_ hs hpl
  rw [hs]
  refine Calls.spliced_cons (thn (he.run pins s σ H _ I h) ?_)
  rintro u s1 ⟨v, H1, I1, r1, q1⟩
  refine Calls.spliced_nil ⟨I1.kIn, ?_⟩
  show wpAny _ _ (call (.ref (He.ga X.K x)) [u]) _ _ _
  obtain ⟨hp, g, dr, tk, os⟩ := s1
  let h2 := (hp.push (PySem.W.kdv_tup [u])).push (PySem.HandSPX.excO (He.ga X.K x) hp.objs.size)
  have le : hp.objs.size ≤ hp.objs.size + 1 := Nat.le_succ _
  have kk : ∀ b o, hp.get? b = some o → h2.get? b = some o := by
    intro b o e
    exact Heap.get?_push_of_some _ (Heap.get?_push_of_some _ e)
  have hget : h2.get? (hp.objs.size + 1) = some (PySem.HandSPX.excO (He.ga X.K x) hp.objs.size) := by
    show ((hp.push (PySem.W.kdv_tup [u])).push (PySem.HandSPX.excO (He.ga X.K x) hp.objs.size)).get? (hp.objs.size + 1) = _
    heap_get
  have I2 : Inv X pins σ (upd H1 (hp.objs.size + 1) (exo (hp.objs.size + 1) (He.ga X.K x) none)) ⟨h2, g, dr, tk, os⟩ := I1.laid (t' := tk) kk le (exo_ok hget)
  have rv : Vals [V.ref (hp.objs.size + 1), v] [Value.ref (hp.objs.size + 1), u] := .cons rfl (.cons r1 .nil)
  have want : spXi X.K x f [V.ref (hp.objs.size + 1), v] (upd H1 (hp.objs.size + 1) (exo (hp.objs.size + 1) (He.ga X.K x) none)) (fun z H2 => z = .non ∧ Q (.ref (hp.objs.size + 1)) H2) (fun _ _ _ => False) :=
    xi_made fun d hd hne => ⟨rfl, q1 _ d (I1.hok.fresh le) hd hne⟩
  have two : [Value.ref (hp.objs.size + 1), u].length = ps.length := by
    rw [← rv.length]
    exact F.len _ _ _ _ want
  have b2 := bd ⟨h2, g, dr, tk, os⟩ [Value.ref (hp.objs.size + 1), u] I2.kIn (by rw [List.append_nil]; exact two)
  rw [List.append_nil] at b2
  refine wpAny_call (PySem.HandSPX.call_own PySem.F.excBase_ValueError (fun Y => PySem.HandSPX.refsVE_contains Y bm hbm) (I1.kIn _ _ hC) (PySem.W.looks_findIn I1.kIn c.c.ini) (fun self => PySem.W.bind_fn I1.kIn self c.c.fn) (by rw [sizeLine_eq]; show 1 ≤ 16777216; decide) ?_)
  refine codeAny_mono (F.run _ X.stack _ _ ⟨[Value.ref (hp.objs.size + 1), u], []⟩ _ _ _ (fun _ _ _ => False) ((hr.mono hk).make (He.ga X.K x) [u] []) (I2.env0.make (He.ga X.K x) [u] []) b2 rv want) ?_
  intro r s3 z
  cases r with
  | error er => exact z.elim
  | ok fl =>
    cases fl with
    | ret y =>
      obtain ⟨v4, H4, J, r4, e4, q4⟩ := I2.after z
      subst e4
      cases (r4 : y = Value.none)
      exact ⟨rfl, .ref (hp.objs.size + 1), H4, J, rfl, q4⟩
    | next => exact z.elim
    | brk => exact z.elim
    | cont => exact z.elim
end

end M

set_option Elab.async false
set_option linter.all false
set_option maxRecDepth 100000
set_option maxHeartbeats 2000000
namespace M
open PySem PySem.Spec PyProof.Rows L2

/-! ### errors as values: isinstance, fields -/
section
open PySem.W PySem.Calls
variable {prog : Program} {w : World} {A : Around} {E : Value → Shared → Prop} {s : Shared} {K : PySem.W.Frag} {x C : Addr} {ox : Obj} {od : Option Obj}
/-- what isinstance asks of an error class -/
structure Isx (K : PySem.W.Frag) (C : Addr) : Prop where
  xf : XfC K C
  cl : PySem.W.findIn K (.ref C) "__class__" = some (some (.builtin "object.__class__"))
  sp : PySem.W.specialIn K (.builtin "object.__class__") "__get__" = some (some (.builtin "getset_descriptor.__get__"))
  tk : PySem.W.takesIn K (.builtin "object.__class__") = some true
  mo : PySem.W.mroIn K C (.type "object") = some true
theorem isx_find (c : Isx K C) : PySem.W.findObj K C od "__class__" = some (.bind (.builtin "getset_descriptor.__get__") (.builtin "object.__class__")) := by
  obtain ⟨cd, hc, _⟩ := PySem.W.any_some c.xf.hdC
  unfold PySem.W.findObj
  rw [hc]
  simp only [Option.bind_some, c.cl, c.sp, c.tk]
/-- the class of an error is asked -/
theorem isx_class (c : Isx K C) (X : K.In s.heap) (I : PySem.W.InstAt s.heap x ox C od) {Q : Option Value → Shared → Prop} (h : Q (some (.ref C)) { s with toks := s.toks + 1 }) : wpAny (model prog w) A (getAttr? (.ref x) "__class__") Q E s := by
  obtain ⟨hp, g, d, t, os⟩ := s
  have typ := I.type (M := model prog w)
  have get := looks_findIn (M := model prog w) X c.xf.ga
  have hook := looks_findIn (M := model prog w) X c.xf.gg
  have fnd := looks_find (M := model prog w) X I (isx_find c)
  have isB : Looks (model prog w) hp (isInstance (.ref x) (.type "BaseException")) true := typ.andThen (looks_subIn X c.xf.exC)
  have ne : (Value.builtin "BaseException.__getattribute__" == Value.builtin "object.__getattribute__") = false := by decide +kernel
  have n1 : (onTheHeap (Value.ref C) && Value.builtin "BaseException.__getattribute__" == Value.builtin "object.__getattribute__") = false := by
    rw [ne]
    exact Bool.and_false _
  have n2 : (false && onTheHeap (Value.builtin "BaseException.__getattribute__")) = false := Bool.false_and _
  unfold getAttr? getAttrBy? getAttrBy
  apply wpAny_bind
  refine wpAny_mkText (wpAny_bind (wpAny_attempt (wpAny_holding (wpAny_bind (typ.at ?_)))))
  refine wpAny_bind (get.at ?_)
  dsimp only
  rw [n1, if_neg (by decide : ¬ (false = true))]
  unfold getAttrByItsOwn hookBefore
  apply wpAny_bind
  rw [if_pos (by rfl : onTheHeap (Value.ref C) = true)]
  refine hook.at (wpAny_bind (wpAny_attempt (wpAny_holding ?_)))
  unfold callGetattribute
  rw [n2, if_neg (by decide : ¬ (false = true))]
  unfold boundAndCalled
  rw [PySem.F.excAttr_ValueError.ga.bind (.ref x)]
  apply wpAny_bind
  apply wpAny_pure
  show wpAny (model prog w) _ (call (.builtin "BaseException.__getattribute__") [.ref x, .str "__class__" t]) _ _ _
  apply wpAny_call
  refine codeAny_call_builtin PySem.F.excAttr_ValueError.ga.plain PySem.F.entry_bexc_ga ?_
  refine @check_slot (model prog w) _ _ ⟨hp, g, d, t + 1, os⟩ "BaseException.__getattribute__" "BaseException" "__getattribute__" (.ref x) [.str "__class__" t] [] _ (by decide +kernel) (by decide +kernel) isB (PySem.F.args_bexc_ga (.ref x) (.str "__class__" t)) ?_
  unfold Builtin.«object.__getattribute__»
  apply wpAny_bind
  refine wpAny_of_eq (a := ((Value.ref x : Value), [Value.str "__class__" t])) (by first | rfl | (simp only [slotArgs]; rfl)) ?_
  apply wpAny_bind
  apply wpAny_pure
  refine wpAny_bind (typ.at ?_)
  refine wpAny_bind (fnd.at ?_)
  show wpAny (model prog w) _ (holding [Value.builtin "object.__class__"] (call (.builtin "getset_descriptor.__get__") [.builtin "object.__class__", .ref x, .ref C]) >>= ret) _ _ _
  apply wpAny_bind
  refine wpAny_holding (wpAny_call (class_get (s := ⟨hp, g, d, t + 1, os⟩) (ox := ox) (od := od) X I c.mo ?_))
  apply wpAny_pure
  show wpAny (model prog w) _ (handedOut (.ref C)) _ _ _
  rw [handedOut_of (v := .ref C) (by rfl)]
  apply wpAny_pure
  first
    | exact wpAny_pure h
    | exact wpAny_bind (wpAny_pure (wpAny_pure h))
    | exact h
theorem isx_kit (c : Isx K C) : PySem.W.KitX K (.ref x) (.ref C) (fun h => ∃ ox od, PySem.W.InstAt h x ox C od) := by
  obtain ⟨cd, hc, _⟩ := PySem.W.any_some c.xf.hdC
  have at_ : ∃ q d sl, K.lookup C = some ⟨q, d, .cls cd, sl⟩ := by
    unfold PySem.W.clsIn at hc
    split at hc
    · rename_i q d cd2 sl ho
      cases hc
      exact ⟨q, d, sl, ho⟩
    · cases hc
  obtain ⟨q, d, sl, ho⟩ := at_
  refine ⟨?_, ?_, ?_, ?_⟩
  · rintro M h _ ⟨ox, od, I⟩
    exact I.type
  · intro M h X _ A1 Q1 E1 s1 k z
    unfold isType loadHead
    apply wpAny_bind
    exact wpAny_loadPart (k _ _ (X _ _ ho)) (wpAny_pure z)
  · intro h tp dd its n sl2 X htp
    cases e : (Value.ref C == .ref tp) with
    | false => rfl
    | true =>
      cases Value.ref.inj (beq_iff_eq.mp e)
      cases (X _ _ ho).symm.trans htp
  · rintro prog w A E Q s X ⟨ox, od, I⟩ z
    exact isx_class c X I z
end
/-- an error of the class x stands at a: without fields, or with these -/
def ErrAt (K : PySem.W.Frag) (H : Hp) (x : Str) (a : Addr) : Prop := H a = some (ExO (.ref (He.ga K x)) a) ∨ ∃ d fs, H a = some (exo a (He.ga K x) (some d)) ∧ H d = some (exd d fs)
section
variable {X : Cx} {pins : List (Addr × Obj)} {σ : L2.St} {H : Hp} {s : Shared} {x y f : Str} {a d : Addr} {e : Expr} {te : TE} {p p1 p2 pos : Pos}
theorem err_inst (I : Inv X pins σ H s) (h : ErrAt X.K H x a) : ∃ ox od, PySem.W.InstAt s.heap a ox (He.ga X.K x) od := by
  rcases h with h | ⟨d, fs, h1, h2⟩
  · obtain ⟨⟨oe, vs, e1, e2, e3, _⟩, _⟩ := (show ObjOk X.prog X.w H s.heap a (ExO (.ref (He.ga X.K x)) a) from I.hok a _ h)
    obtain ⟨oc, od, da, sl⟩ := oe
    obtain ⟨z1, z2⟩ := e2
    dsimp only at z1 z2 e3
    subst z1 z2 e3
    exact ⟨_, none, e1, rfl, rfl, True.intro⟩
  · obtain ⟨t1, e1⟩ := exo_at I.hok h1
    obtain ⟨mA, ⟨o, es, ep, e2, _⟩, _⟩ := exd_at I.hok h2
    exact ⟨_, some o, e1, rfl, rfl, e2⟩
/-- isinstance(e, y) of an error -/
def rIsx (K : PySem.W.Frag) (y : Str) : List V → Hp → VK → Prop := fun vs H Q => ∃ (a : Addr) (x : Str) (b : Bool), vs = [.ref a, .ref (He.ga K y)] ∧ ErrAt K H x a ∧ Isx K (He.ga K x) ∧ PySem.W.kitOne K (.ref (He.ga K x)) (.ref (He.ga K y)) = some b ∧ Q (.bl b) H
theorem call_isx (y : Str) : CallR X (.builtin "isinstance") (rIsx X.K y) := by
  intro pins s σ H vs us Q I r h
  obtain ⟨a, x, b, rfl, h1, h2, h3, h4⟩ := h
  obtain ⟨u1, u2, rfl, r1, r2⟩ := vals2 r
  cases (show u1 = Value.ref a from r1)
  cases (show u2 = Value.ref (He.ga X.K y) from r2)
  exact PySem.W.kia_one (isx_kit h2) I.kIn (err_inst I h1) h3 (fun z => nomatch z) fun tk => ⟨.bl b, H, I.tok tk, rfl, h4⟩
/-- isinstance(e, ValueError) -/
def rIsxT (K : PySem.W.Frag) (n : String) : List V → Hp → VK → Prop := fun vs H Q => ∃ (a : Addr) (x : Str) (b : Bool), vs = [.ref a, .ty n] ∧ ErrAt K H x a ∧ Isx K (He.ga K x) ∧ PySem.W.kitOne K (.ref (He.ga K x)) (.type n) = some b ∧ Q (.bl b) H
theorem call_isxT (n : String) : CallR X (.builtin "isinstance") (rIsxT X.K n) := by
  intro pins s σ H vs us Q I r h
  obtain ⟨a, x, b, rfl, h1, h2, h3, h4⟩ := h
  obtain ⟨u1, u2, rfl, r1, r2⟩ := vals2 r
  cases (show u1 = Value.ref a from r1)
  cases (show u2 = Value.type n from r2)
  exact PySem.W.kia_one (isx_kit h2) I.kIn (err_inst I h1) h3 (fun z => nomatch z) fun tk => ⟨.bl b, H, I.tok tk, rfl, h4⟩
/-- e.f of an error -/
theorem pe_xfv (he : PE X e te) (hb : attributeBase e f X.env (eval e X.env) = eval e X.env := by rfl) : PE X (.Attribute e f pos) (fun σ H Q => te σ H fun v H1 => ∃ (a : Addr) (x : Str) (d : Addr) (fs : List (Str × V)) (u : V), v = .ref a ∧ H1 a = some (exo a (He.ga X.K x) (some d)) ∧ H1 d = some (exd d fs) ∧
    XfC X.K (He.ga X.K x) ∧ PySem.W.findIn X.K (.ref (He.ga X.K x)) f = some none ∧ fs.lookup f = some u ∧ Q u H1) := by
  refine ⟨?_⟩
  intro pins s σ H Q I h
  refine attr_of hb (thn (he.run pins s σ H _ I h) ?_)
  rintro u s1 ⟨v, H1, I1, rv, a, x, d, fs, y, rfl, h1, h2, c, no, hl, q⟩
  cases (rv : u = Value.ref a)
  obtain ⟨t1, e1⟩ := exo_at I1.hok h1
  obtain ⟨mA, hns, rel⟩ := exd_at I1.hok h2
  obtain ⟨od, ho, hlk⟩ := lookIn_ns hns
  obtain ⟨u, hu, ru⟩ := RelO.some_of (v := y) (o := mA f) (hl ▸ rel f)
  have J : PySem.W.InstAt s1.heap a { cls := .ref (He.ga X.K x), dict := some d, data := .fields #[.ref t1, .none, .none, .none, .bool false, .none] } (He.ga X.K x) (some od) := ⟨e1, rfl, rfl, ho⟩
  refine HandSPX.exc_get I1.kIn J c.ga c.gg c.exC (PySem.W.findObj_own c.hdC no rfl ?_) (handed_of ru) ⟨y, H1, I1.tok _, ru, q⟩
  rw [hlk, hu]
/-- x(), an error class without an __init__ of its own, as a value -/
theorem pe_x0 {bmB : List Value} {B newId initId : String} (F : ExcBaseFacts B newId initId bmB) (c : PySem.W.excIn X.K (He.ga X.K x) bmB newId = true ∧ PySem.W.keepIn X.K (.ref (He.ga X.K x)) = true ∧ PySem.W.subIn X.K (.ref (He.ga X.K x)) (.type "BaseException") = some true ∧ PySem.W.typeIn X.K (.ref (He.ga X.K x)) = some (.type "type"))
    (g : X.mg x = some (.ref (He.ga X.K x))) (hg : Gl X x := by rfl) (hdb : (x == ("__debug__" : Str)) = false := by decide) :
    PE X (.Call (.Name x p) [] [] pos) (fun _ H Q => ∀ a, H a = none → Q (.ref a) (upd H a (ExO (.ref (He.ga X.K x)) a))) := by
  obtain ⟨c1, c2, _, _⟩ := c
  refine ⟨?_⟩
  intro pins s σ H Q I h
  refine wpAny_Call_Name_kw (ld_glob I hg g ?_ hdb)
  refine PySem.W.callWith_K0 I.kIn c2 ?_
  show wpAny _ _ (call (.ref (He.ga X.K x)) []) _ _ _
  obtain ⟨bm, N, nm, qn, bs, hdct, sn, sub, ab, col, dd, k0, k1, k2, k3, k5, mN, hC, hN, hni, T⟩ := exc_obj I.kIn c1
  refine wpAny_call_exc_subT F T hC hN hni ?_ (Nat.zero_le _)
  intro h' a hm
  have no := I.hok.gone hm.new
  obtain ⟨t, ht, _, _⟩ := hm.there
  exact ⟨.ref a, _, I.laidN hm.keeps hm.new no (exO_ok ht ⟨rfl, rfl⟩ rfl rfl rfl (by decide : 4 < 6)), rfl, h a no⟩
end
theorem isxC_ok {K : PySem.W.Frag} {C : Addr} (h : isxC K C = true) : Isx K C ∧ PySem.W.kitOne K (.ref C) (.type "ValueError") = some true := by
  obtain ⟨h1, h⟩ := He.ba h
  obtain ⟨h2, h⟩ := He.ba h
  obtain ⟨h3, h⟩ := He.ba h
  obtain ⟨h4, h⟩ := He.ba h
  obtain ⟨h5, h6⟩ := He.ba h
  exact ⟨⟨xfB_ok h1, He.eqO_ok h2, He.eqO_ok h3, of_decide_eq_true h4, of_decide_eq_true h5⟩, of_decide_eq_true h6⟩
theorem isx_of {K : PySem.W.Frag} {p : Str} {xs : List Str} (h : isxB K p xs = true) {x : Str} (hx : x ∈ xs) : Isx K (He.ga K x) ∧ PySem.W.kitOne K (.ref (He.ga K x)) (.type "ValueError") = some true ∧ PySem.W.kitOne K (.ref (He.ga K x)) (.ref (He.ga K p)) = some true ∧
    ∀ y ∈ xs, PySem.W.kitOne K (.ref (He.ga K x)) (.ref (He.ga K y)) = some (decide (y = x)) := by
  obtain ⟨_, h⟩ := He.ba h
  obtain ⟨h1, h⟩ := He.ba (List.all_eq_true.mp h x hx)
  obtain ⟨h2, h3⟩ := He.ba h
  obtain ⟨k1, k2⟩ := isxC_ok h1
  exact ⟨k1, k2, of_decide_eq_true h2, fun y hy => of_decide_eq_true (List.all_eq_true.mp h3 y hy)⟩
theorem isx_p {K : PySem.W.Frag} {p : Str} {xs : List Str} (h : isxB K p xs = true) : Isx K (He.ga K p) ∧ PySem.W.kitOne K (.ref (He.ga K p)) (.type "ValueError") = some true ∧ ∀ y ∈ xs, PySem.W.kitOne K (.ref (He.ga K p)) (.ref (He.ga K y)) = some false := by
  obtain ⟨h, _⟩ := He.ba h
  obtain ⟨h1, h2⟩ := He.ba h
  obtain ⟨k1, k2⟩ := isxC_ok h1
  exact ⟨k1, k2, fun y hy => of_decide_eq_true (List.all_eq_true.mp h2 y hy)⟩

end M

set_option Elab.async false
set_option linter.all false
set_option maxRecDepth 100000
set_option maxHeartbeats 2000000
namespace M
open PySem PySem.Spec PyProof.Rows L2

section
variable {P : Program} {w : World} {K : PySem.W.Frag} {mg : Str → Option Value} {base : Heap}
theorem xi_NoVault (T : Txt w K mg) : Xi P w K mg base 2 "NoVault" "part" := by
  refine xi_of (N := ["self", "part"]) (ps := ["self", "part"]) T.f_NoVault_init T.g_NoVault T.e_NoVault ⟨rfl, rfl, rfl, by decide +kernel, rfl, by decide +kernel, by decide +kernel⟩ (fun _ _ _ _ _ _ us hl => match us, hl with | [_, _], _ => rfl) rfl (fun cdv A outer s H vs Q E hr h => ?_)
  obtain ⟨a, v, rfl, e, g⟩ := h
  exact ⟨_, pss_cons (ps_expr (pe_pinit T.g_PastError T.e_PastError (pa_cons (pv 0) (pa_cons pe_str pa_nil)))) (pss_one (ps_ost (pv 0) (pv 1))), .ref a, rfl, a, _, _, rfl, (by show 1 ≤ 1000; decide), (oexB_ok T.e_NoVault).oex, e, v, rfl, .ref a, rfl, a, _, rfl, (oexB_ok T.e_NoVault).oex, (oexB_ok T.e_NoVault).no, .inl ⟨e, g⟩⟩
theorem xi_NoReader (T : Txt w K mg) : Xi P w K mg base 2 "NoReader" "part" := by
  refine xi_of (N := ["self", "part"]) (ps := ["self", "part"]) T.f_NoReader_init T.g_NoReader T.e_NoReader ⟨rfl, rfl, rfl, by decide +kernel, rfl, by decide +kernel, by decide +kernel⟩ (fun _ _ _ _ _ _ us hl => match us, hl with | [_, _], _ => rfl) rfl (fun cdv A outer s H vs Q E hr h => ?_)
  obtain ⟨a, v, rfl, e, g⟩ := h
  exact ⟨_, pss_cons (ps_expr (pe_pinit T.g_PastError T.e_PastError (pa_cons (pv 0) (pa_cons pe_str pa_nil)))) (pss_one (ps_ost (pv 0) (pv 1))), .ref a, rfl, a, _, _, rfl, (by show 1 ≤ 1000; decide), (oexB_ok T.e_NoReader).oex, e, v, rfl, .ref a, rfl, a, _, rfl, (oexB_ok T.e_NoReader).oex, (oexB_ok T.e_NoReader).no, .inl ⟨e, g⟩⟩
theorem xi_NoWish (T : Txt w K mg) : Xi P w K mg base 2 "NoWish" "part" := by
  refine xi_of (N := ["self", "part"]) (ps := ["self", "part"]) T.f_NoWish_init T.g_NoWish T.e_NoWish ⟨rfl, rfl, rfl, by decide +kernel, rfl, by decide +kernel, by decide +kernel⟩ (fun _ _ _ _ _ _ us hl => match us, hl with | [_, _], _ => rfl) rfl (fun cdv A outer s H vs Q E hr h => ?_)
  obtain ⟨a, v, rfl, e, g⟩ := h
  exact ⟨_, pss_cons (ps_expr (pe_pinit T.g_PastError T.e_PastError (pa_cons (pv 0) (pa_cons pe_str pa_nil)))) (pss_one (ps_ost (pv 0) (pv 1))), .ref a, rfl, a, _, _, rfl, (by show 1 ≤ 1000; decide), (oexB_ok T.e_NoWish).oex, e, v, rfl, .ref a, rfl, a, _, rfl, (oexB_ok T.e_NoWish).oex, (oexB_ok T.e_NoWish).no, .inl ⟨e, g⟩⟩
theorem xi_TooMany (T : Txt w K mg) : Xi P w K mg base 2 "TooMany" "most" := by
  refine xi_of (N := ["self", "most"]) (ps := ["self", "most"]) T.f_TooMany_init T.g_TooMany T.e_TooMany ⟨rfl, rfl, rfl, by decide +kernel, rfl, by decide +kernel, by decide +kernel⟩ (fun _ _ _ _ _ _ us hl => match us, hl with | [_, _], _ => rfl) rfl (fun cdv A outer s H vs Q E hr h => ?_)
  obtain ⟨a, v, rfl, e, g⟩ := h
  exact ⟨_, pss_cons (ps_expr (pe_pinit T.g_PastError T.e_PastError (pa_cons (pv 0) (pa_cons pe_str pa_nil)))) (pss_one (ps_ost (pv 0) (pv 1))), .ref a, rfl, a, _, _, rfl, (by show 1 ≤ 1000; decide), (oexB_ok T.e_TooMany).oex, e, v, rfl, .ref a, rfl, a, _, rfl, (oexB_ok T.e_TooMany).oex, (oexB_ok T.e_TooMany).no, .inl ⟨e, g⟩⟩
theorem xi_NoRow (T : Txt w K mg) : Xi P w K mg base 2 "NoRow" "index" := by
  refine xi_of (N := ["self", "index"]) (ps := ["self", "index"]) T.f_NoRow_init T.g_NoRow T.e_NoRow ⟨rfl, rfl, rfl, by decide +kernel, rfl, by decide +kernel, by decide +kernel⟩ (fun _ _ _ _ _ _ us hl => match us, hl with | [_, _], _ => rfl) rfl (fun cdv A outer s H vs Q E hr h => ?_)
  obtain ⟨a, v, rfl, e, g⟩ := h
  exact ⟨_, pss_cons (ps_expr (pe_pinit T.g_PastError T.e_PastError (pa_cons (pv 0) (pa_cons pe_str pa_nil)))) (pss_one (ps_ost (pv 0) (pv 1))), .ref a, rfl, a, _, _, rfl, (by show 1 ≤ 1000; decide), (oexB_ok T.e_NoRow).oex, e, v, rfl, .ref a, rfl, a, _, rfl, (oexB_ok T.e_NoRow).oex, (oexB_ok T.e_NoRow).no, .inl ⟨e, g⟩⟩
theorem xi_NoWeaving (T : Txt w K mg) : Xi P w K mg base 2 "NoWeaving" "index" := by
  refine xi_of (N := ["self", "index"]) (ps := ["self", "index"]) T.f_NoWeaving_init T.g_NoWeaving T.e_NoWeaving ⟨rfl, rfl, rfl, by decide +kernel, rfl, by decide +kernel, by decide +kernel⟩ (fun _ _ _ _ _ _ us hl => match us, hl with | [_, _], _ => rfl) rfl (fun cdv A outer s H vs Q E hr h => ?_)
  obtain ⟨a, v, rfl, e, g⟩ := h
  exact ⟨_, pss_cons (ps_expr (pe_pinit T.g_PastError T.e_PastError (pa_cons (pv 0) (pa_cons pe_str pa_nil)))) (pss_one (ps_ost (pv 0) (pv 1))), .ref a, rfl, a, _, _, rfl, (by show 1 ≤ 1000; decide), (oexB_ok T.e_NoWeaving).oex, e, v, rfl, .ref a, rfl, a, _, rfl, (oexB_ok T.e_NoWeaving).oex, (oexB_ok T.e_NoWeaving).no, .inl ⟨e, g⟩⟩
theorem xi_NoText (T : Txt w K mg) : Xi P w K mg base 2 "NoText" "line" := by
  refine xi_of (N := ["self", "line"]) (ps := ["self", "line"]) T.f_NoText_init T.g_NoText T.e_NoText ⟨rfl, rfl, rfl, by decide +kernel, rfl, by decide +kernel, by decide +kernel⟩ (fun _ _ _ _ _ _ us hl => match us, hl with | [_, _], _ => rfl) rfl (fun cdv A outer s H vs Q E hr h => ?_)
  obtain ⟨a, v, rfl, e, g⟩ := h
  exact ⟨_, pss_cons (ps_expr (pe_pinit T.g_PastError T.e_PastError (pa_cons (pv 0) (pa_cons pe_str pa_nil)))) (pss_one (ps_ost (pv 0) (pv 1))), .ref a, rfl, a, _, _, rfl, (by show 1 ≤ 1000; decide), (oexB_ok T.e_NoText).oex, e, v, rfl, .ref a, rfl, a, _, rfl, (oexB_ok T.e_NoText).oex, (oexB_ok T.e_NoText).no, .inl ⟨e, g⟩⟩
end

end M

set_option Elab.async false
set_option linter.all false
set_option maxRecDepth 100000
set_option maxHeartbeats 2000000
namespace M
open PySem PySem.Spec PyProof.Rows L2

section
variable {P : Program} {w : World} {K : PySem.W.Frag} {mg : Str → Option Value} {base : Heap}
/-- the readings of isinstance(e, y), the y one after another -/
def taIs (K : PySem.W.Frag) (te : TE) : List Str → TA
  | [] => tNil
  | y :: ys => tCons (tCB (rIsx K y) (tCons te (tCons (tC (.ref (He.ga K y))) tNil))) (taIs K te ys)
theorem taIs_ok {te : TE} {σ : L2.St} {H : Hp} {a : Addr} {x : Str} (ht : ∀ Q : VK, Q (.ref a) H → te σ H Q) (he : ErrAt K H x a) (hi : Isx K (He.ga K x)) {b : Str → Bool} : ∀ (ys : List Str) (Q : List V → Hp → Prop), (∀ y ∈ ys, PySem.W.kitOne K (.ref (He.ga K x)) (.ref (He.ga K y)) = some (b y)) →
    Q (ys.map fun y => .bl (b y)) H → taIs K te ys σ H Q
  | [], Q, _, q => q
  | y :: ys, Q, hk, q => by
    show te σ H _
    apply ht
    refine ⟨a, x, b y, rfl, he, hi, hk y List.mem_cons_self, ?_⟩
    exact taIs_ok ht he hi ys _ (fun z hz => hk z (List.mem_cons_of_mem _ hz)) q
def spHalf (K : PySem.W.Frag) (ys : List Str) : Sp := fun vs H Q _ => ∃ (a : Addr) (x : Str) (b : Str → Bool), vs = [.ref a] ∧ ErrAt K H x a ∧ Isx K (He.ga K x) ∧ (∀ y ∈ ys, PySem.W.kitOne K (.ref (He.ga K x)) (.ref (He.ga K y)) = some (b y)) ∧
  ∀ l, H l = none → Q (.ref l) (upd H l (.lst (ys.map fun y => .bl (b y))))
theorem ca_l_first_half (T : Txt w K mg) : Ca P w K mg base 1 "_law_first_half" (spHalf K en0) := by
  refine ca_of (N := ["_law_e"]) (ps := ["_law_e"]) T.f_l_first_half T.g_law_first_half ⟨rfl, rfl, rfl, by decide +kernel, rfl, by decide +kernel, by decide +kernel⟩ (fun _ _ _ _ _ _ us hl => match us, hl with | [_], _ => rfl)
    (fun vs H Q E h => by obtain ⟨a, x, b, rfl, he, hi, hk, q⟩ := h; rfl) (fun cdv A outer s H vs Q E hr h => ?_)
  have nd : (["_law_e"] : List Str).Nodup := by decide +kernel
  obtain ⟨a, x, b, rfl, he, hi, hk, q⟩ := h
  refine ⟨_, (pss_one (ps_ret (pe_lst (pa_cons (pe_callB (call_isx "NoName") (by rfl) T.b_isinstance boot_isinstance (pa_cons (pv 0) (pa_cons (pe_gr T.g_NoName) pa_nil))) (pa_cons (pe_callB (call_isx "NoState") (by rfl) T.b_isinstance boot_isinstance (pa_cons (pv 0) (pa_cons (pe_gr T.g_NoState) pa_nil))) (pa_cons (pe_callB (call_isx "NoCall") (by rfl) T.b_isinstance boot_isinstance (pa_cons (pv 0) (pa_cons (pe_gr T.g_NoCall) pa_nil))) (pa_cons (pe_callB (call_isx "NoCoins") (by rfl) T.b_isinstance boot_isinstance (pa_cons (pv 0) (pa_cons (pe_gr T.g_NoCoins) pa_nil))) (pa_cons (pe_callB (call_isx "CoinsOut") (by rfl) T.b_isinstance boot_isinstance (pa_cons (pv 0) (pa_cons (pe_gr T.g_CoinsOut) pa_nil))) (pa_cons (pe_callB (call_isx "HasCoins") (by rfl) T.b_isinstance boot_isinstance (pa_cons (pv 0) (pa_cons (pe_gr T.g_HasCoins) pa_nil))) (pa_cons (pe_callB (call_isx "NotSure") (by rfl) T.b_isinstance boot_isinstance (pa_cons (pv 0) (pa_cons (pe_gr T.g_NotSure) pa_nil))) (pa_cons (pe_callB (call_isx "NotComing") (by rfl) T.b_isinstance boot_isinstance (pa_cons (pv 0) (pa_cons (pe_gr T.g_NotComing) pa_nil))) (pa_cons (pe_callB (call_isx "NoMost") (by rfl) T.b_isinstance boot_isinstance (pa_cons (pv 0) (pa_cons (pe_gr T.g_NoMost) pa_nil))) (pa_cons (pe_callB (call_isx "NoNames") (by rfl) T.b_isinstance boot_isinstance (pa_cons (pv 0) (pa_cons (pe_gr T.g_NoNames) pa_nil))) (pa_cons (pe_callB (call_isx "OtherCalls") (by rfl) T.b_isinstance boot_isinstance (pa_cons (pv 0) (pa_cons (pe_gr T.g_OtherCalls) pa_nil))) (pa_cons (pe_callB (call_isx "NoStand") (by rfl) T.b_isinstance boot_isinstance (pa_cons (pv 0) (pa_cons (pe_gr T.g_NoStand) pa_nil))) (pa_cons (pe_callB (call_isx "NoStruck") (by rfl) T.b_isinstance boot_isinstance (pa_cons (pv 0) (pa_cons (pe_gr T.g_NoStruck) pa_nil))) (pa_cons (pe_callB (call_isx "NoContent") (by rfl) T.b_isinstance boot_isinstance (pa_cons (pv 0) (pa_cons (pe_gr T.g_NoContent) pa_nil))) (pa_cons (pe_callB (call_isx "TooWide") (by rfl) T.b_isinstance boot_isinstance (pa_cons (pv 0) (pa_cons (pe_gr T.g_TooWide) pa_nil))) (pa_cons (pe_callB (call_isx "NoSizes") (by rfl) T.b_isinstance boot_isinstance (pa_cons (pv 0) (pa_cons (pe_gr T.g_NoSizes) pa_nil))) (pa_cons (pe_callB (call_isx "NoLayouts") (by rfl) T.b_isinstance boot_isinstance (pa_cons (pv 0) (pa_cons (pe_gr T.g_NoLayouts) pa_nil))) (pa_cons (pe_callB (call_isx "NoSize") (by rfl) T.b_isinstance boot_isinstance (pa_cons (pv 0) (pa_cons (pe_gr T.g_NoSize) pa_nil))) (pa_cons (pe_callB (call_isx "NoHand") (by rfl) T.b_isinstance boot_isinstance (pa_cons (pv 0) (pa_cons (pe_gr T.g_NoHand) pa_nil))) (pa_cons (pe_callB (call_isx "Busy") (by rfl) T.b_isinstance boot_isinstance (pa_cons (pv 0) (pa_cons (pe_gr T.g_Busy) pa_nil))) pa_nil))))))))))))))))))))))), ?_⟩
  exact taIs_ok (te := tVar 0) (fun Q q => ⟨_, rfl, q⟩) he hi en0 _ hk ⟨by rw [List.length_map]; decide, fun l nl => q l nl⟩
theorem ca_l_second_half (T : Txt w K mg) : Ca P w K mg base 1 "_law_second_half" (spHalf K en1) := by
  refine ca_of (N := ["_law_e"]) (ps := ["_law_e"]) T.f_l_second_half T.g_law_second_half ⟨rfl, rfl, rfl, by decide +kernel, rfl, by decide +kernel, by decide +kernel⟩ (fun _ _ _ _ _ _ us hl => match us, hl with | [_], _ => rfl)
    (fun vs H Q E h => by obtain ⟨a, x, b, rfl, he, hi, hk, q⟩ := h; rfl) (fun cdv A outer s H vs Q E hr h => ?_)
  have nd : (["_law_e"] : List Str).Nodup := by decide +kernel
  obtain ⟨a, x, b, rfl, he, hi, hk, q⟩ := h
  refine ⟨_, (pss_one (ps_ret (pe_lst (pa_cons (pe_callB (call_isx "NotBusy") (by rfl) T.b_isinstance boot_isinstance (pa_cons (pv 0) (pa_cons (pe_gr T.g_NotBusy) pa_nil))) (pa_cons (pe_callB (call_isx "NoRule") (by rfl) T.b_isinstance boot_isinstance (pa_cons (pv 0) (pa_cons (pe_gr T.g_NoRule) pa_nil))) (pa_cons (pe_callB (call_isx "NoChoice") (by rfl) T.b_isinstance boot_isinstance (pa_cons (pv 0) (pa_cons (pe_gr T.g_NoChoice) pa_nil))) (pa_cons (pe_callB (call_isx "OtherSizes") (by rfl) T.b_isinstance boot_isinstance (pa_cons (pv 0) (pa_cons (pe_gr T.g_OtherSizes) pa_nil))) (pa_cons (pe_callB (call_isx "NoCut") (by rfl) T.b_isinstance boot_isinstance (pa_cons (pv 0) (pa_cons (pe_gr T.g_NoCut) pa_nil))) (pa_cons (pe_callB (call_isx "NoBack") (by rfl) T.b_isinstance boot_isinstance (pa_cons (pv 0) (pa_cons (pe_gr T.g_NoBack) pa_nil))) (pa_cons (pe_callB (call_isx "NotPlain") (by rfl) T.b_isinstance boot_isinstance (pa_cons (pv 0) (pa_cons (pe_gr T.g_NotPlain) pa_nil))) (pa_cons (pe_callB (call_isx "NoLook") (by rfl) T.b_isinstance boot_isinstance (pa_cons (pv 0) (pa_cons (pe_gr T.g_NoLook) pa_nil))) (pa_cons (pe_callB (call_isx "NoExpression") (by rfl) T.b_isinstance boot_isinstance (pa_cons (pv 0) (pa_cons (pe_gr T.g_NoExpression) pa_nil))) (pa_cons (pe_callB (call_isx "NoLine") (by rfl) T.b_isinstance boot_isinstance (pa_cons (pv 0) (pa_cons (pe_gr T.g_NoLine) pa_nil))) (pa_cons (pe_callB (call_isx "NothingDone") (by rfl) T.b_isinstance boot_isinstance (pa_cons (pv 0) (pa_cons (pe_gr T.g_NothingDone) pa_nil))) (pa_cons (pe_callB (call_isx "NoVault") (by rfl) T.b_isinstance boot_isinstance (pa_cons (pv 0) (pa_cons (pe_gr T.g_NoVault) pa_nil))) (pa_cons (pe_callB (call_isx "NoReader") (by rfl) T.b_isinstance boot_isinstance (pa_cons (pv 0) (pa_cons (pe_gr T.g_NoReader) pa_nil))) (pa_cons (pe_callB (call_isx "NoWish") (by rfl) T.b_isinstance boot_isinstance (pa_cons (pv 0) (pa_cons (pe_gr T.g_NoWish) pa_nil))) (pa_cons (pe_callB (call_isx "TooMany") (by rfl) T.b_isinstance boot_isinstance (pa_cons (pv 0) (pa_cons (pe_gr T.g_TooMany) pa_nil))) (pa_cons (pe_callB (call_isx "NoRow") (by rfl) T.b_isinstance boot_isinstance (pa_cons (pv 0) (pa_cons (pe_gr T.g_NoRow) pa_nil))) (pa_cons (pe_callB (call_isx "NoWeaving") (by rfl) T.b_isinstance boot_isinstance (pa_cons (pv 0) (pa_cons (pe_gr T.g_NoWeaving) pa_nil))) (pa_cons (pe_callB (call_isx "NoText") (by rfl) T.b_isinstance boot_isinstance (pa_cons (pv 0) (pa_cons (pe_gr T.g_NoText) pa_nil))) pa_nil))))))))))))))))))))), ?_⟩
  exact taIs_ok (te := tVar 0) (fun Q q => ⟨_, rfl, q⟩) he hi en1 _ hk ⟨by rw [List.length_map]; decide, fun l nl => q l nl⟩
/-- the errors without a field, made one after another -/
def taX0 (K : PySem.W.Frag) : List Str → TA
  | [] => tNil
  | x :: xs => tCons (fun _ H Q => ∀ a, H a = none → Q (.ref a) (upd H a (ExO (.ref (He.ga K x)) a))) (taX0 K xs)
/-- those with a field -/
def taX1 (K : PySem.W.Frag) (te : TE) : List (Str × Str) → TA
  | [] => tNil
  | (x, f) :: xs => tCons (fun σ H Q => te σ H fun v H1 => ∀ a d, H1 a = none → H1 d = none → d ≠ a → Q (.ref a) (upd (upd H1 d (exd d [(f, v)])) a (exo a (He.ga K x) (some d)))) (taX1 K te xs)
/-- at a an error of the class x without a field, such as was made -/
def Err0 (K : PySem.W.Frag) (H : Hp) (x : Str) (a : Addr) : Prop := H a = some (ExO (.ref (He.ga K x)) a)
def Err1 (K : PySem.W.Frag) (H : Hp) (v : V) (x f : Str) (a : Addr) : Prop := ∃ d, H a = some (exo a (He.ga K x) (some d)) ∧ H d = some (exd d [(f, v)])
theorem Err0.same {H H' : Hp} {x : Str} {a : Addr} (s : Same H H') (h : Err0 K H x a) : Err0 K H' x a := s _ _ h
theorem Err1.same {H H' : Hp} {x f : Str} {v : V} {a : Addr} (s : Same H H') (h : Err1 K H v x f a) : Err1 K H' v x f a := by
  obtain ⟨d, h1, h2⟩ := h
  exact ⟨d, s _ _ h1, s _ _ h2⟩
theorem taX0_ok {σ : L2.St} : ∀ (xs : List Str) (H : Hp) (Q : List V → Hp → Prop), (∀ (as : List Addr) (H' : Hp), Same H H' → Paired (Err0 K H') xs as → Q (as.map V.ref) H') → taX0 K xs σ H Q
  | [], H, Q, q => q [] H (Same.refl _) .nil
  | x :: xs, H, Q, q => by
    intro a na
    refine taX0_ok xs _ _ ?_
    intro as H' s h
    exact q (a :: as) H' ((same_new na).trans s) (.cons (s _ _ upd_same) h)
theorem same_two {H : Hp} {a d : Addr} {o u : HO} (na : H a = none) (nd : H d = none) : Same H (upd (upd H d o) a u) := by
  intro b z e
  rw [upd_ne (ne_of_none e na), upd_ne (ne_of_none e nd)]
  exact e
theorem taX1_ok {te : TE} {σ : L2.St} {v : V} (ht : ∀ (H : Hp) (Q : VK), Q v H → te σ H Q) : ∀ (xs : List (Str × Str)) (H : Hp) (Q : List V → Hp → Prop), (∀ (as : List Addr) (H' : Hp), Same H H' → Paired (fun p a => Err1 K H' v p.1 p.2 a) xs as → Q (as.map V.ref) H') → taX1 K te xs σ H Q
  | [], H, Q, q => q [] H (Same.refl _) .nil
  | (x, f) :: xs, H, Q, q => by
    show te σ H _
    apply ht
    intro a d na nd hne
    refine taX1_ok ht xs _ _ ?_
    intro as H' s h
    exact q (a :: as) H' ((same_two na nd).trans s) (.cons ⟨d, s _ _ upd_same, s _ _ (by rw [upd_ne hne, upd_same])⟩ h)
theorem pairedTo {A B : Type} {R S : A → B → Prop} (i : ∀ a b, R a b → S a b) : ∀ {xs : List A} {ys : List B}, Paired R xs ys → Paired S xs ys
  | _, _, .nil => .nil
  | _, _, .cons h t => .cons (i _ _ h) (pairedTo i t)
def ep0 : List Str := ["NoName", "NoState", "NoCall", "NoCoins", "CoinsOut", "HasCoins", "NotSure", "NotComing", "NoMost", "NoNames", "OtherCalls", "NoStand", "NoStruck", "NoContent", "TooWide", "NoSizes"]
def ep1 : List Str := ["NoLayouts", "NoSize", "NoHand", "Busy", "NotBusy", "NoRule", "NoChoice", "OtherSizes", "NoCut", "NoBack", "NotPlain", "NoLook", "NoExpression", "NoLine", "NothingDone"]
def ep : List Str := ep0 ++ ep1
def eq : List (Str × Str) := [("NoVault", "part"), ("NoReader", "part"), ("NoWish", "part"), ("TooMany", "most"), ("NoRow", "index"), ("NoWeaving", "index"), ("NoText", "line")]
/-- the errors of the law: at l -/
def ErrsAt (K : PySem.W.Frag) (H : Hp) (v : V) (l : Addr) : Prop := ∃ as bs : List Addr, H l = some (.lst (as.map V.ref ++ bs.map V.ref)) ∧ Paired (Err0 K H) ep as ∧ Paired (fun p a => Err1 K H v p.1 p.2 a) eq bs
def spErrs (K : PySem.W.Frag) : Sp := fun vs H Q _ => ∃ v : V, vs = [v] ∧ ∀ l H', Same H H' → ErrsAt K H' v l → Q (.ref l) H'
theorem ca_l_errors (T : Txt w K mg) : Ca P w K mg base 4 "_law_errors" (spErrs K) := by
  refine ca_of (N := ["_law_thing_here", "_law_plain"]) (ps := ["_law_thing_here"]) T.f_l_errors T.g_law_errors ⟨rfl, rfl, rfl, by decide +kernel, rfl, by decide +kernel, by decide +kernel⟩ (fun _ _ _ _ _ _ us hl => match us, hl with | [_], _ => rfl)
    (fun vs H Q E h => by obtain ⟨v, rfl, q⟩ := h; rfl) (fun cdv A outer s H vs Q E hr h => ?_)
  have nd : (["_law_thing_here", "_law_plain"] : List Str).Nodup := by decide +kernel
  obtain ⟨v, rfl, q⟩ := h
  refine ⟨_, (pss_cons (ps_set (i := 1) nd rfl (.inl rfl) (pe_lst (pa_cons (pe_x0 PySem.F.excBase_ValueError T.x_NoName T.g_NoName) (pa_cons (pe_x0 PySem.F.excBase_ValueError T.x_NoState T.g_NoState) (pa_cons (pe_x0 PySem.F.excBase_ValueError T.x_NoCall T.g_NoCall) (pa_cons (pe_x0 PySem.F.excBase_ValueError T.x_NoCoins T.g_NoCoins) (pa_cons (pe_x0 PySem.F.excBase_ValueError T.x_CoinsOut T.g_CoinsOut) (pa_cons (pe_x0 PySem.F.excBase_ValueError T.x_HasCoins T.g_HasCoins) (pa_cons (pe_x0 PySem.F.excBase_ValueError T.x_NotSure T.g_NotSure) (pa_cons (pe_x0 PySem.F.excBase_ValueError T.x_NotComing T.g_NotComing) (pa_cons (pe_x0 PySem.F.excBase_ValueError T.x_NoMost T.g_NoMost) (pa_cons (pe_x0 PySem.F.excBase_ValueError T.x_NoNames T.g_NoNames) (pa_cons (pe_x0 PySem.F.excBase_ValueError T.x_OtherCalls T.g_OtherCalls) (pa_cons (pe_x0 PySem.F.excBase_ValueError T.x_NoStand T.g_NoStand) (pa_cons (pe_x0 PySem.F.excBase_ValueError T.x_NoStruck T.g_NoStruck) (pa_cons (pe_x0 PySem.F.excBase_ValueError T.x_NoContent T.g_NoContent) (pa_cons (pe_x0 PySem.F.excBase_ValueError T.x_TooWide T.g_TooWide) (pa_cons (pe_x0 PySem.F.excBase_ValueError T.x_NoSizes T.g_NoSizes) (pa_cons (pe_x0 PySem.F.excBase_ValueError T.x_NoLayouts T.g_NoLayouts) (pa_cons (pe_x0 PySem.F.excBase_ValueError T.x_NoSize T.g_NoSize) (pa_cons (pe_x0 PySem.F.excBase_ValueError T.x_NoHand T.g_NoHand) (pa_cons (pe_x0 PySem.F.excBase_ValueError T.x_Busy T.g_Busy) (pa_cons (pe_x0 PySem.F.excBase_ValueError T.x_NotBusy T.g_NotBusy) (pa_cons (pe_x0 PySem.F.excBase_ValueError T.x_NoRule T.g_NoRule) (pa_cons (pe_x0 PySem.F.excBase_ValueError T.x_NoChoice T.g_NoChoice) (pa_cons (pe_x0 PySem.F.excBase_ValueError T.x_OtherSizes T.g_OtherSizes) (pa_cons (pe_x0 PySem.F.excBase_ValueError T.x_NoCut T.g_NoCut) (pa_cons (pe_x0 PySem.F.excBase_ValueError T.x_NoBack T.g_NoBack) (pa_cons (pe_x0 PySem.F.excBase_ValueError T.x_NotPlain T.g_NotPlain) (pa_cons (pe_x0 PySem.F.excBase_ValueError T.x_NoLook T.g_NoLook) (pa_cons (pe_x0 PySem.F.excBase_ValueError T.x_NoExpression T.g_NoExpression) (pa_cons (pe_x0 PySem.F.excBase_ValueError T.x_NoLine T.g_NoLine) (pa_cons (pe_x0 PySem.F.excBase_ValueError T.x_NothingDone T.g_NothingDone) pa_nil)))))))))))))))))))))))))))))))))
      (pss_one (ps_ret (pe_op op_cat (pv 1) (pe_lst (pa_cons (pe_x (xi_NoVault T) hr (pv 0)) (pa_cons (pe_x (xi_NoReader T) hr (pv 0)) (pa_cons (pe_x (xi_NoWish T) hr (pv 0)) (pa_cons (pe_x (xi_TooMany T) hr (pv 0)) (pa_cons (pe_x (xi_NoRow T) hr (pv 0)) (pa_cons (pe_x (xi_NoWeaving T) hr (pv 0)) (pa_cons (pe_x (xi_NoText T) hr (pv 0)) pa_nil)))))))))))), ?_⟩
  unfold tSeq tAsg tLst
  dsimp only
  change taX0 K ep _ H _
  refine taX0_ok ep H _ ?_
  intro as H1 s1 h1
  refine ⟨?_, fun l1 n1 => ⟨_, rfl, taX1_ok (fun H Q q => ⟨_, rfl, q⟩) eq _ _ ?_⟩⟩
  · have z := Paired.length h1
    rw [List.length_map, ← z]
    decide
  intro bs H2 s2 h2
  refine ⟨?_, fun l2 n2 => ?_⟩
  · have z := Paired.length h2
    rw [List.length_map, ← z]
    decide
  have z1 := Paired.length h1
  have z2 := Paired.length h2
  have s3 : Same H2 (upd H2 l2 (.lst (bs.map V.ref))) := same_new n2
  refine ⟨l1, l2, as.map V.ref, bs.map V.ref, rfl, rfl, s3 _ _ (s2 _ _ upd_same), upd_same, ?_, ?_⟩
  · rw [List.length_map, List.length_map, ← z1, ← z2]
    decide
  intro p np
  have s4 := same_new (o := .lst (as.map V.ref ++ bs.map V.ref)) np
  have s5 : Same H1 (upd (upd H2 l2 (.lst (bs.map V.ref))) p (.lst (as.map V.ref ++ bs.map V.ref))) := (same_new n1).trans (s2.trans (s3.trans s4))
  exact q p _ (s1.trans s5) ⟨as, bs, upd_same, pairedTo (fun x a h => h.same s5) h1, pairedTo (fun x a h => h.same (s3.trans s4)) h2⟩
end

end M

set_option Elab.async false
set_option linter.all false
set_option maxRecDepth 100000
set_option maxHeartbeats 2000000
namespace M
open PySem PySem.Spec PyProof.Rows L2

section
variable {P : Program} {w : World} {K : PySem.W.Frag} {mg : Str → Option Value} {base : Heap}
/-- a thing that the law puts into an error -/
def Thing (K : PySem.W.Frag) (H : Hp) (v : V) : Prop := (∃ d, Dp K H v d ∧ dpt d < 48 ∧ nar d) ∨ ∃ a l t : Addr, v = .ref a ∧ H a = some (.dK [(Sum.inr ("a" : Str), .ref l), (Sum.inl 3, .ref t)])
theorem Thing.same {H H' : Hp} {v : V} (s : Same H H') (h : Thing K H v) : Thing K H' v := by
  rcases h with ⟨d, h1, h2, h3⟩ | ⟨a, l, t, h1, h2⟩
  · exact .inl ⟨d, dp_same s h1, h2, h3⟩
  · exact .inr ⟨a, l, t, h1, s _ _ h2⟩
def spThing (K : PySem.W.Frag) : Sp := fun vs H Q _ => ∃ p : Addr, vs = [.ref p] ∧ PoolAt H p ∧ ∀ v H', But p H H' → Thing K H' v → Q v H'
theorem ca_l_thing (T : Txt w K mg) : Ca P w K mg base 3 "_law_thing" (spThing K) := by
  refine ca_of (N := ["_law_pool_here", "_law_kind", "_law_thing_here", "_law_turn"]) (ps := ["_law_pool_here"]) T.f_l_thing T.g_law_thing ⟨rfl, rfl, rfl, by decide +kernel, rfl, by decide +kernel, by decide +kernel⟩ (fun _ _ _ _ _ _ us hl => match us, hl with | [_], _ => rfl)
    (fun vs H Q E h => by obtain ⟨p, rfl, hp, q⟩ := h; rfl) (fun cdv A outer s H vs Q E hr h => ?_)
  have nd : (["_law_pool_here", "_law_kind", "_law_thing_here", "_law_turn"] : List Str).Nodup := by decide +kernel
  obtain ⟨p, rfl, hp, q⟩ := h
  refine ⟨_, (pss_cons (ps_set (i := 1) nd rfl (.inl rfl) (pe_ca (ca_l_draw T) hr (pa_cons (pv 0) (pa_cons pe_int pa_nil))))
      (pss_cons (ps_if (pt_cmpR op_lt (pv 1) pe_int (nomark _)) (pss_one (ps_ret (pe_op op_sub (pe_op op_mod (pe_callTy call_int1 (by rfl) T.b_int boot_int (pa_cons (pe_op op_add (pe_op op_add (pe_ix ix_list (pv 0) pe_int (fun _ _ => rfl)) (pe_op op_mul (pe_ix ix_list (pv 0) pe_int (fun _ _ => rfl)) pe_int)) (pe_ix ix_list (pv 0) pe_int (fun _ _ => rfl))) pa_nil)) (pe_op op_add (pe_op op_mul pe_int (pe_op op_pow pe_int pe_int)) pe_int)) (pe_op op_pow pe_int pe_int)))) pss_nil)
      (pss_cons (ps_if (pt_cmpR op_eq (pv 1) pe_int (nomark _)) (pss_one (ps_ret (pe_ix ix_list (pe_lst (pa_cons pe_bl (pa_cons pe_bl (pa_cons pe_non pa_nil)))) (pe_ca (ca_l_draw T) hr (pa_cons (pv 0) (pa_cons pe_int pa_nil))) (fun _ _ => rfl)))) pss_nil)
      (pss_cons (ps_if (pt_cmpR op_eq (pv 1) pe_int (nomark _)) (pss_one (ps_ret (pe_ix ix_list (pe_lst (pa_cons pe_str (pa_cons pe_str (pa_cons pe_str (pa_cons pe_str (pa_cons pe_str pa_nil)))))) (pe_ca (ca_l_draw T) hr (pa_cons (pv 0) (pa_cons pe_int pa_nil))) (fun _ _ => rfl)))) pss_nil)
      (pss_cons (ps_if (pt_cmpR op_eq (pv 1) pe_int (nomark _)) (pss_one (ps_ret (pe_lst (pa_cons (pe_ca (ca_l_draw T) hr (pa_cons (pv 0) (pa_cons pe_int pa_nil))) (pa_cons pe_str (pa_cons (pe_tup (pa_cons pe_int (pa_cons pe_non pa_nil))) pa_nil)))))) pss_nil)
      (pss_cons (ps_if (pt_cmpR op_eq (pv 1) pe_int (nomark _)) (pss_one (ps_ret (pe_disp (pps_cons pe_str (pe_lst (pa_cons (pe_ca (ca_l_draw T) hr (pa_cons (pv 0) (pa_cons pe_int pa_nil))) pa_nil)) (pps_cons pe_int (pe_tup (pa_cons pe_int (pa_cons pe_int pa_nil))) pps_nil)) rfl rfl (List.cons_ne_nil _ _) (by decide)))) pss_nil)
      (pss_cons (ps_set (i := 2) nd rfl (.inl rfl) (pe_ca (ca_l_draw T) hr (pa_cons (pv 0) (pa_cons pe_int pa_nil))))
      (pss_cons (ps_for PassesOwn.never rfl (pi_range1 rfl T.b_range (pa_cons (pe_ca (ca_l_draw T) hr (pa_cons (pv 0) (pa_cons pe_int pa_nil))) pa_nil)) (pg_name (i := 3) nd rfl (.inl rfl)) (pss_one (ps_set (i := 2) nd rfl (.inl rfl) (pe_ifExp (pt_cmpR op_eq (pv 1) pe_int (nomark _)) (pe_tup (pa_cons (pv 2) pa_nil)) (pe_lst (pa_cons (pv 2) pa_nil))))))
      (pss_one (ps_ret (pv 2))))))))))), ?_⟩
  refine ⟨_, rfl, p, 9, rfl, hp, by omega, fun k H1 b1 p1 hk => ?_⟩
  have atom : ∀ v d, Dp K H1 v d → dpt d < 48 → nar d → Q v H1 := fun v d h1 h2 h3 => q v H1 b1 (.inl ⟨d, h1, h2, h3⟩)
  obtain ⟨g, sd, n, e1, e2, e3, e4⟩ := id p1
  have hsq : SqL K H1 p [.int g, .int sd, .int n] := .of e1
  refine ⟨_, rfl, _, _, rfl, rfl, _, rfl, ?_⟩
  by_cases c3 : k < 3
  · rw [decide_eq_true c3]
    refine iteT ⟨_, rfl, _, _, _, _, rfl, rfl, hsq, at0, _, rfl, _, _, _, _, rfl, rfl, hsq, at1, _, _, rfl, rfl, .inr (by decide), _, _, rfl, rfl, _, rfl, _, _, _, _, rfl, rfl, hsq, at2, _, _, rfl, rfl, .inl ⟨_, rfl, ?_⟩⟩
    refine ⟨_, _, rfl, rfl, ⟨by decide, by decide, by decide⟩, _, _, rfl, rfl, .inl (by decide), _, _, rfl, rfl, _, _, rfl, rfl, (by show (0 : Int) < 2 * 10 ^ (40 : Int).toNat + 1; decide), ?_⟩
    refine ⟨_, _, rfl, rfl, ⟨by decide, by decide, by decide⟩, _, _, rfl, rfl, ?_⟩
    exact atom _ _ (.int _) (by show 0 < 48; decide) trivial
  rw [decide_eq_false c3]
  refine iteF ⟨_, rfl, rfl, _, rfl, ?_⟩
  by_cases k3 : k = 3
  · rw [decide_eq_true (congrArg V.int k3)]
    refine iteT ⟨(by show 3 ≤ sizeLine; decide), fun l nl => ?_⟩
    have sn := same_new (o := .lst [.bl true, .bl false, .non]) nl
    have pl : l ≠ p := pool_nl p1 nl
    refine ⟨_, rfl, p, 3, rfl, p1.same sn, by omega, fun i H2 b2 p2 hi => ?_⟩
    have sq : SqL K H2 l [.bl true, .bl false, .non] := .of (b2 _ _ pl upd_same)
    have fin : ∀ v d, Dp K H2 v d → dpt d < 48 → nar d → Q v H2 := fun v d h1 h2 h3 => q v H2 ((b1.trans (same_but sn)).trans b2) (.inl ⟨d, h1, h2, h3⟩)
    have : i = 0 ∨ i = 1 ∨ i = 2 := by omega
    rcases this with rfl | rfl | rfl
    · exact ⟨_, _, _, _, rfl, rfl, sq, at0, fin _ _ (.bl true) (by show 0 < 48; decide) trivial⟩
    · exact ⟨_, _, _, _, rfl, rfl, sq, at1, fin _ _ (.bl false) (by show 0 < 48; decide) trivial⟩
    · exact ⟨_, _, _, _, rfl, rfl, sq, at2, fin _ _ .non (by show 0 < 48; decide) trivial⟩
  rw [decide_eq_false (fun z => k3 (V.int.inj z))]
  refine iteF ⟨_, rfl, rfl, _, rfl, ?_⟩
  by_cases k4 : k = 4
  · rw [decide_eq_true (congrArg V.int k4)]
    refine iteT ⟨(by show 5 ≤ sizeLine; decide), fun l nl => ?_⟩
    have sn := same_new (o := .lst [.str "", .str "cells", .str "deeds", .str "table", .str "a b"]) nl
    have pl : l ≠ p := pool_nl p1 nl
    refine ⟨_, rfl, p, 5, rfl, p1.same sn, by omega, fun i H2 b2 p2 hi => ?_⟩
    have sq : SqL K H2 l [.str "", .str "cells", .str "deeds", .str "table", .str "a b"] := .of (b2 _ _ pl upd_same)
    have fin : ∀ x : Str, Q (.str x) H2 := fun x => q _ H2 ((b1.trans (same_but sn)).trans b2) (.inl ⟨.str x, .str x, (by show 0 < 48; decide), trivial⟩)
    have : i = 0 ∨ i = 1 ∨ i = 2 ∨ i = 3 ∨ i = 4 := by omega
    rcases this with rfl | rfl | rfl | rfl | rfl
    · exact ⟨_, _, _, _, rfl, rfl, sq, at0, fin _⟩
    · exact ⟨_, _, _, _, rfl, rfl, sq, at1, fin _⟩
    · exact ⟨_, _, _, _, rfl, rfl, sq, at2, fin _⟩
    · exact ⟨_, _, _, _, rfl, rfl, sq, at3, fin _⟩
    · exact ⟨_, _, _, _, rfl, rfl, sq, atI_nat (j := 4) rfl, fin _⟩
  rw [decide_eq_false (fun z => k4 (V.int.inj z))]
  refine iteF ⟨_, rfl, rfl, _, rfl, ?_⟩
  by_cases k5 : k = 5
  · rw [decide_eq_true (congrArg V.int k5)]
    refine iteT ⟨_, rfl, p, 9, rfl, p1, by omega, fun i H2 b2 p2 hi => ?_⟩
    refine ⟨(by show 2 ≤ sizeLine; decide), fun t nt => ⟨(by show 3 ≤ sizeLine; decide), fun l nl => ?_⟩⟩
    have s1 := same_new (o := .tup [.int 1, .non]) nt
    have s2 := same_new (o := .lst [.int i, .str "x", .ref t]) nl
    exact q _ _ ((b1.trans b2).trans (same_but (s1.trans s2))) (.inl ⟨.list [.int i, .str "x", .tuple [.int 1, .none]], .lst (.of upd_same) (.cons (.int i) (.cons (.str "x") (.cons (.tup (.of (s2 _ _ upd_same)) (.cons (.int 1) (.cons .non .nil))) .nil))), (by show 2 < 48; decide),
      ⟨by show 3 ≤ 100000; decide, trivial, trivial, ⟨by show 2 ≤ 100000; decide, trivial, trivial, trivial⟩, trivial⟩⟩)
  rw [decide_eq_false (fun z => k5 (V.int.inj z))]
  refine iteF ⟨_, rfl, rfl, _, rfl, ?_⟩
  by_cases k6 : k = 6
  · rw [decide_eq_true (congrArg V.int k6)]
    refine iteT ?_
    intro a na
    have s0 := same_new (o := .dK []) na
    have ap : a ≠ p := pool_nl p1 na
    refine ⟨_, rfl, p, 9, rfl, p1.same s0, by omega, fun i H2 b2 p2 hi => ?_⟩
    refine ⟨(by show 1 ≤ sizeLine; decide), fun l nl => ⟨(by show 2 ≤ sizeLine; decide), fun t nt => ?_⟩⟩
    have s1 := same_new (o := .lst [.int i]) nl
    have s2 := same_new (o := .tup [.int 2, .int 1]) nt
    refine ⟨s2 _ _ (s1 _ _ (b2 _ _ ap upd_same)), [(Sum.inr ("a" : Str), .ref l), (Sum.inl 3, .ref t)], rfl, (by show 2 ≤ 15; decide), q _ _ ?_ (.inr ⟨a, l, t, rfl, upd_same⟩)⟩
    intro b o hb e
    have e1 := b1 b o hb e
    rw [upd_ne (ne_of_none e1 na)]
    exact s2 _ _ (s1 _ _ (b2 _ _ hb (s0 _ _ e1)))
  rw [decide_eq_false (fun z => k6 (V.int.inj z))]
  refine iteF ⟨_, rfl, p, 5, rfl, p1, by omega, fun i H2 b2 p2 hi => ?_⟩
  refine ⟨_, rfl, p, 40, rfl, p2, by omega, fun m H3 b3 p3 hm => ?_⟩
  refine ⟨_, rfl, by omega, by omega, for_it (n := m.toNat) walk_range (fun j σ' H' => ∃ v z d, σ' = [some (.ref p), some (.int k), some v, z] ∧ Same H3 H' ∧ Dp K H' v d ∧ dpt d ≤ j ∧ nar d) ⟨_, none, .int i, rfl, Same.refl _, .int i, Nat.le_refl _, trivial⟩ (fun _ _ _ _ _ => trivial) ?_ ?_⟩
  · rintro j z σ' H0 H' hj ⟨v, _, d, rfl, s3, hv, hd, hn⟩ ⟨rfl, rfl⟩
    refine ⟨_, rfl, rfl, _, rfl, ?_⟩
    by_cases k7 : k = 7
    · rw [decide_eq_true (congrArg V.int k7)]
      refine iteT ⟨_, rfl, (by show 1 ≤ sizeLine; decide), fun t nt => ?_⟩
      have sn := same_new (o := .tup [v]) nt
      exact ⟨_, _, .tuple [d], rfl, s3.trans sn, .tup (.of upd_same) (.cons (dp_same sn hv) .nil), Nat.succ_le_succ (Nat.max_le.mpr ⟨hd, Nat.zero_le _⟩), ⟨by show 1 ≤ 100000; decide, hn, trivial⟩⟩
    · rw [decide_eq_false (fun z => k7 (V.int.inj z))]
      refine iteF ⟨_, rfl, (by show 1 ≤ sizeLine; decide), fun t nt => ?_⟩
      have sn := same_new (o := .lst [v]) nt
      exact ⟨_, _, .list [d], rfl, s3.trans sn, .lst (.of upd_same) (.cons (dp_same sn hv) .nil), Nat.succ_le_succ (Nat.max_le.mpr ⟨hd, Nat.zero_le _⟩), ⟨by show 1 ≤ 100000; decide, hn, trivial⟩⟩
  · rintro σ' H' ⟨v, z, d, rfl, s3, hv, hd, hn⟩
    exact ⟨_, rfl, q v H' (((b1.trans b2).trans b3).trans (same_but s3)) (.inl ⟨d, hv, by omega, hn⟩)⟩
def spSameT (K : PySem.W.Frag) : Sp := fun vs H Q _ => ∃ v : V, vs = [v, v] ∧ Thing K H v ∧ ∀ H', Same H H' → Q (.bl true) H'
theorem ca_l_same_thing (T : Txt w K mg) : Ca P w K mg base 50 "_law_same_thing" (spSameT K) := by
  refine ca_of (N := ["_law_one", "_law_two"]) (ps := ["_law_one", "_law_two"]) T.f_l_same_thing T.g_law_same_thing ⟨rfl, rfl, rfl, by decide +kernel, rfl, by decide +kernel, by decide +kernel⟩ (fun _ _ _ _ _ _ us hl => match us, hl with | [_, _], _ => rfl)
    (fun vs H Q E h => by obtain ⟨v, rfl, h, q⟩ := h; rfl) (fun cdv A outer s H vs Q E hr h => ?_)
  have nd : (["_law_one", "_law_two"] : List Str).Nodup := by decide +kernel
  obtain ⟨v, rfl, h, q⟩ := h
  refine ⟨_, (pss_cons (ps_if (pt_val (pe_is .dict T.b_isinstance (pv 0) T.b_dict boot_dict)) (pss_one (ps_ret (pe_and (pe_is .dict T.b_isinstance (pv 1) T.b_dict boot_dict) (pe_and (pe_cmpR (op_eqV hr.units) (pv 0) (pv 1) (nomark _)) (pe_one (pe_cmpR op_eq (pe_callB call_lenD (by rfl) T.b_len PySem.boot_len (pa_cons (pv 1) pa_nil)) pe_int (nomark _))))))) pss_nil)
      (pss_one (ps_ret (pe_ca (ca_l_same 48 T) hr (pa_cons (pv 0) (pa_cons (pv 1) pa_nil)))))), ?_⟩
  rcases h with ⟨d, h1, h2, h3⟩ | ⟨a, l, t, rfl, h2⟩
  · have kx := dp_kd h1
    refine ⟨_, rfl, _, _, rfl, kx, _, rfl, ?_⟩
    have nd2 : (kdOf d).is .dict = false := by cases d <;> rfl
    rw [nd2]
    exact iteF ⟨_, rfl, _, rfl, v, v, d, rfl, h1, h1, h2, h3, fun H' s => q H' s⟩
  · have kd : Of K H (.ref a) .dict := .dict (.base (.dK h2))
    refine ⟨_, rfl, _, _, rfl, kd, _, rfl, iteT ⟨_, rfl, _, _, rfl, kd, _, rfl, iteT ?_⟩⟩
    refine ⟨_, rfl, _, rfl, 1, by decide, .inr ⟨a, a, _, _, rfl, rfl, h2, h2, rfl, ?_⟩, _, rfl, iteT ?_⟩
    · intro p hp
      rcases List.mem_cons.mp hp with e | hp
      · subst e
        exact ⟨.ref l, by rfl, .inr (.inl ⟨l, rfl, rfl⟩)⟩
      rcases List.mem_cons.mp hp with e | hp
      · subst e
        exact ⟨.ref t, by rfl, .inr (.inl ⟨t, rfl, rfl⟩)⟩
      · cases hp
    refine ⟨_, rfl, a, _, rfl, h2, rfl, ?_⟩
    rw [decide_eq_true (by rfl)]
    exact q H (Same.refl _)
def spKept (K : PySem.W.Frag) : Sp := fun vs H Q _ => ∃ (l : Addr) (v : V), vs = [.ref l, v] ∧ ErrsAt K H v l ∧ Thing K H v ∧ ∀ H', Same H H' → Q (.bl true) H'
theorem ca_l_fields_kept (T : Txt w K mg) : Ca P w K mg base 51 "_law_fields_kept" (spKept K) := by
  refine ca_of (N := ["_law_errors_here", "_law_thing_here"]) (ps := ["_law_errors_here", "_law_thing_here"]) T.f_l_fields_kept T.g_law_fields_kept ⟨rfl, rfl, rfl, by decide +kernel, rfl, by decide +kernel, by decide +kernel⟩ (fun _ _ _ _ _ _ us hl => match us, hl with | [_, _], _ => rfl)
    (fun vs H Q E h => by obtain ⟨l, v, rfl, h, ht, q⟩ := h; rfl) (fun cdv A outer s H vs Q E hr h => ?_)
  have nd : (["_law_errors_here", "_law_thing_here"] : List Str).Nodup := by decide +kernel
  obtain ⟨l, v, rfl, h, ht, q⟩ := h
  refine ⟨_, (pss_cons (ps_if (PW.pt (pw_or (pt_not (pt_val (pe_ca (ca_l_same_thing T) hr (pa_cons (pv 1) (pa_cons (pe_xfv (pe_ix ix_list (pv 0) pe_int (fun _ _ => rfl))) pa_nil))))) (pw_or1 (pt_not (pt_val (pe_ca (ca_l_same_thing T) hr (pa_cons (pv 1) (pa_cons (pe_xfv (pe_ix ix_list (pv 0) pe_int (fun _ _ => rfl))) pa_nil)))))))) (pss_one (ps_ret pe_bl)) pss_nil)
      (pss_cons (ps_if (PW.pt (pw_or (pt_not (pt_val (pe_ca (ca_l_same_thing T) hr (pa_cons (pv 1) (pa_cons (pe_xfv (pe_ix ix_list (pv 0) pe_int (fun _ _ => rfl))) pa_nil))))) (pw_or1 (pt_not (pt_val (pe_ca (ca_l_same_thing T) hr (pa_cons (pv 1) (pa_cons (pe_xfv (pe_ix ix_list (pv 0) pe_int (fun _ _ => rfl))) pa_nil)))))))) (pss_one (ps_ret pe_bl)) pss_nil)
      (pss_cons (ps_if (PW.pt (pw_or (pt_not (pt_val (pe_ca (ca_l_same_thing T) hr (pa_cons (pv 1) (pa_cons (pe_xfv (pe_ix ix_list (pv 0) pe_int (fun _ _ => rfl))) pa_nil))))) (pw_or1 (pt_not (pt_val (pe_ca (ca_l_same_thing T) hr (pa_cons (pv 1) (pa_cons (pe_xfv (pe_ix ix_list (pv 0) pe_int (fun _ _ => rfl))) pa_nil)))))))) (pss_one (ps_ret pe_bl)) pss_nil)
      (pss_one (ps_ret (pe_ca (ca_l_same_thing T) hr (pa_cons (pv 1) (pa_cons (pe_xfv (pe_ix ix_list (pv 0) pe_int (fun _ _ => rfl))) pa_nil)))))))), ?_⟩
  obtain ⟨as, bs, hl, pa, pb⟩ := h
  have la := Paired.length pa
  obtain ⟨b0, b1, b2, b3, b4, b5, b6, rfl, g0, g1, g2, g3, g4, g5, g6⟩ : ∃ b0 b1 b2 b3 b4 b5 b6 : Addr, bs = [b0, b1, b2, b3, b4, b5, b6] ∧ Err1 K H v "NoVault" "part" b0 ∧ Err1 K H v "NoReader" "part" b1 ∧ Err1 K H v "NoWish" "part" b2 ∧ Err1 K H v "TooMany" "most" b3 ∧
      Err1 K H v "NoRow" "index" b4 ∧ Err1 K H v "NoWeaving" "index" b5 ∧ Err1 K H v "NoText" "line" b6 := by
    cases pb with | cons h0 pb =>
    cases pb with | cons h1 pb =>
    cases pb with | cons h2 pb =>
    cases pb with | cons h3 pb =>
    cases pb with | cons h4 pb =>
    cases pb with | cons h5 pb =>
    cases pb with | cons h6 pb =>
    cases pb
    exact ⟨_, _, _, _, _, _, _, rfl, h0, h1, h2, h3, h4, h5, h6⟩
  have at_ : ∀ (i : Nat) (b : Addr), ([b0, b1, b2, b3, b4, b5, b6] : List Addr)[i]? = some b → atI (as.map V.ref ++ [b0, b1, b2, b3, b4, b5, b6].map V.ref) (((31 + i : Nat) : Nat) : Int) = some (.ref b) := by
    intro i b e
    refine atI_nat ?_
    have l31 : (as.map V.ref).length = 31 := by
      rw [List.length_map, ← la]
      rfl
    rw [List.getElem?_append_right (by omega), l31, Nat.add_sub_cancel_left, List.getElem?_map, e]
    rfl
  have rd : ∀ (i : Nat) (x f : Str) (b : Addr), ([b0, b1, b2, b3, b4, b5, b6] : List Addr)[i]? = some b → Err1 K H v x f b → oexB K x f = true → ∀ H' : Hp, Same H H' → ∀ G : VK, G v H' →
      ∃ (p : Addr) (xs : List V) (j : Int) (y : V), V.ref l = .ref p ∧ V.int (((31 + i : Nat) : Nat) : Int) = .int j ∧ SqL K H' p xs ∧ atI xs j = some y ∧ ∃ (a : Addr) (x' : Str) (d : Addr) (fs : List (Str × V)) (u : V), y = .ref a ∧ H' a = some (exo a (He.ga K x') (some d)) ∧ H' d = some (exd d fs) ∧
        XfC K (He.ga K x') ∧ PySem.W.findIn K (.ref (He.ga K x')) f = some none ∧ fs.lookup f = some u ∧ G u H' := by
    intro i x f b e g o H' s G k
    obtain ⟨d, z1, z2⟩ := g
    have c := oexB_ok o
    exact ⟨l, _, _, _, rfl, rfl, .of (s _ _ hl), at_ i b e, b, x, d, _, v, rfl, s _ _ z1, s _ _ z2, c.xf, c.no, ((lookup_put f f v []).trans (if_pos rfl)), k⟩
  refine ⟨_, rfl, _, rfl, rd 0 "NoVault" "part" b0 rfl g0 T.e_NoVault H (Same.refl _) _ ⟨v, rfl, ht, fun H1 z1 => ⟨_, rfl, iteF ?_⟩⟩⟩
  have s1 : Same H H1 := z1
  refine ⟨_, rfl, _, rfl, rd 1 "NoReader" "part" b1 rfl g1 T.e_NoReader H1 s1 _ ⟨v, rfl, (ht.same s1), fun H2 z2 => ⟨_, rfl, iteF ?_⟩⟩⟩
  have s2 : Same H H2 := s1.trans z2
  refine ⟨_, rfl, _, rfl, rd 2 "NoWish" "part" b2 rfl g2 T.e_NoWish H2 s2 _ ⟨v, rfl, (ht.same s2), fun H3 z3 => ⟨_, rfl, iteF ?_⟩⟩⟩
  have s3 : Same H H3 := s2.trans z3
  refine ⟨_, rfl, _, rfl, rd 3 "TooMany" "most" b3 rfl g3 T.e_TooMany H3 s3 _ ⟨v, rfl, (ht.same s3), fun H4 z4 => ⟨_, rfl, iteF ?_⟩⟩⟩
  have s4 : Same H H4 := s3.trans z4
  refine ⟨_, rfl, _, rfl, rd 4 "NoRow" "index" b4 rfl g4 T.e_NoRow H4 s4 _ ⟨v, rfl, (ht.same s4), fun H5 z5 => ⟨_, rfl, iteF ?_⟩⟩⟩
  have s5 : Same H H5 := s4.trans z5
  refine ⟨_, rfl, _, rfl, rd 5 "NoWeaving" "index" b5 rfl g5 T.e_NoWeaving H5 s5 _ ⟨v, rfl, (ht.same s5), fun H6 z6 => ⟨_, rfl, iteF ?_⟩⟩⟩
  have s6 : Same H H6 := s5.trans z6
  exact ⟨_, rfl, _, rfl, rd 6 "NoText" "line" b6 rfl g6 T.e_NoText H6 s6 _ ⟨v, rfl, (ht.same s6), fun H7 z7 => q _ (s6.trans z7)⟩⟩
end

end M

set_option Elab.async false
set_option linter.all false
set_option maxRecDepth 100000
set_option maxHeartbeats 2000000
namespace M
open PySem PySem.Spec PyProof.Rows L2

section
variable {P : Program} {w : World} {K : PySem.W.Frag} {mg : Str → Option Value} {base : Heap}
def spCaught (K : PySem.W.Frag) : Sp := fun vs H Q _ => ∃ (i : Int) (v : V), vs = [.int i, v] ∧ (0 ≤ i ∧ i < 5) ∧ ∀ l H', Same H H' → H' l = some (.lst [.int i, v]) → Q (.ref l) H'
theorem ca_l_caught (T : Txt w K mg) : Ca P w K mg base 4 "_law_caught" (spCaught K) := by
  refine ca_of (N := ["_law_at", "_law_thing_here", "_law_e"]) (ps := ["_law_at", "_law_thing_here"]) T.f_l_caught T.g_law_caught ⟨rfl, rfl, rfl, by decide +kernel, rfl, by decide +kernel, by decide +kernel⟩ (fun _ _ _ _ _ _ us hl => match us, hl with | [_, _], _ => rfl)
    (fun vs H Q E h => by obtain ⟨i, v, rfl, hi, q⟩ := h; rfl) (fun cdv A outer s H vs Q E hr h => ?_)
  have nd : (["_law_at", "_law_thing_here", "_law_e"] : List Str).Nodup := by decide +kernel
  obtain ⟨i, v, rfl, hi, q⟩ := h
  refine ⟨_, (pss_one (ps_tryH (hands_as (i := 2) ⟨rfl, by decide, .inl T.g_NoVault⟩ rfl nd rfl rfl (fun _ _ _ _ _ hz hf => by exact (pss_one (ps_ret (pe_lst (pa_cons pe_int (pa_cons (pe_xf (C := He.ga K "NoVault") (oexB_ok T.e_NoVault).xf (oexB_ok T.e_NoVault).no hz hf (pv 2)) pa_nil)))))) (hands_as (i := 2) ⟨rfl, by decide, .inl T.g_TooMany⟩ rfl nd rfl rfl (fun _ _ _ _ _ hz hf => by exact (pss_one (ps_ret (pe_lst (pa_cons pe_int (pa_cons (pe_xf (C := He.ga K "TooMany") (oexB_ok T.e_TooMany).xf (oexB_ok T.e_TooMany).no hz hf (pv 2)) pa_nil)))))) (hands_as (i := 2) ⟨rfl, by decide, .inl T.g_NoRow⟩ rfl nd rfl rfl (fun _ _ _ _ _ hz hf => by exact (pss_one (ps_ret (pe_lst (pa_cons pe_int (pa_cons (pe_xf (C := He.ga K "NoRow") (oexB_ok T.e_NoRow).xf (oexB_ok T.e_NoRow).no hz hf (pv 2)) pa_nil)))))) (hands_as (i := 2) ⟨rfl, by decide, .inl T.g_NoText⟩ rfl nd rfl rfl (fun _ _ _ _ _ hz hf => by exact (pss_one (ps_ret (pe_lst (pa_cons pe_int (pa_cons (pe_xf (C := He.ga K "NoText") (oexB_ok T.e_NoText).xf (oexB_ok T.e_NoText).no hz hf (pv 2)) pa_nil)))))) (hands_one ⟨rfl, by decide, .inl T.g_PastError⟩ rfl (fun _ _ _ _ _ hz hf => by exact (pss_one (ps_ret (pe_lst (pa_cons pe_int (pa_cons (pv 1) pa_nil)))))) (hands_nil (Wout := fun _ _ _ _ => False) rfl rfl takes0)))))) rfl rfl (fun W pn xe tk _ => by exact (pss_cons (ps_if (pt_cmpR op_eq (pv 0) pe_int (nomark _)) (pss_one (ps_raiseX K rfl (xi_NoVault T) rfl tk hr (pv 1))) pss_nil)
      (pss_cons (ps_if (pt_cmpR op_eq (pv 0) pe_int (nomark _)) (pss_one (ps_raiseX K rfl (xi_TooMany T) rfl tk hr (pv 1))) pss_nil)
      (pss_cons (ps_if (pt_cmpR op_eq (pv 0) pe_int (nomark _)) (pss_one (ps_raiseX K rfl (xi_NoRow T) rfl tk hr (pv 1))) pss_nil)
      (pss_cons (ps_if (pt_cmpR op_eq (pv 0) pe_int (nomark _)) (pss_one (ps_raiseX K rfl (xi_NoText T) rfl tk hr (pv 1))) pss_nil)
      (pss_one (ps_raise0 K rfl PySem.F.excBase_ValueError T.x_NoMost T.g_NoMost rfl tk))))))) pss_nil)), ?_⟩
  have fin : ∀ (H1 : Hp) (l : Addr), Same H H1 → H1 l = none → Q (.ref l) (upd H1 l (.lst [.int i, v])) := fun H1 l s n => q l _ (s.trans (same_new n)) upd_same
  have lk : ∀ f : Str, ([(f, v)] : List (Str × V)).lookup f = some v := fun f => (lookup_put f f v []).trans (if_pos rfl)
  have h5 : i = 0 ∨ i = 1 ∨ i = 2 ∨ i = 3 ∨ i = 4 := by omega
  rcases h5 with rfl | rfl | rfl | rfl | rfl
  · refine ⟨_, rfl, rfl, _, rfl, iteT ⟨_, rfl, fun d nd2 => ?_⟩⟩
    refine ⟨true, T.xm_NoVault, fun _ a na => ?_, fun z => nomatch z⟩
    exact ⟨_, rfl, rfl, rfl, d, _, v, rfl, upd_same, lk _, (by show 2 ≤ sizeLine; decide), fun l nl => fin _ l (same_new nd2) nl⟩
  · refine ⟨_, rfl, rfl, _, rfl, iteF ⟨_, rfl, rfl, _, rfl, iteT ⟨_, rfl, fun d nd2 => ?_⟩⟩⟩
    refine ⟨false, T.xm_TooMany_NoVault, (fun z => nomatch z), fun _ => ⟨true, T.xm_TooMany, fun _ a na => ?_, fun z => nomatch z⟩⟩
    exact ⟨_, rfl, rfl, rfl, d, _, v, rfl, upd_same, lk _, (by show 2 ≤ sizeLine; decide), fun l nl => fin _ l (same_new nd2) nl⟩
  · refine ⟨_, rfl, rfl, _, rfl, iteF ⟨_, rfl, rfl, _, rfl, iteF ⟨_, rfl, rfl, _, rfl, iteT ⟨_, rfl, fun d nd2 => ?_⟩⟩⟩⟩
    refine ⟨false, T.xm_NoRow_NoVault, (fun z => nomatch z), fun _ => ⟨false, T.xm_NoRow_TooMany, (fun z => nomatch z), fun _ => ⟨true, T.xm_NoRow, fun _ a na => ?_, fun z => nomatch z⟩⟩⟩
    exact ⟨_, rfl, rfl, rfl, d, _, v, rfl, upd_same, lk _, (by show 2 ≤ sizeLine; decide), fun l nl => fin _ l (same_new nd2) nl⟩
  · refine ⟨_, rfl, rfl, _, rfl, iteF ⟨_, rfl, rfl, _, rfl, iteF ⟨_, rfl, rfl, _, rfl, iteF ⟨_, rfl, rfl, _, rfl, iteT ⟨_, rfl, fun d nd2 => ?_⟩⟩⟩⟩⟩
    refine ⟨false, T.xm_NoText_NoVault, (fun z => nomatch z), fun _ => ⟨false, T.xm_NoText_TooMany, (fun z => nomatch z), fun _ => ⟨false, T.xm_NoText_NoRow, (fun z => nomatch z), fun _ => ⟨true, T.xm_NoText, fun _ a na => ?_, fun z => nomatch z⟩⟩⟩⟩
    exact ⟨_, rfl, rfl, rfl, d, _, v, rfl, upd_same, lk _, (by show 2 ≤ sizeLine; decide), fun l nl => fin _ l (same_new nd2) nl⟩
  · refine ⟨_, rfl, rfl, _, rfl, iteF ⟨_, rfl, rfl, _, rfl, iteF ⟨_, rfl, rfl, _, rfl, iteF ⟨_, rfl, rfl, _, rfl, iteF ?_⟩⟩⟩⟩
    refine ⟨false, T.xm_NoMost_NoVault, (fun z => nomatch z), fun _ => ⟨false, T.xm_NoMost_TooMany, (fun z => nomatch z), fun _ => ⟨false, T.xm_NoMost_NoRow, (fun z => nomatch z), fun _ => ⟨false, T.xm_NoMost_NoText, (fun z => nomatch z), fun _ => ⟨true, T.xm_NoMost_PastError, fun _ a na => ?_, fun z => nomatch z⟩⟩⟩⟩⟩
    exact ⟨_, rfl, (by show 2 ≤ sizeLine; decide), fun l nl => fin _ l (Same.refl _) nl⟩
end

end M

set_option Elab.async false
set_option linter.all false
set_option maxRecDepth 100000
set_option maxHeartbeats 2000000
namespace M
open PySem PySem.Spec PyProof.Rows L2

section
variable {P : Program} {w : World} {K : PySem.W.Frag} {mg : Str → Option Value} {base : Heap}
theorem same_pool {H H1 H2 : Hp} {p : Addr} (s : Same H H1) (n : H p = none) (b : But p H1 H2) : Same H H2 := fun c o e => b c o (ne_of_none e n) (s c o e)
theorem en_eq : en = ep ++ eq.map (·.1) := by decide +kernel
theorem ErrsAt.same {H H' : Hp} {v : V} {l : Addr} (s : Same H H') (h : ErrsAt K H v l) : ErrsAt K H' v l := by
  obtain ⟨as, bs, h1, h2, h3⟩ := h
  exact ⟨as, bs, s _ _ h1, pairedTo (fun _ _ z => z.same s) h2, pairedTo (fun _ _ z => z.same s) h3⟩
theorem paired_at {A B : Type} {R : A → B → Prop} : ∀ {xs : List A} {ys : List B}, Paired R xs ys → ∀ (i : Nat) (x : A), xs[i]? = some x → ∃ y, ys[i]? = some y ∧ R x y
  | _, _, .nil, i, x, e => by simp at e
  | _, _, .cons h t, 0, x, e => by
    cases (Option.some.inj e)
    exact ⟨_, rfl, h⟩
  | _, _, .cons h t, i + 1, x, e => paired_at t i x e
/-- the errors of the law, one by one -/
theorem errs_one {H : Hp} {v : V} {l : Addr} (h : ErrsAt K H v l) : ∃ xs : List V, H l = some (.lst xs) ∧ ∀ (i : Nat) (x : Str), en[i]? = some x → ∃ b : Addr, xs[i]? = some (.ref b) ∧ ErrAt K H x b := by
  obtain ⟨as, bs, h1, h2, h3⟩ := h
  refine ⟨_, h1, ?_⟩
  intro i x e
  rw [en_eq] at e
  have l1 := Paired.length h2
  by_cases c : i < ep.length
  · rw [List.getElem?_append_left c] at e
    obtain ⟨b, e1, e2⟩ := paired_at h2 i x e
    refine ⟨b, ?_, .inl e2⟩
    rw [List.getElem?_append_left (by rw [List.length_map]; omega), List.getElem?_map, e1]
    rfl
  · rw [List.getElem?_append_right (by omega), List.getElem?_map] at e
    cases e1 : eq[i - ep.length]? with
    | none =>
      rw [e1] at e
      cases e
    | some q =>
      rw [e1] at e
      cases e
      obtain ⟨b, e2, d, e3, e4⟩ := paired_at h3 _ q e1
      refine ⟨b, ?_, .inr ⟨d, _, e3, e4⟩⟩
      rw [List.getElem?_append_right (by rw [List.length_map]; omega), List.length_map, ← l1, List.getElem?_map, e2]
      rfl
theorem ErrAt.same {H H' : Hp} {x : Str} {a : Addr} (s : Same H H') (h : ErrAt K H x a) : ErrAt K H' x a := by
  rcases h with h | ⟨d, fs, h1, h2⟩
  · exact .inl (s _ _ h)
  · exact .inr ⟨d, fs, s _ _ h1, s _ _ h2⟩
theorem flags : ∀ i : _root_.Fin 38, en.map (fun y => decide (y = en.getD i.val "")) = (List.range 38).map (fun k => decide (k = i.val)) := by decide +kernel
theorem bools_dp {H : Hp} : ∀ bs : List Bool, DpAll K H (bs.map V.bl) (bs.map PyData.bool)
  | [] => .nil
  | b :: bs => .cons (.bl b) (bools_dp bs)
theorem bools_eqv : ∀ bs : List Bool, PyData.eqvAll (bs.map PyData.bool) (bs.map PyData.bool) = true
  | [] => by rw [List.map_nil, PyData.eqvAll]
  | b :: bs => by
    rw [List.map_cons, PyData.eqvAll, bools_eqv bs, Bool.and_true]
    simp [PyData.eqv]
theorem bools_lay : ∀ bs : List Bool, PyData.canLayAll0 (bs.map PyData.bool) = true ∧ PyData.depthAll (bs.map PyData.bool) = 0
  | [] => ⟨by rw [List.map_nil, PyData.canLayAll0], by rw [List.map_nil, PyData.depthAll]⟩
  | b :: bs => by
    obtain ⟨h1, h2⟩ := bools_lay bs
    rw [List.map_cons, PyData.canLayAll0, PyData.depthAll, h1, h2]
    exact ⟨rfl, rfl⟩
theorem bools_shaped (bs : List Bool) : SeqAt.shaped (.list (bs.map PyData.bool)) = true := by
  obtain ⟨h1, h2⟩ := bools_lay bs
  unfold SeqAt.shaped
  rw [Bool.and_eq_true]
  refine ⟨by rw [PyData.canLay0]; exact h1, decide_eq_true ?_⟩
  rw [PyData.depth, h2]
  omega
def spLaw (K : PySem.W.Frag) : Sp := fun vs H Q _ => ∃ (a : Addr) (ns : List Int), vs = [.ref a] ∧ SqL K H a (ns.map V.int) ∧ ns.length ≤ 63 ∧ ∀ H', Q (.bl true) H'
set_option maxHeartbeats 0 in
theorem ok_law {fd : FuncData} (T : Txt w K mg) (F : FunD K "law" "law" (defArgs s_law) (defBody s_law) (defScope s_law) [] [] (He.fAd K ("law", none)) fd) : FnOk P w K mg base CX0 56 (He.fAd K ("law", none)) fd ["_law_script"] (spLaw K) := by
  refine fn_d (N := ["_law_script", "_law_pool_here", "_law_one", "_law_other", "_law_errors_here", "_law_others", "_law_at", "_law_found", "_law_k", "_law_base", "_law_caught_here"]) (ps := ["_law_script"]) F ⟨rfl, rfl, rfl, by decide +kernel, rfl, by decide +kernel, by decide +kernel⟩
    (fun vs H Q E h => by obtain ⟨a, ns, rfl, ha, hl, q⟩ := h; rfl) (fun cdv A outer s H vs Q E hr h => ?_)
  have nd : (["_law_script", "_law_pool_here", "_law_one", "_law_other", "_law_errors_here", "_law_others", "_law_at", "_law_found", "_law_k", "_law_base", "_law_caught_here"] : List Str).Nodup := by decide +kernel
  obtain ⟨a, ns, rfl, ha, hl, q⟩ := h
  refine ⟨_, (pss_cons (ps_set (i := 1) nd rfl (.inl rfl) (pe_ca (ca_l_pool T) hr (pa_cons (pv 0) (pa_cons pe_int pa_nil))))
      (pss_cons (ps_set (i := 2) nd rfl (.inl rfl) (pe_ca (ca_l_thing T) hr (pa_cons (pv 1) pa_nil)))
      (pss_cons (ps_set (i := 3) nd rfl (.inl rfl) (pe_ca (ca_l_thing T) hr (pa_cons (pe_ca (ca_l_pool T) hr (pa_cons (pv 0) (pa_cons pe_int pa_nil))) pa_nil)))
      (pss_cons (ps_set (i := 4) nd rfl (.inl rfl) (pe_ca (ca_l_errors T) hr (pa_cons (pv 2) pa_nil)))
      (pss_cons (ps_set (i := 5) nd rfl (.inl rfl) (pe_ca (ca_l_errors T) hr (pa_cons (pv 3) pa_nil)))
      (pss_cons (ps_for PassesOwn.never rfl (pi_range1 rfl T.b_range (pa_cons pe_int pa_nil)) (pg_name (i := 6) nd rfl (.inr rfl)) (pss_cons (ps_if (PW.pt (pw_or (pt_not (pt_val (pe_callB (call_isxT "ValueError") (by rfl) T.b_isinstance boot_isinstance (pa_cons (pe_ix ix_list (pv 4) (pv 6) (fun _ _ => rfl)) (pa_cons (pe_ty T.b_ValueError PyProof.Rows.Boot.«ValueError») pa_nil))))) (pw_or1 (pt_not (pt_val (pe_callB (call_isx "PastError") (by rfl) T.b_isinstance boot_isinstance (pa_cons (pe_ix ix_list (pv 4) (pv 6) (fun _ _ => rfl)) (pa_cons (pe_gr T.g_PastError) pa_nil)))))))) (pss_one (ps_ret pe_bl)) pss_nil)
      (pss_cons (ps_set (i := 7) nd rfl (.inl rfl) (pe_op op_cat (pe_ca (ca_l_first_half T) hr (pa_cons (pe_ix ix_list (pv 4) (pv 6) (fun _ _ => rfl)) pa_nil)) (pe_ca (ca_l_second_half T) hr (pa_cons (pe_ix ix_list (pv 4) (pv 6) (fun _ _ => rfl)) pa_nil))))
      (pss_one (ps_if (pt_cmpR (op_neD hr.units) (pv 7) (pe_lc (own := [("_law_k", 8)]) (tt := tYes) rfl nd (pi_range1 rfl T.b_range (pa_cons pe_int pa_nil)) (blkOk_by (N := ["_law_script", "_law_pool_here", "_law_one", "_law_other", "_law_errors_here", "_law_others", "_law_at", "_law_found", "_law_k", "_law_base", "_law_caught_here"]) (sc := defScope s_law) (by decide +kernel)) (fun _ _ _ _ _ => pg_name (i := 8) nd rfl (.inl rfl)) (fun _ _ _ _ _ => pts_nil) (fun _ _ _ _ _ => pe_cmpR op_eq (pv 8) (pv 6) (nomark _))) (nomark _)) (pss_one (ps_ret pe_bl)) pss_nil)))))
      (pss_cons (ps_set (i := 9) nd rfl (.inl rfl) (pe_x0 PySem.F.excBase_ValueError T.x_PastError T.g_PastError))
      (pss_cons (ps_if (PW.pt (pw_or (pt_not (pt_val (pe_callB (call_isxT "ValueError") (by rfl) T.b_isinstance boot_isinstance (pa_cons (pv 9) (pa_cons (pe_ty T.b_ValueError PyProof.Rows.Boot.«ValueError») pa_nil))))) (pw_or1 (pt_cmpR op_in_seq pe_bl (pe_op op_cat (pe_ca (ca_l_first_half T) hr (pa_cons (pv 9) pa_nil)) (pe_ca (ca_l_second_half T) hr (pa_cons (pv 9) pa_nil))) (by rfl))))) (pss_one (ps_ret pe_bl)) pss_nil)
      (pss_cons (ps_for PassesOwn.never rfl (pi_range1 rfl T.b_range (pa_cons pe_int pa_nil)) (pg_name (i := 6) nd rfl (.inr rfl)) (pss_cons (ps_set (i := 10) nd rfl (.inl rfl) (pe_ca (ca_l_caught T) hr (pa_cons (pv 6) (pa_cons (pv 3) pa_nil))))
      (pss_one (ps_if (PW.pt (pw_or (pt_cmpR op_ne (pe_ix ix_list (pv 10) pe_int (fun _ _ => rfl)) (pv 6) (nomark _)) (pw_or1 (pt_not (pt_val (pe_ca (ca_l_same_thing T) hr (pa_cons (pv 3) (pa_cons (pe_ix ix_list (pv 10) pe_int (fun _ _ => rfl)) pa_nil)))))))) (pss_one (ps_ret pe_bl)) pss_nil))))
      (pss_one (ps_ret (pe_and (pe_ca (ca_l_fields_kept T) hr (pa_cons (pv 4) (pa_cons (pv 2) pa_nil))) (pe_one (pe_ca (ca_l_fields_kept T) hr (pa_cons (pv 5) (pa_cons (pv 3) pa_nil)))))))))))))))), ?_⟩
  refine ⟨_, rfl, a, ns, 0, rfl, ha, hl, by omega, fun p H1 s1 np pp => ?_⟩
  refine ⟨_, rfl, p, rfl, pp, fun v H2 b2 hv => ?_⟩
  have s2 : Same H H2 := same_pool s1 np b2
  refine ⟨_, rfl, a, ns, 1, rfl, s2.seq ha, hl, by omega, fun p' H3 s3 np' pp' => ⟨p', rfl, pp', fun u H4 b4 hu => ?_⟩⟩
  have s4 : Same H2 H4 := same_pool s3 np' b4
  refine ⟨_, rfl, v, rfl, fun l H5 s5 e5 => ?_⟩
  refine ⟨_, rfl, u, rfl, fun l' H6 s6 e6 => ?_⟩
  have hv6 : Thing K H6 v := hv.same (s4.trans (s5.trans s6))
  have hu6 : Thing K H6 u := hu.same (s5.trans s6)
  have e5 := e5.same s6
  obtain ⟨xs, hx, he⟩ := errs_one e5
  refine ⟨_, rfl, by omega, by omega, for_it (n := 38) walk_range (fun j σ' H' => ∃ z7 z8, σ' = [some (.ref a), some (.ref p), some v, some u, some (.ref l), some (.ref l'), z7, z8, none, none, none] ∧ Same H6 H') ⟨none, none, rfl, Same.refl _⟩ (fun _ _ _ _ _ => trivial) ?_ ?_⟩
  · rintro i z σ' H0 H' hi ⟨z7, z8, rfl, s7⟩ ⟨rfl, rfl⟩
    have ex : en[i]? = some (en.getD i "") := by
      have le : i < en.length := hi
      rw [List.getD_eq_getElem?_getD, List.getElem?_eq_getElem le]
      rfl
    have fl := flags ⟨i, hi⟩
    generalize en.getD i "" = x at ex fl
    obtain ⟨b, eb, er⟩ := he i x ex
    have er : ErrAt K H' x b := ErrAt.same s7 er
    obtain ⟨i1, i2, i3, i4⟩ := isx_of T.e_isx (List.mem_of_getElem? ex)
    have hat : atI xs ((0 : Int) + (i : Nat)) = some (.ref b) := by
      rw [show (0 : Int) + (i : Nat) = ((i : Nat) : Int) by omega]
      exact atI_nat eb
    have hx7 := s7 _ _ hx
    refine ⟨_, rfl, _, rfl, l, xs, _, _, rfl, rfl, .of hx7, hat, b, x, true, rfl, er, i1, i2, _, rfl, iteF ?_⟩
    refine ⟨_, rfl, _, rfl, l, xs, _, _, rfl, rfl, .of hx7, hat, b, x, true, rfl, er, i1, i3, _, rfl, iteF ?_⟩
    refine ⟨_, rfl, _, rfl, l, xs, _, _, rfl, rfl, .of hx7, hat, b, x, (fun y => decide (y = x)), rfl, er, i1, fun y hy => i4 y (List.mem_append_left _ hy), fun l1 n1 => ?_⟩
    have s8 := same_new (o := .lst (en0.map fun y => V.bl (decide (y = x)))) n1
    refine ⟨_, rfl, _, rfl, l, xs, _, _, rfl, rfl, .of (s8 _ _ hx7), hat, b, x, (fun y => decide (y = x)), rfl, ErrAt.same s8 er, i1, fun y hy => i4 y (List.mem_append_right _ hy), fun l2 n2 => ?_⟩
    have s9 := same_new (o := .lst (en1.map fun y => V.bl (decide (y = x)))) n2
    refine ⟨l1, l2, _, _, rfl, rfl, s9 _ _ upd_same, upd_same, (by rw [List.length_map, List.length_map]; decide), fun l3 n3 => ?_⟩
    have s10 := same_new (o := .lst ((en0.map fun y => V.bl (decide (y = x))) ++ en1.map fun y => V.bl (decide (y = x)))) n3
    have h3 : upd (upd (upd H' l1 (.lst (en0.map fun y => V.bl (decide (y = x))))) l2 (.lst (en1.map fun y => V.bl (decide (y = x))))) l3 (.lst ((en0.map fun y => V.bl (decide (y = x))) ++ en1.map fun y => V.bl (decide (y = x)))) l3 = some (.lst ((en.map fun y => decide (y = x)).map V.bl)) := by
      rw [upd_same, List.map_map, ← List.map_append]
      rfl
    have s11 : Same H6 _ := s7.trans (s8.trans (s9.trans s10))
    generalize upd (upd (upd H' l1 (.lst (en0.map fun y => V.bl (decide (y = x))))) l2 (.lst (en1.map fun y => V.bl (decide (y = x))))) l3 (.lst ((en0.map fun y => V.bl (decide (y = x))) ++ en1.map fun y => V.bl (decide (y = x)))) = G at h3 s11
    refine ⟨_, rfl, _, rfl, by omega, by omega, fun D nD => ?_⟩
    refine lc_it (n := 38) walk_range (fun j H2 => Same G H2 ∧ H2 D = some (.lst (((List.range j).map fun k => decide (k = i)).map V.bl))) ⟨same_new nD, upd_same⟩ (fun _ _ _ _ => trivial) ?_ ?_
    · rintro k y H8 H9 hk ⟨s12, h12⟩ ⟨rfl, rfl⟩
      refine ⟨rfl, _, rfl, _, rfl, rfl, _, h12, ?_, ?_⟩
      · rw [List.length_map, List.length_map, List.length_range, sizeLine_eq]
        omega
      · refine ⟨fun c o e => ?_, ?_⟩
        · rw [upd_ne (ne_of_none e nD)]
          exact s12 c o e
        · rw [upd_same, List.range_succ, List.map_append, List.map_append]
          have e : decide (V.int (0 + ((k : Nat) : Int)) = V.int (0 + ((i : Nat) : Int))) = decide (k = i) := decide_eq_decide.mpr ⟨fun z => by have := V.int.inj z; omega, fun z => by rw [z]⟩
          show _ = some (HO.lst (_ ++ [V.bl (decide (k = i))]))
          rw [← e]
    · rintro H8 ⟨s12, h12⟩
      rw [← fl] at h12
      refine ⟨_, _, .lst (.of (s12 _ _ h3)) (bools_dp _), .lst (.of h12) (bools_dp _), bools_shaped _, bools_shaped _, ?_⟩
      rw [show PyData.eqv (.list ((en.map fun y => decide (y = x)).map PyData.bool)) (.list ((en.map fun y => decide (y = x)).map PyData.bool)) = true by rw [PyData.eqv]; exact bools_eqv _]
      exact ⟨_, rfl, iteF ⟨_, _, rfl, s11.trans s12⟩⟩
  · rintro σ' H' ⟨z7, z8, rfl, s7⟩
    intro b nb
    have s8 := same_new (o := ExO (.ref (He.ga K "PastError")) b) nb
    have er : ErrAt K (upd H' b (ExO (.ref (He.ga K "PastError")) b)) "PastError" b := .inl upd_same
    obtain ⟨i1, i2, i4⟩ := isx_p T.e_isx
    have s9 : Same H6 (upd H' b (ExO (.ref (He.ga K "PastError")) b)) := s7.trans s8
    refine ⟨_, rfl, b, "PastError", true, rfl, er, i1, i2, _, rfl, iteF ?_⟩
    refine ⟨_, rfl, b, "PastError", (fun _ => false), rfl, er, i1, fun y hy => i4 y (List.mem_append_left _ hy), fun l1 n1 => ?_⟩
    have s10 := same_new (o := .lst (en0.map fun y => V.bl false)) n1
    refine ⟨_, rfl, b, "PastError", (fun _ => false), rfl, ErrAt.same s10 er, i1, fun y hy => i4 y (List.mem_append_right _ hy), fun l2 n2 => ?_⟩
    have s11 := same_new (o := .lst (en1.map fun y => V.bl false)) n2
    refine ⟨l1, l2, _, _, rfl, rfl, s11 _ _ upd_same, upd_same, (by rw [List.length_map, List.length_map]; decide), fun l3 n3 => ?_⟩
    have s12 := same_new (o := .lst ((en0.map fun y => V.bl false) ++ en1.map fun y => V.bl false)) n3
    refine ⟨l3, _, rfl, .inl (.of upd_same), rfl, (by decide), ?_⟩
    have s13 : Same H6 _ := s9.trans (s10.trans (s11.trans s12))
    refine ⟨false, by rfl, iteF ?_⟩
    refine ⟨_, rfl, by omega, by omega, for_it (n := 5) walk_range (fun j σ' H' => ∃ z6 z10, σ' = [some (.ref a), some (.ref p), some v, some u, some (.ref l), some (.ref l'), z6, z8, none, some (.ref b), z10] ∧ Same H6 H') ⟨z7, none, rfl, s13⟩ (fun _ _ _ _ _ => trivial) ?_ ?_⟩
    · rintro i z σ' H0 H8 hi ⟨z6, z10, rfl, s14⟩ ⟨rfl, rfl⟩
      refine ⟨_, rfl, _, rfl, 0 + (i : Nat), u, rfl, by omega, fun l4 H9 s15 h4 => ?_⟩
      have sq : SqL K H9 l4 [.int (0 + (i : Nat)), u] := .of h4
      refine ⟨_, rfl, l4, _, _, _, rfl, rfl, sq, at0, _, rfl, rfl, _, rfl, ?_⟩
      rw [decide_eq_true rfl]
      refine iteF ⟨_, rfl, _, rfl, l4, _, _, _, rfl, rfl, sq, at1, u, rfl, hu6.same (s14.trans s15), fun H10 s16 => ⟨_, rfl, iteF ⟨_, _, rfl, s14.trans (s15.trans s16)⟩⟩⟩
    · rintro σ' H8 ⟨z6, z10, rfl, s14⟩
      refine ⟨_, rfl, _, rfl, l, v, rfl, ErrsAt.same s14 e5, hv6.same s14, fun H9 s15 => ⟨_, rfl, iteT ?_⟩⟩
      exact ⟨_, rfl, _, rfl, l', u, rfl, ErrsAt.same (s14.trans s15) e6, hu6.same (s14.trans s15), fun H10 _ => q H10⟩
end

end M

open PySem PySem.W PySem.Calls PyProof.Rows
set_option maxRecDepth 100000 in
set_option maxHeartbeats 0 in
theorem PySem.Challenge.cw_pastless_k00_errors_and_their_fields_holds : PySem.Challenge.rw_pastless_k00_errors_and_their_fields.Holds := by
  w_on; o_law
  refine HandSHeadRun.head_any (r := OpenLaw.row PySem.Challenge.rw_pastless_k00_errors_and_their_fields) (q := view (OpenLaw.row PySem.Challenge.rw_pastless_k00_errors_and_their_fields).prog [51]) (H := M.hk) (ob := M.ob) (M := 30000) (loose := M.names) (d := HandSHeadRun.topDef (OpenLaw.row PySem.Challenge.rw_pastless_k00_errors_and_their_fields).prog 51) (kwd := []) M.ob_eq
    (by kernel_rfl) (fun s => by kernel_rfl) M.run (by kernel_rfl) (by kernel_rfl) (by kernel_rfl) (by rfl) (by first | assumption | decide +kernel) (by decide +kernel) ⟨rfl, rfl, rfl, rfl, rfl, by decide +kernel⟩ ?hw ?hc
  case hw => w_witness2
  case hc =>
    refine L2.walk_ofE (l := PySem.Challenge.rw_pastless_k00_errors_and_their_fields) (n := 63) (k := 56) (x := "_law_script") (CX := L2.CX0) rfl (by decide) (by kernel_rfl) ⟨rfl, by decide, by decide⟩ ?F (fun _ _ _ _ z => z)
    intro w mg fa h Y G hmg0
    obtain ⟨K, KX, c⟩ := Y
    have hmg : mg ("law" : PySem.Str) = some (.ref fa) := by
      have e : (HandSHeadRun.topDef (OpenLaw.row PySem.Challenge.rw_pastless_k00_errors_and_their_fields).prog 51).name = ("law" : PySem.Str) := by kernel_rfl
      rw [← e]
      exact hmg0
    have T : M.Txt w K mg := ⟨⟨h, c⟩, ⟨h, KX, G⟩⟩
    have e := hmg.symm.trans T.g_law
    cases e
    obtain ⟨fd, hF⟩ := T.f_law
    have b := fun s => L2.FunD.bindsA (ps := ["_law_script"]) hF (fun _ _ _ _ _ _ us hl => match us, hl with | [_], _ => rfl) s
    exact ⟨K, fd, M.spLaw K, KX, fun s v => b s [v] rfl, fun H a ns hl hO hS => ⟨a, ns, rfl, hS, hl, fun _ => rfl⟩, fun base _ _ => M.ok_law T hF⟩
