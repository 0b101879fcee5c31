import PyProof.Rows.All
import Wide.All
import OpenK.AllK
import Wide.FinOn
import HandS.ForMost
import HandS.Exc
import HandS.ExcInit
import HandS.IsInst
import HandS.Wide
import HandS.WideBits
import HandS.Defaults
import HandS.ExcField
import HandS.Walk
import HandS.Lambda
import HandS.EndTab
import HandS.Property
import HandS.FStr
import HandS.Star
import HandS.More
import HandS.DictComp
import HandS.TupLen
import HandS.DeepEq
import HandS.Flow
import PySem.Challenge.RW_barredrows_k88_whole_joins
import HandS.TryOnly
import HandS.TryMany
import HandS.ExcOwn
import HandS.Small
import KE.KExcIs
import KE.KExcInit
import HandS.ExcValue
import HandS.WordsExc
import HandS.ExcIs
import HandS.ClsMeth
import PyProof.NeKinds
import HandS.ListEq
import KE.KOpsOwn
import HandS.Style
import HandS.WordsDict
import PyProof.Rows.StrJoinRep
import HandS.RaiseMore
import KE.KCallOwn
import OpenK.KOps
import KE.KDictList
import HandS.ListItems
import HandS.Iter
import HandS.Conv
import HandS.Deep
import KE.LtData
import KE.GoesMore
import HandS.SetKeys
import HandS.SetBool
import HandS.Strs
import PyProof.Rows.SortShellAny
import HandS.HeadHook2
import HandS.Head0
import HandS.Head1
import HandS.Head2
import HandS.HeadHook1
import HandS.HeadHook4
import KE.KNestM
import KE.KStateDown
import Lean
import HandS.HeadEnd
set_option Elab.async false
set_option linter.all false
set_option maxRecDepth 100000
section
set_option maxHeartbeats 4000000
namespace K88
open PySem PySem.Spec PyProof.Rows L2
/-! ### the text by places -/
def topS (i : Nat) : Stmt := PySem.Challenge.pw_barredrows_k88_whole_joins.main.body.getD i (.Pass ⟨0, 0, 0, 0⟩)
def inS (i j : Nat) : Stmt := match topS i with
  | .ClassDef (body := b) .. => b.getD j (.Pass ⟨0, 0, 0, 0⟩)
  | _ => .Pass ⟨0, 0, 0, 0⟩
abbrev sIsInteger : Stmt := topS 16
abbrev sIsCount : Stmt := topS 17
abbrev sIsBetween : Stmt := topS 18
abbrev sIsSign : Stmt := topS 19
abbrev sIsRow : Stmt := topS 20
abbrev sIsList : Stmt := topS 24
abbrev sIsShortRow : Stmt := topS 25
abbrev sCheckMany : Stmt := topS 26
abbrev sIsDictOfState : Stmt := topS 27
abbrev sCheckTable : Stmt := topS 28
abbrev sCheckWords : Stmt := topS 29
abbrev sFreeTable : Stmt := topS 31
abbrev sBarringTable : Stmt := topS 32
abbrev sBarringState : Stmt := topS 33
abbrev sLeadsOf : Stmt := topS 35
abbrev sWalked : Stmt := topS 37
abbrev sLivingPart : Stmt := topS 38
abbrev sKindsOf : Stmt := topS 39
abbrev sNumbered : Stmt := topS 40
abbrev sLeastTable : Stmt := topS 41
abbrev sMeetTable : Stmt := topS 42
abbrev sMediumTable : Stmt := topS 45
abbrev sCheckMedium : Stmt := topS 46
abbrev sCheckMedia : Stmt := topS 47
abbrev sJoin : Stmt := topS 50
abbrev sCanJoin : Stmt := topS 51
abbrev sClearSteps : Stmt := topS 52
abbrev sBegunMark : Stmt := topS 53
abbrev sCheckMark : Stmt := topS 54
abbrev sPot : Stmt := topS 56
abbrev sDraw : Stmt := topS 57
abbrev sPick : Stmt := topS 58
abbrev sLines : Stmt := topS 59
abbrev sAlive : Stmt := topS 60
abbrev sMarks : Stmt := topS 61
abbrev sLeast : Stmt := topS 62
abbrev sLawWalked : Stmt := topS 63
abbrev sWords : Stmt := topS 64
abbrev sEnd : Stmt := topS 65
abbrev sMark : Stmt := topS 66
abbrev sIsFine : Stmt := topS 67
abbrev sLawJoin : Stmt := topS 68
abbrev sWord : Stmt := topS 69
abbrev sTold : Stmt := topS 70
abbrev sJoinsRight : Stmt := topS 71
abbrev sRight : Stmt := topS 72
abbrev sLaw : Stmt := topS 73
abbrev sM_init : Stmt := inS 44 2
abbrev sM_free : Stmt := inS 44 3
abbrev sM_barring : Stmt := inS 44 4
abbrev sM_runs : Stmt := inS 44 5
abbrev sM_sums : Stmt := inS 44 6
abbrev sM_many : Stmt := inS 44 7
abbrev sM_signs : Stmt := inS 44 8
abbrev sM_table : Stmt := inS 44 9
abbrev sM_leads : Stmt := inS 44 10
abbrev sM_walk : Stmt := inS 44 11
abbrev sM_after : Stmt := inS 44 12
abbrev sM_least_row : Stmt := inS 44 13
abbrev sM_is_within : Stmt := inS 44 14
abbrev sM_len : Stmt := inS 44 15
abbrev sM_contains : Stmt := inS 44 16
abbrev sM_and : Stmt := inS 44 17
abbrev sM_rshift : Stmt := inS 44 18
abbrev sM_eq : Stmt := inS 44 19
abbrev sM_repr : Stmt := inS 44 20
/-! ### heaps -/
/-- all stands that stood, but perhaps p -/
def But (p : Addr) (H H' : Hp) : Prop := ∀ b o, b ≠ p → H b = some o → H' b = some o
theorem But.rfl {p : Addr} {H : Hp} : But p H H := fun _ _ _ e => e
theorem But.trans {p : Addr} {H1 H2 H3 : Hp} (a : But p H1 H2) (b : But p H2 H3) : But p H1 H3 := fun x o n e => b x o n (a x o n e)
theorem But.upd {p : Addr} {H : Hp} {o : HO} : But p H (upd H p o) := fun b u n e => by rw [upd_ne n]; exact e
theorem But.new {p q : Addr} {H : Hp} {o : HO} (h : H q = none) : But p H (L2.upd H q o) := fun b u n e => by rw [upd_ne (ne_of_none e h)]; exact e
theorem Same.refl {H : Hp} : Same H H := fun _ _ e => e
theorem Same.new {q : Addr} {H : Hp} {o : HO} (h : H q = none) : Same H (L2.upd H q o) := fun b u e => by rw [upd_ne (ne_of_none e h)]; exact e
theorem But.same {p : Addr} {H H' : Hp} (h : Same H H') : But p H H' := fun b o _ e => h b o e
/-- the pot that is drawn from -/
def PotAt (H : Hp) (p : Addr) : Prop := ∃ x y : Int, H p = some (.lst [.int x, .int y]) ∧ 0 ≤ x ∧ 0 ≤ y ∧ y < 2147483648
theorem PotAt.same {H H' : Hp} {p : Addr} (h : PotAt H p) (s : Same H H') : PotAt H' p := by
  obtain ⟨x, y, e, h1, h2, h3⟩ := h
  exact ⟨x, y, s _ _ e, h1, h2, h3⟩
theorem PotAt.ne {H : Hp} {p q : Addr} (h : PotAt H p) (e : H q = none) : q ≠ p := fun z => by
  obtain ⟨x, y, f, _⟩ := h
  rw [z, f] at e; cases e
/-- all stands that stood, but perhaps p and the tables -/
def ButN (p : Addr) (H H' : Hp) : Prop := ∀ b o, b ≠ p → H b = some o → (∀ ps, o ≠ .tbl ps) → H' b = some o
theorem ButN.of {p : Addr} {H H' : Hp} (b : But p H H') : ButN p H H' := fun x o n e _ => b x o n e
theorem ButN.ext {p : Addr} {H H' : Hp} (b : LamX.ExtN H H') : ButN p H H' := fun x o _ e n => b x o e n
theorem ButN.trans {p : Addr} {H1 H2 H3 : Hp} (a : ButN p H1 H2) (b : ButN p H2 H3) : ButN p H1 H3 := fun x o n e t => b x o n (a x o n e t) t
theorem ButN.same {p : Addr} {H H' : Hp} (h : Same H H') : ButN p H H' := fun b o _ e _ => h b o e
theorem ExtN.same {H H' : Hp} (h : Same H H') : LamX.ExtN H H' := fun b o e _ => h b o e
theorem PotAt.extN {H H' : Hp} {p : Addr} (h : PotAt H p) (s : LamX.ExtN H H') : PotAt H' p := by
  obtain ⟨x, y, e, h1, h2, h3⟩ := h
  exact ⟨x, y, s _ _ e (fun ps z => by cases z), h1, h2, h3⟩
/-! ### what the top has written -/
structure Tx (K : PySem.W.Frag) (mg : Str → Option Value) (ad : Str → Addr) (fd : Str → FuncData) : Prop where
  m_isinstance : mg "isinstance" = none
  m_int : mg "int" = none
  m_bool : mg "bool" = none
  m_str : mg "str" = none
  m_all : mg "all" = none
  m_any : mg "any" = none
  m_len : mg "len" = none
  m_abs : mg "abs" = none
  m_max : mg "max" = none
  m_min : mg "min" = none
  m_divmod : mg "divmod" = none
  m_range : mg "range" = none
  m_repr : mg "repr" = none
  m_dict : mg "dict" = none
  m_list : mg "list" = none
  m_tuple : mg "tuple" = none
  m_enumerate : mg "enumerate" = none
  m_sum : mg "sum" = none
  m_sorted : mg "sorted" = none
  m_zip : mg "zip" = none
  m_ValueError : mg "ValueError" = none
  m_ArithmeticError : mg "ArithmeticError" = none
  m_RuntimeError : mg "RuntimeError" = none
  sys : ∃ o, K.lookup sysModules = some o ∧ o.cls ≠ .type "list"
  g_ALL_SIGNS : ∃ t, mg "ALL_SIGNS" = some (.str "abcd" t)
  g_MOST_IN_ROW : ∃ t, mg "MOST_IN_ROW" = some (.int 2000 t)
  g_MOST_IN_TABLE : ∃ t, mg "MOST_IN_TABLE" = some (.int 64 t)
  g_MOST_IN_MARK : ∃ t, mg "MOST_IN_MARK" = some (.int 8 t)
  F_is_integer : Fun K "is_integer" "is_integer" sIsInteger (ad "is_integer") (fd "is_integer")
  g_is_integer : mg "is_integer" = some (.ref (ad "is_integer"))
  b_is_integer : Binds K (fd "is_integer") ["value"] []
  F_is_count : Fun K "is_count" "is_count" sIsCount (ad "is_count") (fd "is_count")
  g_is_count : mg "is_count" = some (.ref (ad "is_count"))
  b_is_count : Binds K (fd "is_count") ["value"] []
  F_is_between : Fun K "is_between" "is_between" sIsBetween (ad "is_between") (fd "is_between")
  g_is_between : mg "is_between" = some (.ref (ad "is_between"))
  b_is_between : Binds K (fd "is_between") ["value", "low", "high"] []
  F_is_sign : Fun K "is_sign" "is_sign" sIsSign (ad "is_sign") (fd "is_sign")
  g_is_sign : mg "is_sign" = some (.ref (ad "is_sign"))
  b_is_sign : Binds K (fd "is_sign") ["value", "signs"] []
  F_is_row : Fun K "is_row" "is_row" sIsRow (ad "is_row") (fd "is_row")
  g_is_row : mg "is_row" = some (.ref (ad "is_row"))
  b_is_row : Binds K (fd "is_row") ["value"] []
  F_is_list : Fun K "is_list" "is_list" sIsList (ad "is_list") (fd "is_list")
  g_is_list : mg "is_list" = some (.ref (ad "is_list"))
  b_is_list : Binds K (fd "is_list") ["value"] []
  F_is_short_row : Fun K "is_short_row" "is_short_row" sIsShortRow (ad "is_short_row") (fd "is_short_row")
  g_is_short_row : mg "is_short_row" = some (.ref (ad "is_short_row"))
  b_is_short_row : Binds K (fd "is_short_row") ["value"] []
  F_check_many : Fun K "check_many" "check_many" sCheckMany (ad "check_many") (fd "check_many")
  g_check_many : mg "check_many" = some (.ref (ad "check_many"))
  b_check_many : Binds K (fd "check_many") ["many"] []
  F_is_dict_of_state : Fun K "is_dict_of_state" "is_dict_of_state" sIsDictOfState (ad "is_dict_of_state") (fd "is_dict_of_state")
  g_is_dict_of_state : mg "is_dict_of_state" = some (.ref (ad "is_dict_of_state"))
  b_is_dict_of_state : Binds K (fd "is_dict_of_state") ["value", "signs", "size"] []
  F_check_table : Fun K "check_table" "check_table" sCheckTable (ad "check_table") (fd "check_table")
  g_check_table : mg "check_table" = some (.ref (ad "check_table"))
  b_check_table : Binds K (fd "check_table") ["table", "signs"] []
  F_check_words : Fun K "check_words" "check_words" sCheckWords (ad "check_words") (fd "check_words")
  g_check_words : mg "check_words" = some (.ref (ad "check_words"))
  b_check_words : Binds K (fd "check_words") ["words", "signs"] []
  F_free_table : Fun K "free_table" "free_table" sFreeTable (ad "free_table") (fd "free_table")
  g_free_table : mg "free_table" = some (.ref (ad "free_table"))
  b_free_table : Binds K (fd "free_table") ["signs"] []
  F_barring_table : Fun K "barring_table" "barring_table" sBarringTable (ad "barring_table") (fd "barring_table")
  g_barring_table : mg "barring_table" = some (.ref (ad "barring_table"))
  b_barring_table : Binds K (fd "barring_table") ["signs", "words"] []
  F_barring_state : Fun K "barring_state" "barring_state" sBarringState (ad "barring_state") (fd "barring_state")
  g_barring_state : mg "barring_state" = some (.ref (ad "barring_state"))
  b_barring_state : Binds K (fd "barring_state") ["start", "signs", "words", "numbers"] []
  F_leads_of : Fun K "leads_of" "leads_of" sLeadsOf (ad "leads_of") (fd "leads_of")
  g_leads_of : mg "leads_of" = some (.ref (ad "leads_of"))
  b_leads_of : Binds K (fd "leads_of") ["table", "signs"] []
  F_walked : Fun K "walked" "walked" sWalked (ad "walked") (fd "walked")
  g_walked : mg "walked" = some (.ref (ad "walked"))
  b_walked : Binds K (fd "walked") ["table", "row", "state"] []
  F_living_part : Fun K "living_part" "living_part" sLivingPart (ad "living_part") (fd "living_part")
  g_living_part : mg "living_part" = some (.ref (ad "living_part"))
  b_living_part : Binds K (fd "living_part") ["table"] []
  F_kinds_of : Fun K "kinds_of" "kinds_of" sKindsOf (ad "kinds_of") (fd "kinds_of")
  g_kinds_of : mg "kinds_of" = some (.ref (ad "kinds_of"))
  b_kinds_of : Binds K (fd "kinds_of") ["table"] []
  F_numbered : Fun K "numbered" "numbered" sNumbered (ad "numbered") (fd "numbered")
  g_numbered : mg "numbered" = some (.ref (ad "numbered"))
  b_numbered : Binds K (fd "numbered") ["marks"] []
  F_least_table : FunD K "least_table" "least_table" (defArgs sLeastTable) (defBody sLeastTable) (defScope sLeastTable) [.int 0] [] (ad "least_table") (fd "least_table")
  g_least_table : mg "least_table" = some (.ref (ad "least_table"))
  F_meet_table : Fun K "meet_table" "meet_table" sMeetTable (ad "meet_table") (fd "meet_table")
  g_meet_table : mg "meet_table" = some (.ref (ad "meet_table"))
  b_meet_table : Binds K (fd "meet_table") ["one", "other"] []
  F_medium_table : FunD K "medium_table" "medium_table" (defArgs sMediumTable) (defBody sMediumTable) (defScope sMediumTable) [.int 0] [] (ad "medium_table") (fd "medium_table")
  g_medium_table : mg "medium_table" = some (.ref (ad "medium_table"))
  F_check_medium : Fun K "check_medium" "check_medium" sCheckMedium (ad "check_medium") (fd "check_medium")
  g_check_medium : mg "check_medium" = some (.ref (ad "check_medium"))
  b_check_medium : Binds K (fd "check_medium") ["medium"] []
  F_check_media : Fun K "check_media" "check_media" sCheckMedia (ad "check_media") (fd "check_media")
  g_check_media : mg "check_media" = some (.ref (ad "check_media"))
  b_check_media : Binds K (fd "check_media") ["one", "other"] []
  F_join : Fun K "join" "join" sJoin (ad "join") (fd "join")
  g_join : mg "join" = some (.ref (ad "join"))
  b_join : Binds K (fd "join") ["medium", "mark", "row"] []
  F_can_join : Fun K "can_join" "can_join" sCanJoin (ad "can_join") (fd "can_join")
  g_can_join : mg "can_join" = some (.ref (ad "can_join"))
  b_can_join : Binds K (fd "can_join") ["medium", "mark", "state", "begun"] []
  F_clear_steps : Fun K "clear_steps" "clear_steps" sClearSteps (ad "clear_steps") (fd "clear_steps")
  g_clear_steps : mg "clear_steps" = some (.ref (ad "clear_steps"))
  b_clear_steps : Binds K (fd "clear_steps") ["medium", "mark", "state", "begun"] []
  F_begun_mark : Fun K "begun_mark" "begun_mark" sBegunMark (ad "begun_mark") (fd "begun_mark")
  g_begun_mark : mg "begun_mark" = some (.ref (ad "begun_mark"))
  b_begun_mark : Binds K (fd "begun_mark") ["mark", "row"] []
  F_check_mark : Fun K "check_mark" "check_mark" sCheckMark (ad "check_mark") (fd "check_mark")
  g_check_mark : mg "check_mark" = some (.ref (ad "check_mark"))
  b_check_mark : Binds K (fd "check_mark") ["mark"] []
  F__law_pot : Fun K "_law_pot" "_law_pot" sPot (ad "_law_pot") (fd "_law_pot")
  g__law_pot : mg "_law_pot" = some (.ref (ad "_law_pot"))
  b__law_pot : Binds K (fd "_law_pot") ["_law_script", "_law_k"] []
  F__law_draw : Fun K "_law_draw" "_law_draw" sDraw (ad "_law_draw") (fd "_law_draw")
  g__law_draw : mg "_law_draw" = some (.ref (ad "_law_draw"))
  b__law_draw : Binds K (fd "_law_draw") ["_law_pot_here", "_law_size"] []
  F__law_pick : Fun K "_law_pick" "_law_pick" sPick (ad "_law_pick") (fd "_law_pick")
  g__law_pick : mg "_law_pick" = some (.ref (ad "_law_pick"))
  b__law_pick : Binds K (fd "_law_pick") ["_law_pot_here", "_law_some"] []
  F__law_lines : Fun K "_law_lines" "_law_lines" sLines (ad "_law_lines") (fd "_law_lines")
  g__law_lines : mg "_law_lines" = some (.ref (ad "_law_lines"))
  b__law_lines : Binds K (fd "_law_lines") ["_law_pot_here", "_law_width", "_law_most"] []
  F__law_alive : Fun K "_law_alive" "_law_alive" sAlive (ad "_law_alive") (fd "_law_alive")
  g__law_alive : mg "_law_alive" = some (.ref (ad "_law_alive"))
  b__law_alive : Binds K (fd "_law_alive") ["_law_lines_here"] []
  F__law_marks : Fun K "_law_marks" "_law_marks" sMarks (ad "_law_marks") (fd "_law_marks")
  g__law_marks : mg "_law_marks" = some (.ref (ad "_law_marks"))
  b__law_marks : Binds K (fd "_law_marks") ["_law_lines_here"] []
  F__law_least : Fun K "_law_least" "_law_least" sLeast (ad "_law_least") (fd "_law_least")
  g__law_least : mg "_law_least" = some (.ref (ad "_law_least"))
  b__law_least : Binds K (fd "_law_least") ["_law_lines_here"] []
  F__law_walked : Fun K "_law_walked" "_law_walked" sLawWalked (ad "_law_walked") (fd "_law_walked")
  g__law_walked : mg "_law_walked" = some (.ref (ad "_law_walked"))
  b__law_walked : Binds K (fd "_law_walked") ["_law_lines_here", "_law_word_here", "_law_spot"] []
  F__law_words : Fun K "_law_words" "_law_words" sWords (ad "_law_words") (fd "_law_words")
  g__law_words : mg "_law_words" = some (.ref (ad "_law_words"))
  b__law_words : Binds K (fd "_law_words") ["_law_width", "_law_length"] []
  F__law_end : Fun K "_law_end" "_law_end" sEnd (ad "_law_end") (fd "_law_end")
  g__law_end : mg "_law_end" = some (.ref (ad "_law_end"))
  b__law_end : Binds K (fd "_law_end") ["_law_mark_word", "_law_word_here"] []
  F__law_mark : Fun K "_law_mark" "_law_mark" sMark (ad "_law_mark") (fd "_law_mark")
  g__law_mark : mg "_law_mark" = some (.ref (ad "_law_mark"))
  b__law_mark : Binds K (fd "_law_mark") ["_law_pot_here", "_law_lines_here", "_law_width"] []
  F__law_is_fine : Fun K "_law_is_fine" "_law_is_fine" sIsFine (ad "_law_is_fine") (fd "_law_is_fine")
  g__law_is_fine : mg "_law_is_fine" = some (.ref (ad "_law_is_fine"))
  b__law_is_fine : Binds K (fd "_law_is_fine") ["_law_lines_here", "_law_word_here", "_law_mark_word"] []
  F__law_join : Fun K "_law_join" "_law_join" sLawJoin (ad "_law_join") (fd "_law_join")
  g__law_join : mg "_law_join" = some (.ref (ad "_law_join"))
  b__law_join : Binds K (fd "_law_join") ["_law_lines_here", "_law_mark_word", "_law_word_here"] []
  F__law_word : Fun K "_law_word" "_law_word" sWord (ad "_law_word") (fd "_law_word")
  g__law_word : mg "_law_word" = some (.ref (ad "_law_word"))
  b__law_word : Binds K (fd "_law_word") ["_law_pot_here", "_law_lines_here", "_law_mark_word"] []
  F__law_told : Fun K "_law_told" "_law_told" sTold (ad "_law_told") (fd "_law_told")
  g__law_told : mg "_law_told" = some (.ref (ad "_law_told"))
  b__law_told : Binds K (fd "_law_told") ["_law_call"] []
  F__law_joins_right : Fun K "_law_joins_right" "_law_joins_right" sJoinsRight (ad "_law_joins_right") (fd "_law_joins_right")
  g__law_joins_right : mg "_law_joins_right" = some (.ref (ad "_law_joins_right"))
  b__law_joins_right : Binds K (fd "_law_joins_right") ["_law_pot_here", "_law_made", "_law_lines_here", "_law_width"] []
  F__law_right : Fun K "_law_right" "_law_right" sRight (ad "_law_right") (fd "_law_right")
  g__law_right : mg "_law_right" = some (.ref (ad "_law_right"))
  b__law_right : Binds K (fd "_law_right") ["_law_pot_here"] []
  F_law : Fun K "law" "law" sLaw (ad "law") (fd "law")
  g_law : mg "law" = some (.ref (ad "law"))
  b_law : Binds K (fd "law") ["_law_script"] []
end K88
end

section
/-! tables of code, walked -/
namespace K88
open PySem
abbrev Ch := List (List (Str × Nat))
def rowC (c : Ch) (i : Nat) : List (Str × Nat) := c.getD i []
def addN (o : List Nat) (t : Nat) : List Nat := if t ∈ o then o else o ++ [t]
def addAll (o : List Nat) (r : List (Str × Nat)) : List Nat := r.foldl (fun o e => addN o e.2) o
def goR (c : Ch) : Nat → Nat → List Nat → List Nat
  | 0, _, o => o
  | f + 1, a, o => match o[a]? with
    | some i => goR c f (a + 1) (addAll o (rowC c i))
    | none => o
def reached (c : Ch) : List Nat := goR c (c.length + 1) 0 [0]
def keptF (c : Ch) : Ch := (reached c).map fun i => (rowC c i).map fun e => (e.1, (reached c).idxOf e.2)
def WfC (c : Ch) : Prop := 0 < c.length ∧ ∀ r ∈ c, ∀ e ∈ r, e.2 < c.length
theorem rowC_lt {c : Ch} (w : WfC c) {i : Nat} {e : Str × Nat} (h : e ∈ rowC c i) : e.2 < c.length := by
  unfold rowC at h
  rw [List.getD_eq_getElem?_getD] at h
  cases k : c[i]? with
  | none => rw [k] at h; cases h
  | some r => rw [k] at h; exact w.2 r (List.mem_of_getElem? k) e h
theorem mem_addN {o : List Nat} {t x : Nat} : x ∈ addN o t ↔ x ∈ o ∨ x = t := by
  unfold addN
  split
  · constructor
    · exact .inl
    · rintro (h | h)
      · exact h
      · rw [h]; assumption
  · simp
theorem mem_addAll {r : List (Str × Nat)} : ∀ {o : List Nat} {x : Nat}, x ∈ addAll o r ↔ x ∈ o ∨ ∃ e ∈ r, x = e.2 := by
  induction r with
  | nil => intro o x; simp [addAll]
  | cons e r ih =>
    intro o x
    show x ∈ addAll (addN o e.2) r ↔ _
    rw [ih, mem_addN]
    constructor
    · rintro ((h | h) | ⟨e', h1, h2⟩)
      · exact .inl h
      · exact .inr ⟨e, List.mem_cons_self .., h⟩
      · exact .inr ⟨e', List.mem_cons_of_mem _ h1, h2⟩
    · rintro (h | ⟨e', h1, h2⟩)
      · exact .inl (.inl h)
      · rcases List.mem_cons.mp h1 with rfl | h1
        · exact .inl (.inr h2)
        · exact .inr ⟨e', h1, h2⟩
theorem addN_pre (o : List Nat) (t : Nat) : ∃ s, addN o t = o ++ s := by
  unfold addN
  split
  · exact ⟨[], (List.append_nil o).symm⟩
  · exact ⟨[t], rfl⟩
theorem addAll_pre {r : List (Str × Nat)} : ∀ (o : List Nat), ∃ s, addAll o r = o ++ s := by
  induction r with
  | nil => exact fun o => ⟨[], (List.append_nil o).symm⟩
  | cons e r ih =>
    intro o
    obtain ⟨s, h⟩ := addN_pre o e.2
    obtain ⟨s', h'⟩ := ih (addN o e.2)
    exact ⟨s ++ s', by show addAll (addN o e.2) r = _; rw [h', h, List.append_assoc]⟩
theorem nodup_addN {o : List Nat} (t : Nat) (h : o.Nodup) : (addN o t).Nodup := by
  unfold addN
  split
  · exact h
  · rename_i k
    rw [List.nodup_append]
    refine ⟨h, by simp, fun x hx y hy => ?_⟩
    rw [List.mem_singleton.mp hy]
    exact fun z => k (by rw [← z]; exact hx)
theorem nodup_addAll {r : List (Str × Nat)} : ∀ {o : List Nat}, o.Nodup → (addAll o r).Nodup := by
  induction r with
  | nil => exact fun h => h
  | cons e r ih => exact fun h => ih (nodup_addN e.2 h)
theorem nodup_len : ∀ {n : Nat} {o : List Nat}, o.Nodup → (∀ x ∈ o, x < n) → o.length ≤ n
  | 0, o, _, h => by
    cases o with
    | nil => exact Nat.le_refl _
    | cons x r => exact absurd (h x (List.mem_cons_self ..)) (Nat.not_lt_zero _)
  | n + 1, o, h1, h2 => by
    by_cases k : n ∈ o
    · have r := nodup_len (n := n) (h1.erase n) fun x hx => by
        obtain ⟨a, b⟩ := h1.mem_erase_iff.mp hx
        have := h2 x b
        omega
      have := List.length_erase_of_mem k
      have := List.length_pos_of_mem k
      omega
    · have r := nodup_len (n := n) h1 fun x hx => by
        have := h2 x hx
        have : x ≠ n := fun z => k (z ▸ hx)
        omega
      omega
/-- enough steps are enough -/
theorem goR_stop {c : Ch} (w : WfC c) : ∀ (f a : Nat) (o : List Nat), o.Nodup → (∀ x ∈ o, x < c.length) → c.length + 1 ≤ f + a → goR c (f + 1) a o = goR c f a o
  | 0, a, o, h1, h2, h3 => by
    have : o.length ≤ c.length := nodup_len h1 h2
    unfold goR
    rw [List.getElem?_eq_none (by omega)]
  | f + 1, a, o, h1, h2, h3 => by
    rw [show goR c (f + 1 + 1) a o = (match o[a]? with | some i => goR c (f + 1) (a + 1) (addAll o (rowC c i)) | none => o) from rfl, show goR c (f + 1) a o = (match o[a]? with | some i => goR c f (a + 1) (addAll o (rowC c i)) | none => o) from rfl]
    cases e : o[a]? with
    | none => rfl
    | some i => exact goR_stop w f (a + 1) _ (nodup_addAll h1) (fun x hx => (mem_addAll.mp hx).elim (h2 x) fun ⟨e, he, z⟩ => by rw [z]; exact rowC_lt w he) (by omega)
theorem goR_more {c : Ch} (w : WfC c) {f a : Nat} {o : List Nat} (h1 : o.Nodup) (h2 : ∀ x ∈ o, x < c.length) (h3 : c.length + 1 ≤ f + a) : ∀ k, goR c (f + k) a o = goR c f a o
  | 0 => rfl
  | k + 1 => (goR_stop w (f + k) a o h1 h2 (by omega)).trans (goR_more w h1 h2 h3 k)
theorem addN_map {g : Nat → Nat} {o : List Nat} {t : Nat} (inj : ∀ x ∈ o, g x = g t → x = t) : addN (o.map g) (g t) = (addN o t).map g := by
  unfold addN
  by_cases h : t ∈ o
  · rw [if_pos h, if_pos (List.mem_map_of_mem h)]
  · rw [if_neg h, if_neg]
    · rw [List.map_append]; rfl
    · intro z
      obtain ⟨x, hx, e⟩ := List.mem_map.mp z
      exact h (inj x hx e ▸ hx)
theorem addAll_map {g : Nat → Nat} {D : Nat → Prop} (inj : ∀ x y, D x → D y → g x = g y → x = y) : ∀ (r : List (Str × Nat)) (o : List Nat), (∀ x ∈ o, D x) → (∀ e ∈ r, D e.2) → addAll (o.map g) (r.map fun e => (e.1, g e.2)) = (addAll o r).map g
  | [], o, _, _ => rfl
  | e :: r, o, ho, hr => by
    show addAll (addN (o.map g) (g e.2)) (r.map fun e => (e.1, g e.2)) = (addAll (addN o e.2) r).map g
    rw [addN_map fun x hx z => inj x e.2 (ho x hx) (hr e (List.mem_cons_self ..)) z]
    exact addAll_map inj r _ (fun x hx => (mem_addN.mp hx).elim (ho x) fun z => z ▸ hr e (List.mem_cons_self ..)) fun e' h => hr e' (List.mem_cons_of_mem _ h)
/-- g takes the walk of c' to that of c -/
structure Iso (c c' : Ch) (g : Nat → Nat) (D : Nat → Prop) : Prop where
  z : g 0 = 0
  d0 : D 0
  row : ∀ i, D i → rowC c (g i) = (rowC c' i).map fun e => (e.1, g e.2)
  closed : ∀ i, D i → ∀ e ∈ rowC c' i, D e.2
  inj : ∀ x y, D x → D y → g x = g y → x = y
theorem Iso.go {c c' : Ch} {g : Nat → Nat} {D : Nat → Prop} (I : Iso c c' g D) : ∀ (f a : Nat) (o : List Nat), (∀ x ∈ o, D x) → goR c f a (o.map g) = (goR c' f a o).map g ∧ ∀ x ∈ goR c' f a o, D x
  | 0, a, o, h => ⟨rfl, h⟩
  | f + 1, a, o, h => by
    unfold goR
    rw [List.getElem?_map]
    cases e : o[a]? with
    | none => exact ⟨rfl, h⟩
    | some i =>
      have di := h i (List.mem_of_getElem? e)
      have r := I.go f (a + 1) (addAll o (rowC c' i)) fun x hx => (mem_addAll.mp hx).elim (h x) fun ⟨e, he, z⟩ => z ▸ I.closed i di e he
      refine ⟨?_, r.2⟩
      show goR c f (a + 1) (addAll (o.map g) (rowC c (g i))) = _
      rw [I.row i di, addAll_map I.inj _ _ h (I.closed i di)]
      exact r.1
theorem one_nodup : ([0] : List Nat).Nodup := by simp
theorem reached_is {c : Ch} (w : WfC c) {f : Nat} (h : c.length + 1 ≤ f) : goR c f 0 [0] = reached c := by
  obtain ⟨k, rfl⟩ := Nat.le.dest h
  exact goR_more w one_nodup (fun x hx => by rw [List.mem_singleton.mp hx]; exact w.1) (by omega) k
theorem Iso.reached {c c' : Ch} {g : Nat → Nat} {D : Nat → Prop} (I : Iso c c' g D) (w : WfC c) (w' : WfC c') : K88.reached c = (K88.reached c').map g ∧ ∀ x ∈ K88.reached c', D x := by
  obtain ⟨h1, h2⟩ := I.go (c.length + 1 + (c'.length + 1)) 0 [0] fun x hx => by rw [List.mem_singleton.mp hx]; exact I.d0
  rw [reached_is w' (by omega)] at h1 h2
  rw [show List.map g [0] = [0] by simp [I.z], reached_is w (by omega)] at h1
  exact ⟨h1, h2⟩
theorem idx_map {g : Nat → Nat} {t : Nat} : ∀ {o : List Nat}, (∀ x ∈ o, g x = g t → x = t) → (o.map g).idxOf (g t) = o.idxOf t
  | [], _ => rfl
  | x :: o, h => by
    rw [List.map_cons, List.idxOf_cons, List.idxOf_cons]
    by_cases e : x = t
    · rw [e]; simp
    · have ne : ¬ g x = g t := fun z => e (h x (List.mem_cons_self ..) z)
      rw [show (g x == g t) = false from beq_eq_false_iff_ne.mpr ne, show (x == t) = false from beq_eq_false_iff_ne.mpr e]
      simp only [cond_false]
      rw [idx_map fun y hy => h y (List.mem_cons_of_mem _ hy)]
theorem Iso.kept {c c' : Ch} {g : Nat → Nat} {D : Nat → Prop} (I : Iso c c' g D) (w : WfC c) (w' : WfC c') : keptF c = keptF c' := by
  obtain ⟨h1, h2⟩ := I.reached w w'
  unfold keptF
  rw [h1, List.map_map]
  refine List.map_congr_left fun i hi => ?_
  show (rowC c (g i)).map _ = _
  rw [I.row i (h2 i hi), List.map_map]
  refine List.map_congr_left fun e he => ?_
  show (e.1, _) = (e.1, _)
  rw [idx_map fun x hx z => I.inj x e.2 (h2 x hx) (I.closed i (h2 i hi) e he) z]
/-! the walk is closed -/
theorem goR_pre {c : Ch} : ∀ (f a : Nat) (o : List Nat), ∃ s, goR c f a o = o ++ s
  | 0, a, o => ⟨[], (List.append_nil o).symm⟩
  | f + 1, a, o => by
    unfold goR
    cases e : o[a]? with
    | none => exact ⟨[], (List.append_nil o).symm⟩
    | some i =>
      obtain ⟨s, h⟩ := addAll_pre (r := rowC c i) o
      obtain ⟨s', h'⟩ := goR_pre (c := c) f (a + 1) (addAll o (rowC c i))
      exact ⟨s ++ s', by show goR c f (a + 1) (addAll o (rowC c i)) = _; rw [h', h, List.append_assoc]⟩
/-- the first a ones have been gone through -/
def Done (c : Ch) (a : Nat) (o : List Nat) : Prop := ∀ m i, m < a → o[m]? = some i → ∀ e ∈ rowC c i, e.2 ∈ o
theorem Done.step {c : Ch} {a i : Nat} {o : List Nat} (d : Done c a o) (h : o[a]? = some i) : Done c (a + 1) (addAll o (rowC c i)) := by
  intro m j hm hj e he
  obtain ⟨s, hs⟩ := addAll_pre (r := rowC c i) o
  have la : a < o.length := (List.getElem?_eq_some_iff.mp h).1
  rw [hs, List.getElem?_append_left (by omega)] at hj
  by_cases k : m < a
  · exact mem_addAll.mpr (.inl (d m j k hj e he))
  · have : m = a := by omega
    subst this
    rw [h] at hj
    cases hj
    exact mem_addAll.mpr (.inr ⟨e, he, rfl⟩)
theorem goR_done {c : Ch} (w : WfC c) : ∀ (f a : Nat) (o : List Nat), o.Nodup → (∀ x ∈ o, x < c.length) → a ≤ o.length → c.length + 1 ≤ f + a → Done c a o →
    (goR c f a o).Nodup ∧ (∀ x ∈ goR c f a o, x < c.length) ∧ ∀ x ∈ goR c f a o, ∀ e ∈ rowC c x, e.2 ∈ goR c f a o
  | 0, a, o, h1, h2, h3, h4, d => by
    have : o.length ≤ c.length := nodup_len h1 h2
    omega
  | f + 1, a, o, h1, h2, h3, h4, d => by
    unfold goR
    cases e : o[a]? with
    | none =>
      refine ⟨h1, h2, fun x (hx : x ∈ o) e' he => ?_⟩
      obtain ⟨m, hm, em⟩ := List.mem_iff_getElem.mp hx
      have : o.length ≤ a := List.getElem?_eq_none_iff.mp e
      exact d m x (by omega) (by rw [List.getElem?_eq_getElem hm, em]) e' he
    | some i =>
      have la : a < o.length := (List.getElem?_eq_some_iff.mp e).1
      obtain ⟨s, hs⟩ := addAll_pre (r := rowC c i) o
      exact goR_done w f (a + 1) _ (nodup_addAll h1) (fun x hx => (mem_addAll.mp hx).elim (h2 x) fun ⟨e, he, z⟩ => by rw [z]; exact rowC_lt w he) (by rw [hs, List.length_append]; omega) (by omega) (d.step e)
theorem reached_ok {c : Ch} (w : WfC c) : (reached c).Nodup ∧ (∀ x ∈ reached c, x < c.length) ∧ (∀ x ∈ reached c, ∀ e ∈ rowC c x, e.2 ∈ reached c) ∧ (reached c)[0]? = some 0 := by
  obtain ⟨h1, h2, h3⟩ := goR_done w (c.length + 1) 0 [0] one_nodup (fun x hx => by rw [List.mem_singleton.mp hx]; exact w.1) (Nat.zero_le _) (Nat.le_refl _) fun m i hm => absurd hm (Nat.not_lt_zero _)
  obtain ⟨s, hs⟩ := goR_pre (c := c) (c.length + 1) 0 [0]
  refine ⟨h1, h2, h3, ?_⟩
  show (goR c (c.length + 1) 0 [0])[0]? = _
  rw [hs]
  rfl
theorem reached_pos {c : Ch} (w : WfC c) : 0 < (reached c).length := (List.getElem?_eq_some_iff.mp (reached_ok w).2.2.2).1
theorem keptF_length (c : Ch) : (keptF c).length = (reached c).length := by unfold keptF; rw [List.length_map]
theorem keptF_row {c : Ch} {i : Nat} (h : i < (reached c).length) : rowC (keptF c) i = (rowC c ((reached c)[i])).map fun e => (e.1, (reached c).idxOf e.2) := by
  unfold rowC keptF
  rw [List.getD_eq_getElem?_getD, List.getElem?_map, List.getElem?_eq_getElem h]
  rfl
theorem keptF_wf {c : Ch} (w : WfC c) : WfC (keptF c) := by
  obtain ⟨h1, h2, h3, h4⟩ := reached_ok w
  rw [WfC, keptF_length]
  refine ⟨reached_pos w, fun r hr e he => ?_⟩
  unfold keptF at hr
  obtain ⟨i, hi, rfl⟩ := List.mem_map.mp hr
  obtain ⟨e', he', rfl⟩ := List.mem_map.mp he
  exact List.idxOf_lt_length_of_mem (h3 i hi e' he')
theorem kept_kept {c : Ch} (w : WfC c) : keptF (keptF c) = keptF c := by
  obtain ⟨h1, h2, h3, h4⟩ := reached_ok w
  have I : Iso c (keptF c) (fun i => (reached c).getD i 0) (fun i => i < (reached c).length) := {
    z := by rw [List.getD_eq_getElem?_getD, h4]; rfl
    d0 := reached_pos w
    row := fun i hi => by
      rw [keptF_row hi, List.map_map, List.getD_eq_getElem?_getD, List.getElem?_eq_getElem hi]
      refine (List.map_id (rowC c (reached c)[i])).symm.trans (List.map_congr_left fun e he => ?_)
      have m := h3 _ (List.getElem_mem hi) e he
      show e = (e.1, (reached c).getD ((reached c).idxOf e.2) 0)
      rw [List.getD_eq_getElem?_getD, List.getElem?_eq_getElem (List.idxOf_lt_length_of_mem m), List.getElem_idxOf]
      rfl
    closed := fun i hi e he => by
      rw [keptF_row hi] at he
      obtain ⟨e', he', rfl⟩ := List.mem_map.mp he
      exact List.idxOf_lt_length_of_mem (h3 _ (List.getElem_mem hi) e' he')
    inj := fun x y hx hy e => by
      have e : (reached c).getD x 0 = (reached c).getD y 0 := e
      rw [List.getD_eq_getElem?_getD, List.getD_eq_getElem?_getD, List.getElem?_eq_getElem hx, List.getElem?_eq_getElem hy] at e
      exact (List.getElem_inj (h₀ := hx) (h₁ := hy) h1).mp e }
  exact (I.kept w (keptF_wf w)).symm
end K88
end

section
/-! tables of media: states that are like, the least table -/
namespace K88
open PySem
def lkp (r : List (Str × Nat)) (z : Str) : Option Nat := (r.find? fun e => decide (e.1 = z)).map (·.2)
def keysR (r : List (Str × Nat)) : List Str := r.map (·.1)
theorem lkp_nil (z : Str) : lkp [] z = none := rfl
theorem lkp_cons (e : Str × Nat) (r : List (Str × Nat)) (z : Str) : lkp (e :: r) z = if e.1 = z then some e.2 else lkp r z := by
  unfold lkp
  rw [List.find?_cons]
  by_cases h : e.1 = z
  · rw [decide_eq_true h, if_pos h]; rfl
  · rw [decide_eq_false h, if_neg h]
theorem lkp_mem {z : Str} {a : Nat} : ∀ {r : List (Str × Nat)}, lkp r z = some a → (z, a) ∈ r
  | [], h => by cases h
  | e :: r, h => by
    rw [lkp_cons] at h
    by_cases k : e.1 = z
    · rw [if_pos k] at h
      cases h
      rw [← k]
      exact List.mem_cons_self
    · rw [if_neg k] at h
      exact List.mem_cons_of_mem _ (lkp_mem h)
theorem lkp_has {z : Str} : ∀ {r : List (Str × Nat)}, z ∈ keysR r → ∃ a, lkp r z = some a
  | [], h => by cases h
  | e :: r, h => by
    rw [lkp_cons]
    by_cases k : e.1 = z
    · exact ⟨e.2, if_pos k⟩
    · rw [if_neg k]
      refine lkp_has ((List.mem_cons.mp h).resolve_left fun q => k q.symm)
theorem lkp_none {z : Str} {r : List (Str × Nat)} (h : z ∉ keysR r) : lkp r z = none := by
  cases e : lkp r z with
  | none => rfl
  | some a => exact absurd (List.mem_map_of_mem (f := (·.1)) (lkp_mem e)) h
theorem lkp_keys {z : Str} {a : Nat} {r : List (Str × Nat)} (h : lkp r z = some a) : z ∈ keysR r := List.mem_map_of_mem (f := (·.1)) (lkp_mem h)
theorem lkp_at {r : List (Str × Nat)} (nd : (keysR r).Nodup) {e : Str × Nat} (h : e ∈ r) : lkp r e.1 = some e.2 := by
  induction r with
  | nil => cases h
  | cons x r ih =>
    rw [lkp_cons]
    obtain ⟨n1, n2⟩ := List.nodup_cons.mp nd
    rcases List.mem_cons.mp h with rfl | h
    · exact if_pos rfl
    · have q : x.1 ≠ e.1 := fun z => n1 (by show x.1 ∈ _; rw [z]; exact List.mem_map_of_mem (f := (·.1)) h)
      rw [if_neg q]
      exact ih n2 h
/-! ### like to some depth -/
def Lk (c : Ch) : Nat → Nat → Nat → Prop
  | 0, _, _ => True
  | k + 1, s, t => keysR (rowC c s) = keysR (rowC c t) ∧ ∀ z a b, lkp (rowC c s) z = some a → lkp (rowC c t) z = some b → Lk c k a b
def Lw (c : Ch) (s t : Nat) : Prop := ∀ k, Lk c k s t
theorem Lk.refl (c : Ch) : ∀ k s, Lk c k s s
  | 0, _ => True.intro
  | k + 1, s => ⟨rfl, fun z a b h1 h2 => by rw [h1] at h2; cases h2; exact Lk.refl c k a⟩
theorem Lk.symm {c : Ch} : ∀ {k s t}, Lk c k s t → Lk c k t s
  | 0, _, _, _ => True.intro
  | k + 1, s, t, ⟨h, g⟩ => ⟨h.symm, fun z a b h1 h2 => (g z b a h2 h1).symm⟩
theorem Lk.trans {c : Ch} : ∀ {k s t u}, Lk c k s t → Lk c k t u → Lk c k s u
  | 0, _, _, _, _, _ => True.intro
  | k + 1, s, t, u, ⟨h, g⟩, ⟨h', g'⟩ => ⟨h.trans h', fun z a b h1 h2 => by
    obtain ⟨m, hm⟩ := lkp_has (h ▸ lkp_keys h1)
    exact (g z a m h1 hm).trans (g' z m b hm h2)⟩
theorem Lk.less {c : Ch} : ∀ {k s t}, Lk c (k + 1) s t → Lk c k s t
  | 0, _, _, _ => True.intro
  | k + 1, s, t, ⟨h, g⟩ => ⟨h, fun z a b h1 h2 => (g z a b h1 h2).less⟩
theorem Lk.mono {c : Ch} {s t : Nat} {k : Nat} : ∀ j, Lk c (k + j) s t → Lk c k s t
  | 0, h => h
  | j + 1, h => Lk.mono j h.less
theorem Lw.refl (c : Ch) (s : Nat) : Lw c s s := fun k => Lk.refl c k s
theorem Lw.symm {c : Ch} {s t : Nat} (h : Lw c s t) : Lw c t s := fun k => (h k).symm
theorem Lw.trans {c : Ch} {s t u : Nat} (h : Lw c s t) (g : Lw c t u) : Lw c s u := fun k => (h k).trans (g k)
theorem Lw.keys {c : Ch} {s t : Nat} (h : Lw c s t) : keysR (rowC c s) = keysR (rowC c t) := (h 1).1
theorem Lw.goal {c : Ch} {s t a b : Nat} {z : Str} (h : Lw c s t) (h1 : lkp (rowC c s) z = some a) (h2 : lkp (rowC c t) z = some b) : Lw c a b := fun k => (h (k + 1)).2 z a b h1 h2
theorem lkp_lt {c : Ch} (w : WfC c) {s a : Nat} {z : Str} (h : lkp (rowC c s) z = some a) : a < c.length := rowC_lt w (lkp_mem h)
theorem stable {c : Ch} (w : WfC c) {r : Nat} (h : ∀ s t, s < c.length → t < c.length → Lk c r s t → Lk c (r + 1) s t) {s t : Nat} (hs : s < c.length) (ht : t < c.length) (l : Lk c r s t) : Lw c s t := by
  have S : ∀ j s t, s < c.length → t < c.length → Lk c (r + j) s t → Lk c (r + j + 1) s t := by
    intro j
    induction j with
    | zero => exact h
    | succ j ih =>
      intro s t hs ht ⟨l1, l2⟩
      exact ⟨l1, fun z a b h1 h2 => ih a b (lkp_lt w h1) (lkp_lt w h2) (l2 z a b h1 h2)⟩
  have up : ∀ j, Lk c (r + j) s t := by
    intro j
    induction j with
    | zero => exact l
    | succ j ih => exact S j s t hs ht ih
  intro k
  by_cases q : k ≤ r
  · obtain ⟨j, rfl⟩ := Nat.le.dest q
    exact l.mono j
  · have := up (k - r)
    rwa [show r + (k - r) = k by omega] at this
/-! ### numbers for marks -/
section
variable {α : Type} [DecidableEq α]
def addM (o : List α) (m : α) : List α := if m ∈ o then o else o ++ [m]
def nubsO (o ms : List α) : List α := ms.foldl addM o
def nubs (ms : List α) : List α := nubsO [] ms
def ixM (o : List α) (x : α) : Nat := o.idxOf x
def numF (ms : List α) : List Nat := ms.map fun m => ixM (nubs ms) m
theorem mem_addM {o : List α} {m x : α} : x ∈ addM o m ↔ x ∈ o ∨ x = m := by
  unfold addM
  split
  · exact ⟨.inl, fun h => h.elim id fun e => e ▸ (by assumption)⟩
  · simp
theorem mem_nubsO {x : α} : ∀ {ms o : List α}, x ∈ nubsO o ms ↔ x ∈ o ∨ x ∈ ms
  | [], o => by show x ∈ o ↔ _; simp
  | m :: ms, o => by
    show x ∈ nubsO (addM o m) ms ↔ _
    rw [mem_nubsO, mem_addM, List.mem_cons, or_assoc]
theorem nd_addM {o : List α} (m : α) (h : o.Nodup) : (addM o m).Nodup := by
  unfold addM
  split
  · exact h
  · rename_i k
    rw [List.nodup_append]
    exact ⟨h, by simp, fun a ha b hb => by rw [List.mem_singleton.mp hb]; exact fun z => k (z ▸ ha)⟩
theorem nd_nubsO : ∀ {ms o : List α}, o.Nodup → (nubsO o ms).Nodup
  | [], _, h => h
  | m :: ms, _, h => nd_nubsO (ms := ms) (nd_addM m h)
theorem addM_pre (o : List α) (m : α) : ∃ t, addM o m = o ++ t := by
  unfold addM
  split
  · exact ⟨[], (List.append_nil o).symm⟩
  · exact ⟨[m], rfl⟩
theorem nubsO_pre : ∀ (ms o : List α), ∃ t, nubsO o ms = o ++ t
  | [], o => ⟨[], (List.append_nil o).symm⟩
  | m :: ms, o => by
    obtain ⟨t, h⟩ := addM_pre o m
    obtain ⟨t', h'⟩ := nubsO_pre ms (addM o m)
    exact ⟨t ++ t', by show nubsO (addM o m) ms = _; rw [h', h, List.append_assoc]⟩
theorem nubsO_app (o as bs : List α) : nubsO o (as ++ bs) = nubsO (nubsO o as) bs := List.foldl_append
theorem mem_nubs {ms : List α} {x : α} : x ∈ nubs ms ↔ x ∈ ms := by
  unfold nubs
  rw [mem_nubsO]
  simp
theorem nd_nubs (ms : List α) : (nubs ms).Nodup := nd_nubsO List.nodup_nil
theorem idx_pre {o t : List α} {x : α} (h : x ∈ o) : ixM (o ++ t) x = ixM o x := by
  unfold ixM
  induction o with
  | nil => cases h
  | cons y o ih =>
    rw [List.cons_append, List.idxOf_cons, List.idxOf_cons]
    by_cases e : y = x
    · rw [e]; simp
    · rw [show (y == x) = false from beq_eq_false_iff_ne.mpr e]
      simp only [cond_false]
      rw [ih ((List.mem_cons.mp h).resolve_left fun z => e z.symm)]
theorem idx_inj {o : List α} {x y : α} (hx : x ∈ o) (hy : y ∈ o) (h : ixM o x = ixM o y) : x = y := by
  unfold ixM at h
  have h1 := List.getElem_idxOf (List.idxOf_lt_length_of_mem hx)
  have h2 := List.getElem_idxOf (List.idxOf_lt_length_of_mem hy)
  rw [← h1, ← h2]
  congr 1
theorem numF_len (ms : List α) : (numF ms).length = ms.length := List.length_map ..
theorem numF_at {ms : List α} {i : Nat} {m : α} (h : ms[i]? = some m) : (numF ms).getD i 0 = ixM (nubs ms) m := by
  unfold numF
  rw [List.getD_eq_getElem?_getD, List.getElem?_map, h]; rfl
theorem numF_eq {ms : List α} {i j : Nat} {m m' : α} (h : ms[i]? = some m) (h' : ms[j]? = some m') : (numF ms).getD i 0 = (numF ms).getD j 0 ↔ m = m' := by
  rw [numF_at h, numF_at h']
  exact ⟨fun e => idx_inj (mem_nubs.mpr (List.mem_of_getElem? h)) (mem_nubs.mpr (List.mem_of_getElem? h')) e, fun e => by rw [e]⟩
theorem numF_lt {ms : List α} {x : Nat} (h : x ∈ numF ms) : x < (nubs ms).length := by
  obtain ⟨m, hm, rfl⟩ := List.mem_map.mp h
  exact List.idxOf_lt_length_of_mem (mem_nubs.mpr hm)
theorem numF_all {ms : List α} {v : Nat} (h : v < (nubs ms).length) : v ∈ numF ms := by
  refine List.mem_map.mpr ⟨(nubs ms)[v], mem_nubs.mp (List.getElem_mem h), ?_⟩
  have hm := List.getElem_mem h
  have e := List.getElem_idxOf (List.idxOf_lt_length_of_mem hm)
  exact (List.getElem_inj (h₀ := List.idxOf_lt_length_of_mem hm) (h₁ := h) (nd_nubs ms)).mp e
end
/-! ### the signs -/
def sgs : List Str := [PySem.Str.ofString "a", PySem.Str.ofString "b", PySem.Str.ofString "c", PySem.Str.ofString "d"]
theorem sgs_nd : sgs.Nodup := by decide +kernel
/-- a row of w signs, in order -/
def okR (w : Nat) (r : List (Str × Nat)) : Prop := keysR r = (sgs.take w).filter fun z => decide (z ∈ keysR r)
def okT (w : Nat) (c : Ch) : Prop := ∀ r ∈ c, okR w r ∧ True
theorem okR_nd {w : Nat} {r : List (Str × Nat)} (h : okR w r) : (keysR r).Nodup := by
  rw [show keysR r = (sgs.take w).filter _ from h]
  exact (sgs_nd.sublist (List.take_sublist w sgs)).filter _
theorem okR_in {w : Nat} {r : List (Str × Nat)} (h : okR w r) {z : Str} (hz : z ∈ keysR r) : z ∈ sgs.take w := by
  rw [show keysR r = (sgs.take w).filter _ from h] at hz
  exact (List.mem_filter.mp hz).1
theorem okR_eq {w : Nat} {r r' : List (Str × Nat)} (h : okR w r) (h' : okR w r') (e : ∀ z ∈ sgs, (lkp r z).isSome = (lkp r' z).isSome) : keysR r = keysR r' := by
  have key : ∀ z ∈ sgs.take w, decide (z ∈ keysR r) = decide (z ∈ keysR r') := fun z hz => by
    have := e z (List.mem_of_mem_take hz)
    refine decide_eq_decide.mpr ⟨fun q => ?_, fun q => ?_⟩
    · obtain ⟨a, ha⟩ := lkp_has q
      rw [ha] at this
      cases k : lkp r' z with
      | none => rw [k] at this; cases this
      | some b => exact lkp_keys k
    · obtain ⟨a, ha⟩ := lkp_has q
      rw [ha] at this
      cases k : lkp r z with
      | none => rw [k] at this; cases this
      | some b => exact lkp_keys k
  rw [show keysR r = (sgs.take w).filter _ from h, show keysR r' = (sgs.take w).filter _ from h']
  exact List.filter_congr key
def rowOk {w : Nat} {c : Ch} (k : okT w c) {s : Nat} (h : s < c.length) : okR w (rowC c s) ∧ True := by
  refine k _ ?_
  unfold rowC
  rw [List.getD_eq_getElem?_getD, List.getElem?_eq_getElem h]
  exact List.getElem_mem h
/-- the mark of a state, from the kinds so far -/
def knO (ks : List Nat) : Option Nat → Int
  | some g => (ks.getD g 0 : Nat)
  | none => -1
def mk (ks : List Nat) (r : List (Str × Nat)) : List Int := sgs.map fun z => knO ks (lkp r z)
def kindsF (c : Ch) : Nat → List Nat
  | 0 => List.replicate c.length 0
  | r + 1 => numF (c.map (mk (kindsF c r)))
structure Kd (c : Ch) (r : Nat) (ks : List Nat) (m : Nat) : Prop where
  len : ks.length = c.length
  eq : ∀ s t, s < c.length → t < c.length → (ks.getD s 0 = ks.getD t 0 ↔ Lk c r s t)
  lt : ∀ x ∈ ks, x < m
  all : ∀ v, v < m → v ∈ ks
theorem row_get {c : Ch} {s : Nat} (h : s < c.length) : c[s]? = some (rowC c s) := by
  unfold rowC
  rw [List.getD_eq_getElem?_getD, List.getElem?_eq_getElem h]; rfl
theorem knO_eq {c : Ch} {r m : Nat} {ks : List Nat} (K : Kd c r ks m) {x y : Option Nat} (hx : ∀ a, x = some a → a < c.length) (hy : ∀ a, y = some a → a < c.length) :
    knO ks x = knO ks y ↔ (x = none ∧ y = none) ∨ ∃ a b, x = some a ∧ y = some b ∧ Lk c r a b := by
  cases x with
  | none => cases y with
    | none => simp [knO]
    | some b =>
      simp [knO]
  | some a => cases y with
    | none => simp [knO]
    | some b =>
      have := K.eq a b (hx a rfl) (hy b rfl)
      constructor
      · intro h
        refine .inr ⟨a, b, rfl, rfl, this.mp ?_⟩
        have h : ((ks.getD a 0 : Nat) : Int) = (ks.getD b 0 : Nat) := h
        omega
      · rintro (⟨h, _⟩ | ⟨a', b', h1, h2, h3⟩)
        · cases h
        · cases h1
          cases h2
          show ((ks.getD a 0 : Nat) : Int) = (ks.getD b 0 : Nat)
          rw [this.mpr h3]
theorem mk_eq {c : Ch} {w r m : Nat} {ks : List Nat} (wf : WfC c) (ok : okT w c) (K : Kd c r ks m) {s t : Nat} (hs : s < c.length) (ht : t < c.length) : mk ks (rowC c s) = mk ks (rowC c t) ↔ Lk c (r + 1) s t := by
  have e1 : mk ks (rowC c s) = mk ks (rowC c t) ↔ ∀ z ∈ sgs, knO ks (lkp (rowC c s) z) = knO ks (lkp (rowC c t) z) := by
    unfold mk
    constructor
    · intro h z hz
      exact List.map_inj_left.mp h z hz
    · intro h
      exact List.map_congr_left h
  have lt : ∀ {u z a}, lkp (rowC c u) z = some a → a < c.length := fun h => lkp_lt wf h
  rw [e1]
  constructor
  · intro h
    have h' : ∀ z ∈ sgs, _ := fun z hz => (knO_eq K (fun a e => lt e) (fun a e => lt e)).mp (h z hz)
    refine ⟨okR_eq (rowOk ok hs).1 (rowOk ok ht).1 fun z hz => ?_, fun z a b h1 h2 => ?_⟩
    · rcases h' z hz with ⟨p, q⟩ | ⟨a, b, p, q, _⟩ <;> rw [p, q] <;> rfl
    · have hz := List.mem_of_mem_take (okR_in (rowOk ok hs).1 (lkp_keys h1))
      rcases h' z hz with ⟨p, q⟩ | ⟨a', b', p, q, l⟩
      · rw [p] at h1; cases h1
      · rw [p] at h1; rw [q] at h2
        cases h1; cases h2
        exact l
  · rintro ⟨h, g⟩ z hz
    refine (knO_eq K (fun a e => lt e) (fun a e => lt e)).mpr ?_
    cases e : lkp (rowC c s) z with
    | none =>
      refine .inl ⟨rfl, lkp_none fun q => ?_⟩
      obtain ⟨a, ha⟩ := lkp_has (h ▸ q : z ∈ keysR (rowC c s))
      rw [ha] at e; cases e
    | some a =>
      obtain ⟨b, hb⟩ := lkp_has (h ▸ lkp_keys e : z ∈ keysR (rowC c t))
      exact .inr ⟨a, b, rfl, hb, g z a b e hb⟩
theorem kd_next {c : Ch} {w r m : Nat} {ks : List Nat} (wf : WfC c) (ok : okT w c) (K : Kd c r ks m) : Kd c (r + 1) (numF (c.map (mk ks))) (nubs (c.map (mk ks))).length := by
  refine ⟨by rw [numF_len, List.length_map], fun s t hs ht => ?_, fun x hx => numF_lt hx, fun v hv => numF_all hv⟩
  rw [numF_eq (m := mk ks (rowC c s)) (m' := mk ks (rowC c t)) (by rw [List.getElem?_map, row_get hs]; rfl) (by rw [List.getElem?_map, row_get ht]; rfl)]
  exact mk_eq wf ok K hs ht
theorem kd_zero {c : Ch} (wf : WfC c) : Kd c 0 (kindsF c 0) 1 := by
  refine ⟨List.length_replicate .., fun s t hs ht => ⟨fun _ => True.intro, fun _ => ?_⟩, fun x hx => ?_, fun v hv => ?_⟩
  · show (List.replicate c.length 0).getD s 0 = (List.replicate c.length 0).getD t 0
    rw [List.getD_eq_getElem?_getD, List.getD_eq_getElem?_getD, List.getElem?_replicate, List.getElem?_replicate, if_pos hs, if_pos ht]
  · rw [(List.mem_replicate.mp hx).2]; omega
  · have : v = 0 := by omega
    subst this
    exact List.mem_replicate.mpr ⟨by have := wf.1; omega, rfl⟩
theorem kd_all {c : Ch} {w : Nat} (wf : WfC c) (ok : okT w c) : ∀ r, ∃ m, Kd c r (kindsF c r) m
  | 0 => ⟨1, kd_zero wf⟩
  | r + 1 => let ⟨_, K⟩ := kd_all wf ok r; ⟨_, kd_next wf ok K⟩
theorem getD_in {l : List Nat} {i : Nat} (h : i < l.length) : l.getD i 0 ∈ l := by
  rw [List.getD_eq_getElem?_getD, List.getElem?_eq_getElem h]
  exact List.getElem_mem h
/-- finer kinds are no fewer; if they are as many, nothing was parted -/
theorem kd_more {c : Ch} {r m m' : Nat} {ks ks' : List Nat} (K : Kd c r ks m) (K' : Kd c (r + 1) ks' m') : m ≤ m' ∧ m' ≤ c.length ∧ (m = m' → ∀ s t, s < c.length → t < c.length → Lk c r s t → Lk c (r + 1) s t) := by
  have at_ : ∀ {l : List Nat} {v : Nat}, v ∈ l → ∃ i, i < l.length ∧ l.getD i 0 = v := fun {l v} h => by
    obtain ⟨i, hi, e⟩ := List.mem_iff_getElem.mp h
    exact ⟨i, hi, by rw [List.getD_eq_getElem?_getD, List.getElem?_eq_getElem hi]; exact e⟩
  have rho : ∀ v, ∃ i, v < m → i < c.length ∧ ks.getD i 0 = v := fun v => by
    by_cases h : v < m
    · obtain ⟨i, hi, e⟩ := at_ (K.all v h)
      exact ⟨i, fun _ => ⟨by rw [← K.len]; exact hi, e⟩⟩
    · exact ⟨0, fun z => absurd z h⟩
  let ρ := fun v => (rho v).choose
  have hρ : ∀ v, v < m → ρ v < c.length ∧ ks.getD (ρ v) 0 = v := fun v => (rho v).choose_spec
  have nd : ((List.range m).map fun v => ks'.getD (ρ v) 0).Nodup := by
    refine List.pairwise_map.mpr (List.Pairwise.imp_of_mem (fun {a b} ha hb hne e => hne ?_) List.nodup_range)
    have h1 := hρ a (List.mem_range.mp ha)
    have h2 := hρ b (List.mem_range.mp hb)
    have l := (K'.eq _ _ h1.1 h2.1).mp e
    have := (K.eq _ _ h1.1 h2.1).mpr l.less
    rw [h1.2, h2.2] at this
    exact this
  have lt' : ∀ x ∈ ((List.range m).map fun v => ks'.getD (ρ v) 0), x < m' := fun x hx => by
    obtain ⟨v, hv, rfl⟩ := List.mem_map.mp hx
    exact K'.lt _ (getD_in (by rw [K'.len]; exact (hρ v (List.mem_range.mp hv)).1))
  have le := nodup_len nd lt'
  rw [List.length_map, List.length_range] at le
  refine ⟨le, ?_, fun e s t hs ht l => ?_⟩
  · have rho' : ∀ v, ∃ i, v < m' → i < c.length ∧ ks'.getD i 0 = v := fun v => by
      by_cases h : v < m'
      · obtain ⟨i, hi, e⟩ := at_ (K'.all v h)
        exact ⟨i, fun _ => ⟨by rw [← K'.len]; exact hi, e⟩⟩
      · exact ⟨0, fun z => absurd z h⟩
    have nd2 : ((List.range m').map fun v => (rho' v).choose).Nodup := by
      refine List.pairwise_map.mpr (List.Pairwise.imp_of_mem (fun {a b} ha hb hne e => hne ?_) List.nodup_range)
      have h1 := (rho' a).choose_spec (List.mem_range.mp ha)
      have h2 := (rho' b).choose_spec (List.mem_range.mp hb)
      rw [← h1.2, ← h2.2, e]
    have := nodup_len nd2 (n := c.length) fun x hx => by
      obtain ⟨v, hv, rfl⟩ := List.mem_map.mp hx
      exact ((rho' v).choose_spec (List.mem_range.mp hv)).1
    rwa [List.length_map, List.length_range] at this
  · subst e
    have full : ∀ x, x < m → x ∈ ((List.range m).map fun v => ks'.getD (ρ v) 0) := fun x hx => by
      refine Classical.byContradiction fun q => ?_
      have := nodup_len (List.nodup_cons.mpr ⟨q, nd⟩) (n := m) fun y hy => by
        rcases List.mem_cons.mp hy with rfl | hy
        · exact hx
        · exact lt' y hy
      rw [List.length_cons, List.length_map, List.length_range] at this
      omega
    have one : ∀ u, u < c.length → ks'.getD u 0 = ks'.getD (ρ (ks.getD u 0)) 0 := fun u hu => by
      obtain ⟨v, hv, e⟩ := List.mem_map.mp (full _ (K'.lt _ (getD_in (by rw [K'.len]; exact hu))))
      have hv := List.mem_range.mp hv
      have h1 := hρ v hv
      have l := (K'.eq _ _ h1.1 hu).mp e
      have := (K.eq _ _ h1.1 hu).mpr l.less
      rw [h1.2] at this
      rw [← this]
      exact e.symm
    refine (K'.eq s t hs ht).mp ?_
    rw [one s hs, one t ht, (K.eq s t hs ht).mpr l]
/-- as deep as there are states is deep enough -/
theorem deep {c : Ch} {w : Nat} (wf : WfC c) (ok : okT w c) {s t : Nat} (hs : s < c.length) (ht : t < c.length) (h : Lk c c.length s t) : Lw c s t := by
  refine Classical.byContradiction fun no => ?_
  have un : ∀ r, r ≤ c.length → ¬ ∀ s t, s < c.length → t < c.length → Lk c r s t → Lk c (r + 1) s t := fun r hr z => by
    refine no (stable wf z hs ht ?_)
    obtain ⟨j, hj⟩ := Nat.le.dest hr
    rw [← hj] at h
    exact h.mono j
  have grow : ∀ r, r ≤ c.length → ∃ m, Kd c r (kindsF c r) m ∧ r + 1 ≤ m := by
    intro r
    induction r with
    | zero => exact fun _ => ⟨1, kd_zero wf, Nat.le_refl _⟩
    | succ r ih =>
      intro hr
      obtain ⟨m, K, hm⟩ := ih (by omega)
      have K' := kd_next wf ok K
      obtain ⟨a, b, d⟩ := kd_more K K'
      refine ⟨_, K', ?_⟩
      have : m ≠ (nubs (c.map (mk (kindsF c r)))).length := fun e => un r (by omega) (d e)
      omega
  obtain ⟨m, K, hm⟩ := grow c.length (Nat.le_refl _)
  have K' := kd_next wf ok K
  obtain ⟨a, b, _⟩ := kd_more K K'
  omega
/-! ### a state for each kind -/
open Classical in
noncomputable def rep (c : Ch) (s : Nat) : Nat := ((List.range c.length).find? fun t => decide (Lw c s t)).getD 0
open Classical in
theorem rep_ok {c : Ch} {s : Nat} (h : s < c.length) : rep c s < c.length ∧ Lw c s (rep c s) ∧ ∀ t, t < rep c s → ¬ Lw c s t := by
  unfold rep
  cases e : (List.range c.length).find? fun t => decide (Lw c s t) with
  | none =>
    have := List.find?_eq_none.mp e s (List.mem_range.mpr h)
    exact absurd (Lw.refl c s) (by simpa using this)
  | some t =>
    have h1 := List.find?_some e
    have h2 := List.mem_of_find?_eq_some e
    refine ⟨List.mem_range.mp h2, by simpa using h1, fun u hu l => ?_⟩
    obtain ⟨_, as, bs, e1, e2⟩ := List.find?_eq_some_iff_append.mp e
    have hu : u < t := hu
    have : u ∈ as := by
      have hm : u ∈ List.range c.length := List.mem_range.mpr (by have := List.mem_range.mp h2; omega)
      rw [e1] at hm
      rcases List.mem_append.mp hm with q | q
      · exact q
      · exfalso
        have pw : (as ++ t :: bs).Pairwise (· < ·) := e1 ▸ List.pairwise_lt_range
        rcases List.mem_cons.mp q with q | q
        · omega
        · have := (List.pairwise_cons.mp (List.pairwise_append.mp pw).2.1).1 u q
          omega
    have := e2 u this
    simp at this
    exact this l
theorem rep_eq {c : Ch} {s t : Nat} (hs : s < c.length) (ht : t < c.length) : rep c s = rep c t ↔ Lw c s t := by
  obtain ⟨a1, a2, a3⟩ := rep_ok hs
  obtain ⟨b1, b2, b3⟩ := rep_ok ht
  constructor
  · intro e
    rw [e] at a2
    exact a2.trans b2.symm
  · intro l
    rcases Nat.lt_trichotomy (rep c s) (rep c t) with q | q | q
    · exact absurd (l.symm.trans a2) (b3 _ q)
    · exact q
    · exact absurd (l.trans b2) (a3 _ q)
theorem rep_rep {c : Ch} {s : Nat} (hs : s < c.length) : rep c (rep c s) = rep c s := (rep_eq (rep_ok hs).1 hs).mpr (rep_ok hs).2.1.symm
theorem rep_zero {c : Ch} (h : 0 < c.length) : rep c 0 = 0 := by
  have := (rep_ok h).2.2 0
  by_cases q : rep c 0 = 0
  · exact q
  · exact absurd (Lw.refl c 0) (this (by omega))
noncomputable def quoR (c : Ch) (r : List (Str × Nat)) : List (Str × Nat) := r.map fun e => (e.1, rep c e.2)
noncomputable def quo (c : Ch) : Ch := c.map (quoR c)
noncomputable def chart (c : Ch) : Ch := keptF (quo c)
theorem quo_row {c : Ch} {s : Nat} (h : s < c.length) : rowC (quo c) s = quoR c (rowC c s) := by
  unfold rowC quo
  rw [List.getD_eq_getElem?_getD, List.getD_eq_getElem?_getD, List.getElem?_map, List.getElem?_eq_getElem h]; rfl
theorem quo_wf {c : Ch} (w : WfC c) : WfC (quo c) := by
  refine ⟨by unfold quo; rw [List.length_map]; exact w.1, fun r hr e he => ?_⟩
  obtain ⟨r', hr', rfl⟩ := List.mem_map.mp hr
  obtain ⟨e', he', rfl⟩ := List.mem_map.mp he
  unfold quo
  rw [List.length_map]
  exact (rep_ok (w.2 r' hr' e' he')).1
theorem quoR_keys (c : Ch) (r : List (Str × Nat)) : keysR (quoR c r) = keysR r := by
  unfold keysR quoR
  rw [List.map_map]; rfl
theorem lkp_quo (c : Ch) (z : Str) : ∀ r : List (Str × Nat), lkp (quoR c r) z = (lkp r z).map (rep c)
  | [] => rfl
  | e :: r => by
    show lkp ((e.1, rep c e.2) :: quoR c r) z = _
    rw [lkp_cons, lkp_cons, lkp_quo c z r]
    by_cases h : e.1 = z
    · rw [if_pos h, if_pos h]; rfl
    · rw [if_neg h, if_neg h]
theorem row_ext {r r' : List (Str × Nat)} (nd : (keysR r).Nodup) (h : keysR r = keysR r') (g : ∀ z ∈ keysR r, lkp r z = lkp r' z) : r = r' := by
  have nd' : (keysR r').Nodup := h ▸ nd
  have l : r.length = r'.length := by
    have := congrArg List.length h
    unfold keysR at this
    rwa [List.length_map, List.length_map] at this
  refine List.ext_getElem l fun i h1 h2 => ?_
  have k : r[i].1 = r'[i].1 := by
    have := List.getElem_of_eq h (i := i) (by unfold keysR; rw [List.length_map]; exact h1)
    unfold keysR at this
    rwa [List.getElem_map, List.getElem_map] at this
  have e1 := lkp_at nd (List.getElem_mem h1)
  have e2 := lkp_at nd' (List.getElem_mem h2)
  have := g r[i].1 (List.mem_map_of_mem (f := (·.1)) (List.getElem_mem h1))
  rw [e1, k, e2] at this
  exact Prod.ext k (Option.some.inj this)
/-- like states have one row of the quotient -/
theorem quo_like {c : Ch} {w s t : Nat} (wf : WfC c) (ok : okT w c) (hs : s < c.length) (ht : t < c.length) (l : Lw c s t) : quoR c (rowC c s) = quoR c (rowC c t) := by
  refine row_ext (by rw [quoR_keys]; exact okR_nd (rowOk ok hs).1) (by rw [quoR_keys, quoR_keys]; exact l.keys) fun z hz => ?_
  rw [quoR_keys] at hz
  obtain ⟨a, ha⟩ := lkp_has hz
  obtain ⟨b, hb⟩ := lkp_has (l.keys ▸ hz)
  rw [lkp_quo, lkp_quo, ha, hb]
  show some (rep c a) = some (rep c b)
  rw [(rep_eq (lkp_lt wf ha) (lkp_lt wf hb)).mpr (l.goal ha hb)]
end K88
end

section
/-! the walk of the program, the chart of a chart, counts -/
namespace K88
open PySem
noncomputable def addP (c : Ch) (o : List Nat) (g : Nat) : List Nat := open Classical in if rep c g ∈ o.map (rep c) then o else o ++ [g]
noncomputable def addPs (c : Ch) (o : List Nat) (r : List (Str × Nat)) : List Nat := r.foldl (fun o e => addP c o e.2) o
theorem addP_map (c : Ch) (o : List Nat) (g : Nat) : (addP c o g).map (rep c) = addN (o.map (rep c)) (rep c g) := by
  unfold addP addN
  by_cases h : rep c g ∈ o.map (rep c)
  · rw [if_pos h, if_pos h]
  · rw [if_neg h, if_neg h, List.map_append]; rfl
theorem addPs_map (c : Ch) : ∀ (r : List (Str × Nat)) (o : List Nat), (addPs c o r).map (rep c) = addAll (o.map (rep c)) (quoR c r)
  | [], o => rfl
  | e :: r, o => by
    show (addPs c (addP c o e.2) r).map (rep c) = addAll (addN (o.map (rep c)) (rep c e.2)) (quoR c r)
    rw [addPs_map c r, addP_map]
theorem addP_lt {c : Ch} {o : List Nat} {g : Nat} (ho : ∀ x ∈ o, x < c.length) (hg : g < c.length) : ∀ x ∈ addP c o g, x < c.length := fun x hx => by
  unfold addP at hx
  split at hx
  · exact ho x hx
  · rcases List.mem_append.mp hx with h | h
    · exact ho x h
    · rw [List.mem_singleton.mp h]; exact hg
/-! ### the chart -/
theorem chart_len (c : Ch) : (chart c).length = (reached (quo c)).length := keptF_length _
theorem quo_len (c : Ch) : (quo c).length = c.length := List.length_map ..
theorem chart_wf {c : Ch} (w : WfC c) : WfC (chart c) := keptF_wf (quo_wf w)
theorem reached_lt {c : Ch} (w : WfC c) {x : Nat} (h : x ∈ reached (quo c)) : x < c.length := by
  have := (reached_ok (quo_wf w)).2.1 x h
  rwa [quo_len] at this
/-- what stands in the walk are first ones of their kinds -/
theorem reached_rep {c : Ch} (w : WfC c) : ∀ x ∈ reached (quo c), rep c x = x := by
  have key : ∀ (f a : Nat) (o : List Nat), (∀ x ∈ o, rep c x = x ∧ x < c.length) → ∀ x ∈ goR (quo c) f a o, rep c x = x ∧ x < c.length := by
    intro f
    induction f with
    | zero => exact fun a o h => h
    | succ f ih =>
      intro a o h
      unfold goR
      cases e : o[a]? with
      | none => exact h
      | some i =>
        refine ih (a + 1) _ fun x hx => ?_
        rcases mem_addAll.mp hx with q | ⟨e', he, rfl⟩
        · exact h x q
        · have hi := (h i (List.mem_of_getElem? e)).2
          rw [quo_row hi] at he
          obtain ⟨e2, h2, rfl⟩ := List.mem_map.mp he
          have l := rowC_lt w h2
          exact ⟨rep_rep l, (rep_ok l).1⟩
  intro x hx
  exact (key _ _ _ (fun x hx => by rw [List.mem_singleton.mp hx]; exact ⟨rep_zero w.1, w.1⟩) x hx).1
theorem chart_row {c : Ch} (w : WfC c) {k : Nat} (h : k < (chart c).length) : ∃ i, (reached (quo c))[k]? = some i ∧ i < c.length ∧ rowC (chart c) k = (rowC c i).map fun e => (e.1, (reached (quo c)).idxOf (rep c e.2)) := by
  rw [chart_len] at h
  have hm := List.getElem_mem h
  refine ⟨_, List.getElem?_eq_getElem h, reached_lt w hm, ?_⟩
  show rowC (keptF (quo c)) k = _
  rw [keptF_row h, quo_row (reached_lt w hm)]
  unfold quoR
  rw [List.map_map]; rfl
theorem keys_map {r : List (Str × Nat)} {f : Str × Nat → Nat} : keysR (r.map fun e => (e.1, f e)) = keysR r := by
  unfold keysR
  rw [List.map_map]; rfl
theorem okR_keys {w : Nat} {r r' : List (Str × Nat)} (h : okR w r) (e : keysR r = keysR r') : okR w r' := by
  unfold okR at *
  rw [← e]
  exact h
theorem chart_ok {c : Ch} {w : Nat} (wf : WfC c) (ok : okT w c) : okT w (chart c) := fun r hr => by
  obtain ⟨k, hk, e⟩ := List.mem_iff_getElem.mp hr
  obtain ⟨i, h1, h2, h3⟩ := chart_row wf hk
  have : r = rowC (chart c) k := by
    unfold rowC
    rw [List.getD_eq_getElem?_getD, List.getElem?_eq_getElem hk, ← e]; rfl
  rw [this, h3]
  exact ⟨okR_keys (rowOk ok h2).1 keys_map.symm, trivial⟩
theorem lkp_map (z : Str) (f : Nat → Nat) : ∀ r : List (Str × Nat), lkp (r.map fun e => (e.1, f e.2)) z = (lkp r z).map f
  | [] => rfl
  | e :: r => by
    show lkp ((e.1, f e.2) :: (r.map fun e => (e.1, f e.2))) z = _
    rw [lkp_cons, lkp_cons, lkp_map z f r]
    by_cases h : e.1 = z
    · rw [if_pos h, if_pos h]; rfl
    · rw [if_neg h, if_neg h]
theorem reached_closed {c : Ch} (w : WfC c) {i a : Nat} {z : Str} (h : i ∈ reached (quo c)) (e : lkp (rowC c i) z = some a) : rep c a ∈ reached (quo c) := by
  refine (reached_ok (quo_wf w)).2.2.1 i h (z, rep c a) ?_
  rw [quo_row (reached_lt w h)]
  exact List.mem_map.mpr ⟨(z, a), lkp_mem e, rfl⟩
theorem chart_like {c : Ch} (w : WfC c) {k l : Nat} (hk : k < (chart c).length) (hl : l < (chart c).length) (h : Lw (chart c) k l) : k = l := by
  have key : ∀ (m k l i j : Nat), k < (chart c).length → l < (chart c).length → (reached (quo c))[k]? = some i → (reached (quo c))[l]? = some j → Lk (chart c) m k l → Lk c m i j := by
    intro m
    induction m with
    | zero => exact fun _ _ _ _ _ _ _ _ _ => True.intro
    | succ m ih =>
      rintro k l i j hk hl ei ej ⟨g1, g2⟩
      obtain ⟨i', e1, i1, r1⟩ := chart_row w hk
      obtain ⟨j', e2, j1, r2⟩ := chart_row w hl
      rw [ei] at e1; cases e1
      rw [ej] at e2; cases e2
      rw [r1, r2] at g1 g2
      rw [keys_map (f := fun e => (reached (quo c)).idxOf (rep c e.2)), keys_map (f := fun e => (reached (quo c)).idxOf (rep c e.2))] at g1
      refine ⟨g1, fun z a b ha hb => ?_⟩
      have ma := reached_closed w (List.mem_of_getElem? ei) ha
      have mb := reached_closed w (List.mem_of_getElem? ej) hb
      have la := List.idxOf_lt_length_of_mem ma
      have lb := List.idxOf_lt_length_of_mem mb
      have L := ih _ _ (rep c a) (rep c b) (by rw [chart_len]; exact la) (by rw [chart_len]; exact lb) (by rw [List.getElem?_eq_getElem la, List.getElem_idxOf]) (by rw [List.getElem?_eq_getElem lb, List.getElem_idxOf])
        (g2 z _ _ (by rw [lkp_map z (fun g => (reached (quo c)).idxOf (rep c g)), ha]; rfl) (by rw [lkp_map z (fun g => (reached (quo c)).idxOf (rep c g)), hb]; rfl))
      exact (((rep_ok (lkp_lt w ha)).2.1 m).trans L).trans ((rep_ok (lkp_lt w hb)).2.1 m).symm
  obtain ⟨i, ei, i1, _⟩ := chart_row w hk
  obtain ⟨j, ej, j1, _⟩ := chart_row w hl
  have L : Lw c i j := fun m => key m k l i j hk hl ei ej (h m)
  have e := (rep_eq i1 j1).mpr L
  rw [reached_rep w i (List.mem_of_getElem? ei), reached_rep w j (List.mem_of_getElem? ej)] at e
  subst e
  obtain ⟨a1, a2⟩ := List.getElem?_eq_some_iff.mp ei
  obtain ⟨b1, b2⟩ := List.getElem?_eq_some_iff.mp ej
  exact (List.getElem_inj (h₀ := a1) (h₁ := b1) (reached_ok (quo_wf w)).1).mp (a2.trans b2.symm)
theorem chart_quo {c : Ch} (w : WfC c) : quo (chart c) = chart c := by
  have wc := chart_wf w
  unfold quo
  refine (List.map_congr_left fun r hr => ?_).trans (List.map_id _)
  unfold quoR
  refine (List.map_congr_left fun e he => ?_).trans (List.map_id _)
  have l := wc.2 r hr e he
  have := chart_like w (rep_ok l).1 l (rep_ok l).2.1.symm
  show (e.1, rep (chart c) e.2) = e
  rw [this]
theorem chart_chart {c : Ch} (w : WfC c) : chart (chart c) = chart c := by
  show keptF (quo (chart c)) = _
  rw [chart_quo w]
  exact kept_kept (quo_wf w)
theorem chart_le {c : Ch} (w : WfC c) : (chart c).length ≤ c.length := by
  rw [chart_len]
  exact nodup_len (reached_ok (quo_wf w)).1 fun x hx => reached_lt w hx
/-! ### counts -/
def cnt (c : Ch) : Nat → Nat → Nat
  | 0, _ => 1
  | k + 1, s => ((rowC c s).map fun e => cnt c k e.2).sum
theorem sum_filter (p : Str → Bool) (f : Str → Nat) : ∀ l : List Str, ((l.filter p).map f).sum = (l.map fun z => if p z = true then f z else 0).sum
  | [] => rfl
  | z :: l => by
    rw [List.filter_cons, List.map_cons, List.sum_cons, ← sum_filter p f l]
    by_cases h : p z = true
    · rw [if_pos h, if_pos h, List.map_cons, List.sum_cons]
    · rw [if_neg h, if_neg h, Nat.zero_add]
def atO (f : Nat → Nat) : Option Nat → Nat
  | some g => f g
  | none => 0
theorem sum_row {w : Nat} {r : List (Str × Nat)} (ok : okR w r) (f : Nat → Nat) : ((sgs.take w).map fun z => atO f (lkp r z)).sum = (r.map fun e => f e.2).sum := by
  have e1 : (r.map fun e => f e.2) = (keysR r).map fun z => atO f (lkp r z) := by
    unfold keysR
    rw [List.map_map]
    refine List.map_congr_left fun e he => ?_
    show f e.2 = atO f (lkp r e.1)
    rw [lkp_at (okR_nd ok) he]; rfl
  rw [e1, show keysR r = (sgs.take w).filter _ from ok, sum_filter]
  congr 1
  refine List.map_congr_left fun z hz => ?_
  by_cases h : z ∈ keysR r
  · rw [decide_eq_true h, if_pos rfl]
  · rw [decide_eq_false h, lkp_none h]; rfl
theorem cnt_le (c : Ch) {w : Nat} (wf : WfC c) (ok : okT w c) : ∀ k s, s < c.length → cnt c k s ≤ 4 ^ k
  | 0, _, _ => Nat.le_refl _
  | k + 1, s, hs => by
    have key : ∀ r : List (Str × Nat), (∀ e ∈ r, e.2 < c.length) → (r.map fun e => cnt c k e.2).sum ≤ r.length * 4 ^ k := by
      intro r
      induction r with
      | nil => intro _; simp
      | cons e r ih =>
        intro h
        rw [List.map_cons, List.sum_cons, List.length_cons, Nat.add_mul, Nat.one_mul]
        have := ih fun e' h' => h e' (List.mem_cons_of_mem _ h')
        have := cnt_le c wf ok k e.2 (h e List.mem_cons_self)
        omega
    have h1 := key (rowC c s) fun e he => rowC_lt wf he
    have h2 : (rowC c s).length ≤ 4 := by
      have := congrArg List.length (show keysR (rowC c s) = _ from (rowOk ok hs).1)
      unfold keysR at this
      rw [List.length_map] at this
      rw [this]
      refine Nat.le_trans (List.length_filter_le ..) ?_
      rw [List.length_take]
      exact Nat.le_trans (Nat.min_le_right ..) (Nat.le_refl 4)
    show ((rowC c s).map fun e => cnt c k e.2).sum ≤ _
    rw [Nat.pow_succ, Nat.mul_comm]
    exact Nat.le_trans h1 (Nat.mul_le_mul_right _ h2)
end K88
end

section
/-! the least table from any state -/
namespace K88
open PySem
noncomputable def reachS (c : Ch) (s : Nat) : List Nat := goR (quo c) (c.length + 1) 0 [rep c s]
noncomputable def chartS (c : Ch) (s : Nat) : Ch := (reachS c s).map fun i => (rowC c i).map fun e => (e.1, (reachS c s).idxOf (rep c e.2))
theorem reachS_zero {c : Ch} (w : WfC c) : reachS c 0 = reached (quo c) := by
  unfold reachS reached
  rw [rep_zero w.1, quo_len]
theorem chartS_len (c : Ch) (s : Nat) : (chartS c s).length = (reachS c s).length := List.length_map ..
theorem reachS_ok {c : Ch} (w : WfC c) {s : Nat} (hs : s < c.length) : (reachS c s).Nodup ∧ (∀ x ∈ reachS c s, x < c.length ∧ rep c x = x) ∧ (∀ x ∈ reachS c s, ∀ e ∈ rowC c x, rep c e.2 ∈ reachS c s) ∧ (reachS c s)[0]? = some (rep c s) := by
  have lr := (rep_ok hs).1
  obtain ⟨h1, h2, h3⟩ := goR_done (quo_wf w) (c.length + 1) 0 [rep c s] (by simp) (fun x hx => by rw [List.mem_singleton.mp hx, quo_len]; exact lr) (Nat.zero_le _) (by rw [quo_len]; exact Nat.le_refl _) fun m i hm => absurd hm (Nat.not_lt_zero _)
  obtain ⟨t, ht⟩ := goR_pre (c := quo c) (c.length + 1) 0 [rep c s]
  have key : ∀ (f a : Nat) (o : List Nat), (∀ x ∈ o, x < c.length ∧ rep c x = x) → ∀ x ∈ goR (quo c) f a o, x < c.length ∧ rep c x = x := by
    intro f
    induction f with
    | zero => exact fun a o h => h
    | succ f ih =>
      intro a o h
      unfold goR
      cases e : o[a]? with
      | none => exact h
      | some i =>
        refine ih (a + 1) _ fun x hx => ?_
        rcases mem_addAll.mp hx with q | ⟨e', he, rfl⟩
        · exact h x q
        · have hi := (h i (List.mem_of_getElem? e)).1
          rw [quo_row hi] at he
          obtain ⟨e2, h2, rfl⟩ := List.mem_map.mp he
          have l := rowC_lt w h2
          exact ⟨(rep_ok l).1, rep_rep l⟩
  have k2 := key (c.length + 1) 0 [rep c s] fun x hx => by rw [List.mem_singleton.mp hx]; exact ⟨lr, rep_rep hs⟩
  refine ⟨h1, k2, fun x hx e he => ?_, ?_⟩
  · refine h3 x hx (e.1, rep c e.2) ?_
    rw [quo_row (k2 x hx).1]
    exact List.mem_map.mpr ⟨e, he, rfl⟩
  · show (goR (quo c) (c.length + 1) 0 [rep c s])[0]? = _
    rw [ht]; rfl
theorem chartS_row {c : Ch} {s k : Nat} (h : k < (chartS c s).length) : ∃ i, (reachS c s)[k]? = some i ∧ rowC (chartS c s) k = (rowC c i).map fun e => (e.1, (reachS c s).idxOf (rep c e.2)) := by
  rw [chartS_len] at h
  refine ⟨_, List.getElem?_eq_getElem h, ?_⟩
  unfold rowC chartS
  rw [List.getD_eq_getElem?_getD, List.getElem?_map, List.getElem?_eq_getElem h]; rfl
theorem chartS_wf {c : Ch} (w : WfC c) {s : Nat} (hs : s < c.length) : WfC (chartS c s) := by
  obtain ⟨h1, h2, h3, h4⟩ := reachS_ok w hs
  refine ⟨by rw [chartS_len]; exact (List.getElem?_eq_some_iff.mp h4).1, fun r hr e he => ?_⟩
  rw [chartS_len]
  obtain ⟨i, hi, rfl⟩ := List.mem_map.mp hr
  obtain ⟨e', he', rfl⟩ := List.mem_map.mp he
  exact List.idxOf_lt_length_of_mem (h3 i hi e' he')
theorem chartS_ok {c : Ch} {w : Nat} (wf : WfC c) (ok : okT w c) {s : Nat} (hs : s < c.length) : okT w (chartS c s) := fun r hr => by
  obtain ⟨h1, h2, h3, h4⟩ := reachS_ok wf hs
  obtain ⟨i, hi, rfl⟩ := List.mem_map.mp hr
  have li := (h2 i hi).1
  exact ⟨okR_keys (rowOk ok li).1 (keys_map (f := fun e => (reachS c s).idxOf (rep c e.2))).symm, trivial⟩
theorem chartS_le {c : Ch} (w : WfC c) {s : Nat} (hs : s < c.length) : (chartS c s).length ≤ c.length := by
  rw [chartS_len]
  obtain ⟨h1, h2, _⟩ := reachS_ok w hs
  exact nodup_len h1 fun x hx => (h2 x hx).1
/-- its states and those that they stand for are like -/
theorem chartS_lk {c : Ch} (w : WfC c) {s : Nat} (hs : s < c.length) : ∀ (m k l i j : Nat), k < (chartS c s).length → l < (chartS c s).length → (reachS c s)[k]? = some i → (reachS c s)[l]? = some j → Lk (chartS c s) m k l → Lk c m i j := by
  obtain ⟨r1, r2, r3, r4⟩ := reachS_ok w hs
  intro m
  induction m with
  | zero => exact fun _ _ _ _ _ _ _ _ _ => True.intro
  | succ m ih =>
    rintro k l i j hk hl ei ej ⟨g1, g2⟩
    obtain ⟨i', e1, q1⟩ := chartS_row hk
    obtain ⟨j', e2, q2⟩ := chartS_row hl
    rw [ei] at e1; cases e1
    rw [ej] at e2; cases e2
    rw [q1, q2] at g1 g2
    rw [keys_map (f := fun e => (reachS c s).idxOf (rep c e.2)), keys_map (f := fun e => (reachS c s).idxOf (rep c e.2))] at g1
    refine ⟨g1, fun z a b ha hb => ?_⟩
    have ma := r3 i (List.mem_of_getElem? ei) _ (lkp_mem ha)
    have mb := r3 j (List.mem_of_getElem? ej) _ (lkp_mem hb)
    have la := List.idxOf_lt_length_of_mem ma
    have lb := List.idxOf_lt_length_of_mem mb
    have L := ih _ _ (rep c a) (rep c b) (by rw [chartS_len]; exact la) (by rw [chartS_len]; exact lb) (by rw [List.getElem?_eq_getElem la, List.getElem_idxOf]) (by rw [List.getElem?_eq_getElem lb, List.getElem_idxOf])
      (g2 z _ _ (by rw [lkp_map z (fun g => (reachS c s).idxOf (rep c g)), ha]; rfl) (by rw [lkp_map z (fun g => (reachS c s).idxOf (rep c g)), hb]; rfl))
    exact (((rep_ok (lkp_lt w ha)).2.1 m).trans L).trans ((rep_ok (lkp_lt w hb)).2.1 m).symm
theorem chartS_like {c : Ch} (w : WfC c) {s : Nat} (hs : s < c.length) {k l : Nat} (hk : k < (chartS c s).length) (hl : l < (chartS c s).length) (h : Lw (chartS c s) k l) : k = l := by
  obtain ⟨r1, r2, r3, r4⟩ := reachS_ok w hs
  obtain ⟨i, ei, _⟩ := chartS_row hk
  obtain ⟨j, ej, _⟩ := chartS_row hl
  have L : Lw c i j := fun m => chartS_lk w hs m k l i j hk hl ei ej (h m)
  have hi := r2 i (List.mem_of_getElem? ei)
  have hj := r2 j (List.mem_of_getElem? ej)
  have e := (rep_eq hi.1 hj.1).mpr L
  rw [hi.2, hj.2] at e
  subst e
  obtain ⟨a1, a2⟩ := List.getElem?_eq_some_iff.mp ei
  obtain ⟨b1, b2⟩ := List.getElem?_eq_some_iff.mp ej
  exact (List.getElem_inj (h₀ := a1) (h₁ := b1) r1).mp (a2.trans b2.symm)
theorem chartS_quo {c : Ch} (w : WfC c) {s : Nat} (hs : s < c.length) : quo (chartS c s) = chartS c s := by
  have wc := chartS_wf w hs
  unfold quo
  refine (List.map_congr_left fun r hr => ?_).trans (List.map_id _)
  unfold quoR
  refine (List.map_congr_left fun e he => ?_).trans (List.map_id _)
  have l := wc.2 r hr e he
  have := chartS_like w hs (rep_ok l).1 l (rep_ok l).2.1.symm
  show (e.1, rep (chartS c s) e.2) = e
  rw [this]
/-- g takes the walk of c' to that of c, from wherever -/
theorem goS {c c' : Ch} {g : Nat → Nat} {D : Nat → Prop} (row : ∀ i, D i → rowC c (g i) = (rowC c' i).map fun e => (e.1, g e.2)) (closed : ∀ i, D i → ∀ e ∈ rowC c' i, D e.2) (inj : ∀ x y, D x → D y → g x = g y → x = y) :
    ∀ (f a : Nat) (o : List Nat), (∀ x ∈ o, D x) → goR c f a (o.map g) = (goR c' f a o).map g
  | 0, a, o, h => rfl
  | f + 1, a, o, h => by
    unfold goR
    rw [List.getElem?_map]
    cases e : o[a]? with
    | none => rfl
    | some i =>
      have di := h i (List.mem_of_getElem? e)
      show goR c f (a + 1) (addAll (o.map g) (rowC c (g i))) = _
      rw [row i di, addAll_map inj _ _ h (closed i di)]
      exact goS row closed inj f (a + 1) (addAll o (rowC c' i)) fun x hx => (mem_addAll.mp hx).elim (h x) fun ⟨e, he, z⟩ => z ▸ closed i di e he
theorem idx_range {l : List Nat} (nd : l.Nodup) : l.map (fun x => l.idxOf x) = List.range l.length := by
  refine List.ext_getElem (by simp) fun i h1 h2 => ?_
  rw [List.getElem_map, List.getElem_range]
  rw [List.length_map] at h1
  exact nd.idxOf_getElem i h1
theorem chartS_reached {c : Ch} (w : WfC c) {s : Nat} (hs : s < c.length) : reached (chartS c s) = List.range (chartS c s).length := by
  obtain ⟨r1, r2, r3, r4⟩ := reachS_ok w hs
  have wc := chartS_wf w hs
  have row : ∀ i, i ∈ reachS c s → rowC (chartS c s) ((reachS c s).idxOf i) = (rowC (quo c) i).map fun e => (e.1, (reachS c s).idxOf e.2) := fun i hi => by
    have li := List.idxOf_lt_length_of_mem hi
    obtain ⟨i', e1, e2⟩ := chartS_row (c := c) (s := s) (k := (reachS c s).idxOf i) (by rw [chartS_len]; exact li)
    rw [List.getElem?_eq_getElem li, List.getElem_idxOf] at e1
    cases e1
    rw [e2, quo_row (r2 i hi).1]
    unfold quoR
    rw [List.map_map]; rfl
  have h := goS (c := chartS c s) (c' := quo c) (g := fun x => (reachS c s).idxOf x) (D := fun x => x ∈ reachS c s) row (fun i hi e he => by
      rw [quo_row (r2 i hi).1] at he
      obtain ⟨e', he', rfl⟩ := List.mem_map.mp he
      exact r3 i hi e' he') (fun x y hx hy e => by
      have e : (reachS c s).idxOf x = (reachS c s).idxOf y := e
      have hx' := List.getElem_idxOf (List.idxOf_lt_length_of_mem hx)
      have hy' := List.getElem_idxOf (List.idxOf_lt_length_of_mem hy)
      rw [← hx', ← hy']
      congr 1) (c.length + 1) 0 [rep c s] (fun x hx => by rw [List.mem_singleton.mp hx]; exact List.mem_of_getElem? r4)
  have z0 : (reachS c s).idxOf (rep c s) = 0 := by
    obtain ⟨l0, e0⟩ := List.getElem?_eq_some_iff.mp r4
    rw [← e0]
    exact r1.idxOf_getElem 0 l0
  have h : goR (chartS c s) (c.length + 1) 0 [(reachS c s).idxOf (rep c s)] = (reachS c s).map fun x => (reachS c s).idxOf x := h
  rw [z0, idx_range r1, reached_is wc (by have := chartS_le w hs; omega)] at h
  rw [h, chartS_len]
theorem chart_chartS {c : Ch} (w : WfC c) {s : Nat} (hs : s < c.length) : chart (chartS c s) = chartS c s := by
  have wc := chartS_wf w hs
  show keptF (quo (chartS c s)) = _
  rw [chartS_quo w hs]
  unfold keptF
  rw [chartS_reached w hs]
  refine List.ext_getElem (by simp) fun i h1 h2 => ?_
  rw [List.getElem_map, List.getElem_range]
  have e1 : rowC (chartS c s) i = (chartS c s)[i] := by
    unfold rowC
    rw [List.getD_eq_getElem?_getD, List.getElem?_eq_getElem h2]; rfl
  rw [e1]
  refine (List.map_congr_left fun e he => ?_).trans (List.map_id _)
  have l := wc.2 _ (List.getElem_mem h2) e he
  have : (List.range (chartS c s).length).idxOf e.2 = e.2 := by
    have := (List.nodup_range (n := (chartS c s).length)).idxOf_getElem e.2 (by rw [List.length_range]; exact l)
    rw [List.getElem_range] at this
    exact this
  show (e.1, (List.range (chartS c s).length).idxOf e.2) = e
  rw [this]
theorem chartS_zero {c : Ch} (w : WfC c) : chartS c 0 = chart c := by
  show _ = keptF (quo c)
  unfold chartS keptF
  rw [reachS_zero w]
  refine List.map_congr_left fun i hi => ?_
  rw [quo_row (reached_lt w hi)]
  unfold quoR
  rw [List.map_map]; rfl
end K88
end

section
/-! a chart told by a relation of its states to those of a least one -/
namespace K88
open PySem PySem.Spec PyProof.Rows L2
/-- R leads on: the same keys, and goals that R joins again -/
def Leads (L d : Ch) (R : Nat → Nat → Prop) : Prop := ∀ a b, R a b → keysR (rowC L a) = keysR (rowC d b) ∧ ∀ z a' b', lkp (rowC L a) z = some a' → lkp (rowC d b) z = some b' → R a' b'
theorem lk_via {L d : Ch} {R : Nat → Nat → Prop} (hR : Leads L d R) : ∀ (k : Nat) {a a' x y : Nat}, R a x → R a' y → (Lk L k a a' ↔ Lk d k x y)
  | 0, _, _, _, _, _, _ => ⟨fun _ => True.intro, fun _ => True.intro⟩
  | k + 1, a, a', x, y, r, r' => by
    obtain ⟨k1, g1⟩ := hR _ _ r
    obtain ⟨k2, g2⟩ := hR _ _ r'
    constructor
    · rintro ⟨h1, h2⟩
      refine ⟨by rw [← k1, h1, k2], fun z b b' e e' => ?_⟩
      obtain ⟨α, hα⟩ := lkp_has (z := z) (r := rowC L a) (by rw [k1]; exact lkp_keys e)
      obtain ⟨β, hβ⟩ := lkp_has (z := z) (r := rowC L a') (by rw [k2]; exact lkp_keys e')
      exact (lk_via hR k (g1 z α b hα e) (g2 z β b' hβ e')).mp (h2 z α β hα hβ)
    · rintro ⟨h1, h2⟩
      refine ⟨by rw [k1, h1, k2], fun z b b' e e' => ?_⟩
      obtain ⟨α, hα⟩ := lkp_has (z := z) (r := rowC d x) (by rw [← k1]; exact lkp_keys e)
      obtain ⟨β, hβ⟩ := lkp_has (z := z) (r := rowC d y) (by rw [← k2]; exact lkp_keys e')
      exact (lk_via hR k (g1 z b α e hα) (g2 z b' β e' hβ)).mpr (h2 z α β hα hβ)
theorem lw_via {L d : Ch} {R : Nat → Nat → Prop} (hR : Leads L d R) {a a' x y : Nat} (r : R a x) (r' : R a' y) : Lw L a a' ↔ Lw d x y :=
  ⟨fun h k => (lk_via hR k r r').mp (h k), fun h k => (lk_via hR k r r').mpr (h k)⟩
theorem keptF_id {d : Ch} (wf : WfC d) (rg : reached d = List.range d.length) : keptF d = d := by
  unfold keptF
  rw [rg]
  refine List.ext_getElem (by simp) fun i h1 h2 => ?_
  rw [List.getElem_map, List.getElem_range]
  have e : rowC d i = d[i] := by
    unfold rowC
    rw [List.getD_eq_getElem?_getD, List.getElem?_eq_getElem h2]; rfl
  rw [e]
  have : ∀ e ∈ d[i], (e.1, (List.range d.length).idxOf e.2) = e := fun e he => by
    have lt : e.2 < d.length := wf.2 _ (List.getElem_mem h2) e he
    have q : (List.range d.length).idxOf e.2 = e.2 := by
      have nd : (List.range d.length).Nodup := List.nodup_range
      have := nd.idxOf_getElem e.2 (by rw [List.length_range]; exact lt)
      rw [List.getElem_range] at this
      exact this
    rw [q]
  conv => rhs; rw [← List.map_id d[i]]
  exact List.map_congr_left this
/-- a table that a least one's states tell through R has that chart -/
theorem chart_via {L d : Ch} {R : Nat → Nat → Prop} {q : Nat → Nat} (wL : WfC L) (wd : WfC d) (nL : ∀ i, i < L.length → (keysR (rowC L i)).Nodup) (hR : Leads L d R) (lt : ∀ a b, R a b → a < L.length)
    (q0 : q 0 = 0) (hq : ∀ i, i < d.length → R (q i) i) (mn : ∀ x y, x < d.length → y < d.length → Lw d x y → x = y) (rg : reached d = List.range d.length) : chart L = d := by
  have I : Iso (quo L) d (fun i => rep L (q i)) (· < d.length) := by
    refine ⟨by show rep L (q 0) = 0; rw [q0]; exact rep_zero wL.1, wd.1, fun i hi => ?_, fun i _ e he => rowC_lt wd he, fun x y hx hy e => ?_⟩
    · have hi : i < d.length := hi
      have rq := hq i hi
      have lq := lt _ _ rq
      obtain ⟨r1, r2, _⟩ := rep_ok lq
      show rowC (quo L) (rep L (q i)) = _
      rw [quo_row r1]
      obtain ⟨k1, g1⟩ := hR _ _ rq
      have kr := r2.keys
      have kk : keysR (quoR L (rowC L (rep L (q i)))) = keysR (rowC L (rep L (q i))) := keys_map (f := fun e => rep L e.2)
      refine row_ext ?_ ?_ fun z hz => ?_
      · rw [kk]; exact nL _ r1
      · rw [kk, ← kr, k1]
        exact (keys_map (f := fun e => rep L (q e.2))).symm
      · rw [kk] at hz
        obtain ⟨α, hα⟩ := lkp_has hz
        obtain ⟨β, hβ⟩ := lkp_has (z := z) (r := rowC L (q i)) (by rw [kr]; exact hz)
        obtain ⟨b, hb⟩ := lkp_has (z := z) (r := rowC d i) (by rw [← k1, kr]; exact hz)
        rw [lkp_quo, hα, lkp_map z (fun g => rep L (q g)), hb]
        show some (rep L α) = some (rep L (q b))
        have lb : b < d.length := lkp_lt wd hb
        have h1 : Lw L β α := r2.goal hβ hα
        have h2 : Lw L β (q b) := (lw_via hR (g1 z β b hβ hb) (hq b lb)).mpr (Lw.refl d b)
        rw [(rep_eq (lkp_lt wL hα) (lt _ _ (hq b lb))).mpr (h1.symm.trans h2)]
    · have hx : x < d.length := hx
      have hy : y < d.length := hy
      exact mn x y hx hy ((lw_via hR (hq x hx) (hq y hy)).mp ((rep_eq (lt _ _ (hq x hx)) (lt _ _ (hq y hy))).mp e))
  show keptF (quo L) = d
  rw [I.kept (quo_wf wL) wd, keptF_id wd rg]
end K88
end

section
/-! the living part -/
namespace K88
open PySem
/-- from s one can go k signs on -/
def aliveF (c : Ch) : Nat → Nat → Bool
  | 0, s => decide (s < c.length)
  | k + 1, s => (rowC c s).any fun e => aliveF c k e.2
theorem rowC_out {c : Ch} {s : Nat} (h : c.length ≤ s) : rowC c s = [] := by
  unfold rowC
  rw [List.getD_eq_getElem?_getD, List.getElem?_eq_none h]; rfl
theorem alive_lt {c : Ch} : ∀ {k s : Nat}, aliveF c k s = true → s < c.length
  | 0, s, h => of_decide_eq_true h
  | k + 1, s, h => by
    by_cases l : s < c.length
    · exact l
    · unfold aliveF at h
      rw [rowC_out (by omega)] at h
      cases h
theorem alive_less {c : Ch} : ∀ {k s : Nat}, aliveF c (k + 1) s = true → aliveF c k s = true
  | 0, s, h => decide_eq_true (alive_lt h)
  | k + 1, s, h => by
    unfold aliveF at h ⊢
    obtain ⟨e, he, h⟩ := List.any_eq_true.mp h
    exact List.any_eq_true.mpr ⟨e, he, alive_less h⟩
def Still (c : Ch) (k : Nat) : Prop := ∀ s, aliveF c (k + 1) s = aliveF c k s
theorem Still.next {c : Ch} {k : Nat} (h : Still c k) : Still c (k + 1) := fun s => by
  show ((rowC c s).any fun e => aliveF c (k + 1) e.2) = (rowC c s).any fun e => aliveF c k e.2
  congr 1
  funext e
  exact h e.2
theorem Still.on {c : Ch} {k : Nat} (h : Still c k) : ∀ (j s : Nat), aliveF c (k + j) s = aliveF c k s
  | 0, s => rfl
  | j + 1, s => by
    have hj : ∀ j, Still c (k + j) := fun j => by
      induction j with
      | zero => exact h
      | succ j ih => exact ih.next
    rw [show k + (j + 1) = k + j + 1 by omega, hj j s, h.on j s]
def cntT (c : Ch) (k : Nat) : Nat := ((List.range c.length).filter (aliveF c k)).length
theorem cnt_le_n (c : Ch) (k : Nat) : cntT c k ≤ c.length := by
  unfold cntT
  exact Nat.le_trans (List.length_filter_le ..) (by rw [List.length_range]; exact Nat.le_refl _)
theorem filter_lt {α : Type} {p q : α → Bool} : ∀ {l : List α}, (∀ x ∈ l, p x = true → q x = true) → (∃ x ∈ l, p x = false ∧ q x = true) → (l.filter p).length < (l.filter q).length
  | [], _, ⟨_, h, _⟩ => by cases h
  | x :: l, h, ⟨y, hy, h1, h2⟩ => by
    have le : ∀ {l : List α}, (∀ x ∈ l, p x = true → q x = true) → (l.filter p).length ≤ (l.filter q).length := by
      intro l
      induction l with
      | nil => exact fun _ => Nat.le_refl _
      | cons z l ih =>
        intro h
        have ih := ih fun x hx => h x (List.mem_cons_of_mem _ hx)
        rw [List.filter_cons, List.filter_cons]
        by_cases a : p z = true
        · rw [if_pos a, if_pos (h z List.mem_cons_self a), List.length_cons, List.length_cons]; omega
        · rw [if_neg a]
          split
          · rw [List.length_cons]; omega
          · exact ih
    rw [List.filter_cons, List.filter_cons]
    rcases List.mem_cons.mp hy with rfl | hy
    · rw [if_neg (by rw [h1]; exact Bool.false_ne_true), if_pos h2, List.length_cons]
      have := le fun x hx => h x (List.mem_cons_of_mem _ hx)
      omega
    · have ih := filter_lt (fun x hx => h x (List.mem_cons_of_mem _ hx)) ⟨y, hy, h1, h2⟩
      by_cases a : p x = true
      · rw [if_pos a, if_pos (h x List.mem_cons_self a), List.length_cons, List.length_cons]; omega
      · rw [if_neg a]
        split
        · rw [List.length_cons]; omega
        · exact ih
theorem cnt_less {c : Ch} {k : Nat} (h : ¬ ∀ s, s < c.length → aliveF c (k + 1) s = aliveF c k s) : cntT c (k + 1) < cntT c k := by
  refine filter_lt (fun s _ => alive_less) ?_
  obtain ⟨s, hs⟩ := Classical.not_forall.mp h
  obtain ⟨hl, hs⟩ := Classical.not_imp.mp hs
  refine ⟨s, List.mem_range.mpr hl, ?_⟩
  cases a : aliveF c (k + 1) s with
  | true => exact absurd (a.trans (alive_less a).symm) hs
  | false =>
    refine ⟨rfl, ?_⟩
    cases b : aliveF c k s with
    | true => rfl
    | false => exact absurd (a.trans b.symm) hs
theorem still_of {c : Ch} {k : Nat} (h : ∀ s, s < c.length → aliveF c (k + 1) s = aliveF c k s) : Still c k := fun s => by
  by_cases l : s < c.length
  · exact h s l
  · have z : ∀ k, aliveF c k s = false := fun k => by
      cases a : aliveF c k s with
      | false => rfl
      | true => exact absurd (alive_lt a) l
    rw [z, z]
theorem still_ex (c : Ch) : ∃ k, Still c k := by
  have key : ∀ m k, cntT c k ≤ m → ∃ k, Still c k := by
    intro m
    induction m with
    | zero =>
      intro k h
      by_cases z : ∀ s, s < c.length → aliveF c (k + 1) s = aliveF c k s
      · exact ⟨k, still_of z⟩
      · have := cnt_less z; omega
    | succ m ih =>
      intro k h
      by_cases z : ∀ s, s < c.length → aliveF c (k + 1) s = aliveF c k s
      · exact ⟨k, still_of z⟩
      · exact ih (k + 1) (by have := cnt_less z; omega)
  exact key _ 0 (Nat.le_refl _)
open Classical in
/-- from s one can go on for ever -/
noncomputable def liveB (c : Ch) (s : Nat) : Bool := decide (∀ k, aliveF c k s = true)
open Classical in
theorem Still.live {c : Ch} {k : Nat} (h : Still c k) (s : Nat) : aliveF c k s = liveB c s := by
  unfold liveB
  by_cases a : aliveF c k s = true
  · rw [a]
    refine (decide_eq_true fun j => ?_).symm
    by_cases q : j ≤ k
    · have key : ∀ i, aliveF c (j + i) s = true → aliveF c j s = true := by
        intro i
        induction i with
        | zero => exact fun h => h
        | succ i ih => exact fun h => ih (alive_less h)
      refine key (k - j) ?_
      rw [show j + (k - j) = k by omega]
      exact a
    · have := h.on (j - k) s
      rw [show k + (j - k) = j by omega] at this
      rw [this]
      exact a
  · have a' : aliveF c k s = false := by
      cases b : aliveF c k s with
      | true => exact absurd b a
      | false => rfl
    rw [a']
    exact (decide_eq_false fun q => a (q k)).symm
theorem live_row (c : Ch) (s : Nat) : liveB c s = (rowC c s).any fun e => liveB c e.2 := by
  obtain ⟨k, h⟩ := still_ex c
  rw [← h.live s, ← h s]
  show ((rowC c s).any fun e => aliveF c k e.2) = _
  congr 1
  funext e
  exact h.live e.2
theorem live_lt {c : Ch} {s : Nat} (h : liveB c s = true) : s < c.length := by
  obtain ⟨k, q⟩ := still_ex c
  rw [← q.live s] at h
  exact alive_lt h
/-- what leads on for ever -/
noncomputable def living (c : Ch) : Ch := c.map fun r => r.filter fun e => liveB c e.2
theorem living_len (c : Ch) : (living c).length = c.length := List.length_map ..
theorem living_row (c : Ch) (s : Nat) : rowC (living c) s = (rowC c s).filter fun e => liveB c e.2 := by
  by_cases h : s < c.length
  · unfold living rowC
    rw [List.getD_eq_getElem?_getD, List.getD_eq_getElem?_getD, List.getElem?_map, List.getElem?_eq_getElem h]; rfl
  · rw [rowC_out (by rw [living_len]; omega), rowC_out (by omega)]; rfl
theorem living_wf {c : Ch} (w : WfC c) : WfC (living c) := by
  refine ⟨by rw [living_len]; exact w.1, fun r hr e he => ?_⟩
  rw [living_len]
  obtain ⟨r', hr', rfl⟩ := List.mem_map.mp hr
  exact w.2 r' hr' e (List.mem_filter.mp he).1
theorem okR_filter {w : Nat} {r : List (Str × Nat)} (ok : okR w r) (p : Str × Nat → Bool) : okR w (r.filter p) := by
  have nd := okR_nd ok
  have hs : (keysR (r.filter p)).Sublist (sgs.take w) := by
    have h1 : (keysR (r.filter p)).Sublist (keysR r) := (List.filter_sublist (l := r) (p := p)).map fun e : Str × Nat => e.1
    have h2 : (keysR r).Sublist (sgs.take w) := by
      rw [show keysR r = (sgs.take w).filter _ from ok]
      exact List.filter_sublist
    exact h1.trans h2
  have nds : (sgs.take w).Nodup := sgs_nd.sublist (List.take_sublist w sgs)
  have key : ∀ {a b : List Str}, a.Sublist b → b.Nodup → a = b.filter fun z => decide (z ∈ a) := by
    intro a b h
    induction h with
    | slnil => exact fun _ => rfl
    | cons x h ih =>
      intro nd
      obtain ⟨n1, n2⟩ := List.nodup_cons.mp nd
      rw [List.filter_cons, if_neg (by rw [decide_eq_false fun z => n1 (h.subset z)]; exact Bool.false_ne_true)]
      exact ih n2
    | cons_cons x h ih =>
      rename_i l1 l2
      intro nd
      obtain ⟨n1, n2⟩ := List.nodup_cons.mp nd
      rw [List.filter_cons, if_pos (decide_eq_true List.mem_cons_self)]
      congr 1
      rw [ih n2]
      refine List.filter_congr fun y hy => ?_
      rw [← ih n2]
      refine decide_eq_decide.mpr ⟨fun q => List.mem_cons_of_mem _ q, fun q => ?_⟩
      rcases List.mem_cons.mp q with rfl | q
      · exact absurd hy n1
      · exact q
  exact key hs nds
theorem living_ok {w : Nat} {c : Ch} (ok : okT w c) : okT w (living c) := fun r hr => by
  obtain ⟨r', hr', rfl⟩ := List.mem_map.mp hr
  exact ⟨okR_filter (ok r' hr').1 _, trivial⟩
theorem living_nil {c : Ch} (s : Nat) : (rowC (living c) s).isEmpty = !liveB c s := by
  rw [living_row, live_row]
  induction rowC c s with
  | nil => rfl
  | cons e r ih =>
    rw [List.filter_cons, List.any_cons]
    cases a : liveB c e.2 with
    | true => rw [if_pos rfl]; rfl
    | false => rw [if_neg Bool.false_ne_true, ih]; rfl
theorem living_to {c : Ch} {s : Nat} {e : Str × Nat} (h : e ∈ rowC (living c) s) : liveB c e.2 = true := by
  rw [living_row] at h
  exact (List.mem_filter.mp h).2
/-- all rows lead on -/
def Full (c : Ch) : Prop := ∀ r ∈ c, r ≠ []
theorem full_live {c : Ch} (wf : WfC c) (f : Full c) : ∀ {k s : Nat}, s < c.length → aliveF c k s = true
  | 0, s, h => decide_eq_true h
  | k + 1, s, h => by
    have hr : rowC c s ∈ c := by
      unfold rowC
      rw [List.getD_eq_getElem?_getD, List.getElem?_eq_getElem h]
      exact List.getElem_mem h
    have ne := f _ hr
    cases q : rowC c s with
    | nil => exact absurd q ne
    | cons e r =>
      show ((rowC c s).any fun e => aliveF c k e.2) = true
      rw [q, List.any_cons, full_live wf f (wf.2 _ hr e (by rw [q]; exact List.mem_cons_self))]; rfl
theorem living_full {c : Ch} (wf : WfC c) (f : Full c) : living c = c := by
  have h : ∀ r ∈ c, (r.filter fun e => liveB c e.2) = r := fun r hr => by
    refine List.filter_eq_self.mpr fun e he => ?_
    obtain ⟨k, q⟩ := still_ex c
    rw [← q.live]
    exact full_live wf f (wf.2 r hr e he)
  unfold living
  rw [List.map_congr_left h, List.map_id']
theorem reachS_ind {c : Ch} (w : WfC c) {s : Nat} (hs : s < c.length) {P : Nat → Prop} (h0 : P (rep c s)) (st : ∀ x, x < c.length → P x → ∀ e ∈ rowC c x, P (rep c e.2)) : ∀ x ∈ reachS c s, P x := by
  have key : ∀ (f a : Nat) (o : List Nat), (∀ x ∈ o, x < c.length ∧ P x) → ∀ x ∈ goR (quo c) f a o, P x := by
    intro f
    induction f with
    | zero => exact fun a o h x hx => (h x hx).2
    | succ f ih =>
      intro a o h
      unfold goR
      cases e : o[a]? with
      | none => exact fun x hx => (h x hx).2
      | some i =>
        refine ih (a + 1) _ fun x hx => ?_
        rcases mem_addAll.mp hx with q | ⟨e', he, rfl⟩
        · exact h x q
        · obtain ⟨hi, pi⟩ := h i (List.mem_of_getElem? e)
          rw [quo_row hi] at he
          obtain ⟨e2, h2, rfl⟩ := List.mem_map.mp he
          exact ⟨(rep_ok (rowC_lt w h2)).1, st i hi pi e2 h2⟩
  exact key (c.length + 1) 0 [rep c s] fun x hx => by rw [List.mem_singleton.mp hx]; exact ⟨(rep_ok hs).1, h0⟩
/-- the least table of what leads on for ever is full -/
theorem chartS_full {c : Ch} (w : WfC c) {s : Nat} (h : liveB c s = true) : Full (chartS (living c) s) := by
  have wl := living_wf w
  have hs : s < (living c).length := by rw [living_len]; exact live_lt h
  have ne : ∀ {t : Nat}, t < (living c).length → liveB c t = true → rowC (living c) (rep (living c) t) ≠ [] := fun {t} ht l z => by
    have k := (rep_ok ht).2.1.keys
    rw [z] at k
    have q := living_nil (c := c) t
    rw [l] at q
    cases e : rowC (living c) t with
    | nil => rw [e] at q; cases q
    | cons a r => rw [e] at k; cases k
  have all := reachS_ind wl hs (P := fun x => rowC (living c) x ≠ []) (ne hs h) fun x hx _ e he => ne (by have := rowC_lt wl he; exact this) (living_to he)
  intro r hr
  obtain ⟨i, hi, rfl⟩ := List.mem_map.mp hr
  intro z
  exact all i hi (List.map_eq_nil_iff.mp z)
end K88
end

section
set_option maxHeartbeats 4000000
/-! defs that call repr: the same promises as FnOk, where it is known that no repr is under way -/
namespace K88
open PySem PySem.Spec PyProof.Rows L2
structure RoomG (k : Nat) (A : Around) : Prop where
  rm : Room k A
  gd : A.guards = some []
theorem RoomG.mono {j k : Nat} {A : Around} (r : RoomG k A) (h : j ≤ k) : RoomG j A := ⟨r.rm.mono h, r.gd⟩
theorem RoomG.deeper {k : Nat} {A : Around} (r : RoomG (k + 1) A) (env : Env) : RoomG k (A.deeper env) := ⟨r.rm.deeper env, r.gd⟩
structure FnG (P : Program) (w : World) (K : PySem.W.Frag) (mg : Str → Option Value) (base : Heap) (k : Nat) (f : Addr) (fd : FuncData) (ps : List Str) (sp : Sp) : Prop where
  len : ∀ vs H Q E, sp vs H Q E → vs.length = ps.length
  run : ∀ (A : Around) (outer : List Env) (s : Shared) (H : Hp) (args : Args) (us : List Value) (vs : List V) (Q : VK) (E : XK), RoomG k A → Env0 P w K mg base A outer s H → BindsTo s fd args (ps.zip us) → Vals vs us → sp vs H Q E →
    codeAny (model P w) A (.call (.ref f) args) (CR CX0 outer P w H s Q E) s
section
variable {P : Program} {w : World} {K : PySem.W.Frag} {mg : Str → Option Value} {base : Heap}
theorem fnG_body {x qual : Str} {st : Stmt} {f : Addr} {fd : FuncData} {N ps : List Str} {k : Nat} {sp : Sp} (F : Fun K x qual st f fd) (S : FnScope N ps (defScope st)) (ln : ∀ vs H Q E, sp vs H Q E → vs.length = ps.length)
    (hb0 : ∀ (cdv : Value) (A : Around) (outer : List Env) (s : Shared) (H : Hp) (vs : List V) (Q : VK) (E : XK), RoomG k (A.deeper (envOfC qual (defScope st) s.heap.objs.size f cdv)) → sp vs H Q E →
      ∃ t, PSs (cxOf CX0 P w K mg base N qual (defScope st) f cdv A outer s H E).nox (defBody st) t ∧ t { nx := fun _ H' => Q .non H', rt := Q } (start N vs) H) : FnG P w K mg base (k + 1) f fd ps sp where
  len := ln
  run A outer s H args us vs Q E hr e0 hbd rv hs := by
    obtain ⟨oc, od, kV, doc, pm, an, cdv, ct, osl, rfl, lk, hcd⟩ := F.ex
    have old := fun b o (e : base.get? b = some o) => (e0.bs b o e).1
    have inK : K.In s.heap := e0.mod.kin.keeps old
    have hkn : ∀ q ∈ ps.zip us, (defScope st).names.lookup q.1 = some .local ∨ ((defScope st).names.lookup q.1 = some .cell ∧ ((cellsFrom (s.heap.objs.size + 1) (defScope st).names []).lookup q.1).isSome = true) := by
      rintro ⟨n, v⟩ hq
      exact (S.par n (List.of_mem_zip hq).1).elim .inl fun c => .inr ⟨c, PySem.W.cellsFrom_some _ _ _ (.inl c)⟩
    have body : ∀ s1 : Shared, InCallC s s.heap.objs.size (bindL (envOfC qual (defScope st) s.heap.objs.size f cdv).kindOf (ps.zip us) fun _ => none) (cellsFrom (s.heap.objs.size + 1) (defScope st).names []) (bindC (envOfC qual (defScope st) s.heap.objs.size f cdv).kindOf (ps.zip us) fun _ => none) s1 →
        wpAny (model P w) (A.deeper (envOfC qual (defScope st) s.heap.objs.size f cdv)) (execs (defBody st) (envOfC qual (defScope st) s.heap.objs.size f cdv)) (fun fl s' => match fl with | .next => CE outer P w H s Q Value.none s' | .ret u => CE outer P w H s Q u s' | _ => False) (cxOf CX0 P w K mg base N qual (defScope st) f cdv A outer s H E).xe s1 := by
      intro s1 hx
      obtain ⟨t, ht, hq⟩ := hb0 cdv A outer s H vs Q E (hr.deeper _) hs
      have J := inv_start (CX := CX0) (E := E) S hr.rm.hd e0 (ln _ _ _ _ hs) rv hx
      refine wpAny_mono (ht.nox.run [] s1 (start N vs) H _ J hq) (fun fl s' hf => ?_) (fun e s' hf => hf)
      match fl, hf with
      | .next, ⟨σ', H', I', q⟩ => exact ⟨.non, H', I'.os, I'.bare, I'.base, I'.hok, rfl, q⟩
      | .ret u, ⟨v, σ', H', I', r', q⟩ => exact ⟨v, H', I'.os, I'.bare, I'.base, I'.hok, r', q⟩
      | .brk, ⟨_, _, _, q⟩ => exact (show False from q).elim
      | .cont, ⟨_, _, _, q⟩ => exact (show False from q).elim
    refine codeAny_call_function hr.rm.depth (inK _ _ lk) rfl S.co S.gen rfl (PySem.W.codeRec_of inK hcd) (hbd _ _ _ _ ?_)
    refine wpAny_newFunctionEnv_cells S.kind hkn fun env he s1 hx => ?_
    subst he
    refine ⟨(e0.mod.nolimit.keeps old).keeps hx.toInCall.keep, codeAny_func ?_⟩
    refine wpAny_mono (body s1 hx) (fun fl s' hf => ?_) (fun e s' hf => hf)
    cases fl with
    | ret u => exact hf
    | next => exact hf
    | brk => exact (show False from hf).elim
    | cont => exact (show False from hf).elim
theorem FnG.of {k : Nat} {f : Addr} {fd : FuncData} {ps : List Str} {sp : Sp} (F : FnOk P w K mg base CX0 k f fd ps sp) : FnG P w K mg base k f fd ps sp := ⟨F.len, fun A o s H a us vs Q E r => F.run A o s H a us vs Q E r.rm⟩
end
section
variable {X : Cx} {k : Nat} {f : Addr} {fd : FuncData} {ps : List Str} {sp : Sp} {E : XK} {x : Str} {p pos : Pos} {e : Expr} {es : List Expr} {t : TA}
theorem run_g {pins : List (Addr × Obj)} {σ : L2.St} {H : Hp} {s : Shared} {Q : VK} {us : List Value} {vs : List V} (F : FnG X.prog X.w X.K X.mg X.base k f fd ps sp) (hr : RoomG k X.A) (hb : Binds X.K fd ps [])
    (I : Inv X pins σ H s) (r : Vals vs us) (h : sp vs H Q E) : wpAny (model X.prog X.w) X.A (call (.ref f) us) (EP X pins σ Q) X.xe s := by
  have hl : us.length = ps.length := r.length.symm.trans (F.len _ _ _ _ h)
  have hb' := hb s us I.kIn (by rw [List.append_nil]; exact hl)
  rw [List.append_nil] at hb'
  refine wpAny_call (codeAny_mono (F.run X.A X.stack s H ⟨us, []⟩ us vs Q E hr I.env0 hb' r h) ?_)
  intro res s' hq
  match res, hq with
  | .ok (.ret u), hq => exact I.after hq
theorem pe_callG (F : FnG X.prog X.w X.K X.mg X.base k f fd ps sp) (hr : RoomG k X.A) (hg : Gl X x) (hm : X.mg x = some (.ref f)) (hk : PySem.W.keepIn X.K (.ref f) = true) (hb : Binds X.K fd ps [])
    (ha : PA X (e :: es) t) (hdb : (x == ("__debug__" : Str)) = false := by decide) (he : starEach (e :: es) X.env = (false, eval e X.env) :: starEach es X.env := by rfl) (hpl : (backTo pos (starEach es X.env)).any (·.1) = false := by rfl) :
    PE X (.Call (.Name x p) (e :: es) [] pos) (tCall sp [] E t) :=
  ⟨fun pins s σ H Q I h => wpAny_Call_Name_kw (ld_glob I hg hm (PySem.W.callWith_K (h₀ := X.base) I.ok.mod.kin hk (thn (ha.run pos pins s σ H _ I h) fun us s1 ⟨vs, H1, I1, r, q⟩ => ⟨I1.kIn, run_g (E := E) F hr hb I1 r (by have q' : sp (vs ++ []) H1 Q E := q; rw [List.append_nil] at q'; exact q')⟩) he hpl) hdb)⟩
end
end K88
end

section
set_option maxHeartbeats 4000000
/-! repr of data -/
namespace K88
open PySem PySem.Spec PyProof.Rows L2
def keyD : Key → PyData
  | .inl i => .int i
  | .inr x => .str x
mutual
/-- the value v reads as the data d -/
inductive Dx (H : Hp) : V → PyData → Prop
  | non : Dx H .non .none
  | bl (b : Bool) : Dx H (.bl b) (.bool b)
  | int (i : Int) : Dx H (.int i) (.int i)
  | str (x : Str) : Dx H (.str x) (.str x)
  | lst {a : Addr} {xs : List V} {ds : List PyData} : H a = some (.lst xs) → DxAll H xs ds → Dx H (.ref a) (.list ds)
  | tup {a : Addr} {xs : List V} {ds : List PyData} : H a = some (.tup xs) → DxAll H xs ds → Dx H (.ref a) (.tuple ds)
  | dic {a : Addr} {kvs : List (Key × V)} {ds : List PyData} : Rd H a (.dK kvs) → DxAll H (kvs.map (·.2)) ds → Dx H (.ref a) (.dict ((kvs.map fun p => keyD p.1).zip ds))
inductive DxAll (H : Hp) : List V → List PyData → Prop
  | nil : DxAll H [] []
  | cons {v : V} {vs : List V} {d : PyData} {ds : List PyData} : Dx H v d → DxAll H vs ds → DxAll H (v :: vs) (d :: ds)
end
theorem DxAll.length {H : Hp} : ∀ {vs : List V} {ds : List PyData}, DxAll H vs ds → vs.length = ds.length
  | _, _, .nil => rfl
  | _, _, .cons _ t => by rw [List.length_cons, List.length_cons, t.length]
theorem Rd.same {H H' : Hp} (s : Same H H') {a : Addr} {u : HO} (h : Rd H a u) : Rd H' a u := h.imp (fun e => s _ _ e) fun ⟨o, e⟩ => ⟨o, s _ _ e⟩
mutual
theorem Dx.same {H H' : Hp} (s : Same H H') : ∀ {v : V} {d : PyData}, Dx H v d → Dx H' v d
  | _, _, .non => .non
  | _, _, .bl b => .bl b
  | _, _, .int i => .int i
  | _, _, .str x => .str x
  | _, _, .lst e h => .lst (s _ _ e) (DxAll.same s h)
  | _, _, .tup e h => .tup (s _ _ e) (DxAll.same s h)
  | _, _, .dic e h => .dic (Rd.same s e) (DxAll.same s h)
theorem DxAll.same {H H' : Hp} (s : Same H H') : ∀ {vs : List V} {ds : List PyData}, DxAll H vs ds → DxAll H' vs ds
  | _, _, .nil => .nil
  | _, _, .cons a b => .cons (Dx.same s a) (DxAll.same s b)
end
/-- what stands at an address is no dict of sys.modules -/
def Apart (h : Heap) (as : List Addr) : Prop := ∀ a ∈ as, (∃ o, h.get? a = some o ∧ o.cls = .type "list") ∨ (a == sysModules) = false
theorem Apart.nil {h : Heap} : Apart h [] := fun _ z => nomatch z
theorem Apart.app {h : Heap} {as bs : List Addr} (x : Apart h as) (y : Apart h bs) : Apart h (as ++ bs) := fun a z => (List.mem_append.mp z).elim (x a) (y a)
theorem Apart.cons {h : Heap} {a : Addr} {as : List Addr} (x : (∃ o, h.get? a = some o ∧ o.cls = .type "list") ∨ (a == sysModules) = false) (y : Apart h as) : Apart h (a :: as) := fun b z => (List.mem_cons.mp z).elim (fun e => by rw [e]; exact x) (y b)
theorem map_zip_fst {α β : Type} : ∀ (xs : List α) (ys : List β), xs.length = ys.length → (xs.zip ys).map (·.1) = xs
  | [], _, _ => rfl
  | x :: xs, [], h => by cases h
  | x :: xs, y :: ys, h => by rw [List.zip_cons_cons, List.map_cons, map_zip_fst xs ys (by simpa using h)]
theorem map_zip_snd {α β : Type} : ∀ (xs : List α) (ys : List β), xs.length = ys.length → (xs.zip ys).map (·.2) = ys
  | [], [], _ => rfl
  | [], _ :: _, h => by cases h
  | x :: xs, [], h => by cases h
  | x :: xs, y :: ys, h => by rw [List.zip_cons_cons, List.map_cons, map_zip_snd xs ys (by simpa using h)]
theorem key_reads {h : Heap} {P : Program} {w : World} {k : Key} {v : Value} (e : (mixKind P w).is k v = true) : Reads h v (keyD k) [] := by
  rcases keyIs_shape e with ⟨i, t, rfl, rfl⟩ | ⟨x, t, rfl, rfl⟩
  · exact .int i t
  · exact .str x t
theorem keys_read {h : Heap} {P : Program} {w : World} : ∀ {es : List DictEntry} {vs : List (Key × Value)}, Pairs (mixKind P w) es vs → ReadsAll h (es.map (·.key)) (vs.map fun p => keyD p.1) []
  | _, _, .nil => .nil
  | _, _, .cons a b c => .cons (as := []) (bs := []) (key_reads a) (keys_read c)
theorem vals_eq {P : Program} {w : World} : ∀ {es : List DictEntry} {vs : List (Key × Value)}, Pairs (mixKind P w) es vs → es.map (·.val) = vs.map (·.2)
  | _, _, .nil => rfl
  | _, _, .cons a b c => by rw [List.map_cons, List.map_cons, b, vals_eq c]
theorem kv_fst : ∀ {kvs : List (Key × V)} {vs : List (Key × Value)}, KV kvs vs → kvs.map (fun p => keyD p.1) = vs.map fun p => keyD p.1
  | _, _, .nil => rfl
  | _, _, .cons a c => by rw [List.map_cons, List.map_cons, a.1, kv_fst c]
theorem kv_snd : ∀ {kvs : List (Key × V)} {vs : List (Key × Value)}, KV kvs vs → Vals (kvs.map (·.2)) (vs.map (·.2))
  | _, _, .nil => .nil
  | _, _, .cons a c => .cons a.2 (kv_snd c)
section
variable {X : Cx} {pins : List (Addr × Obj)} {σ : L2.St} {H : Hp} {s : Shared}
mutual
theorem Dx.reads (I : L2.Inv X pins σ H s) : ∀ {v : V} {d : PyData} {u : Value}, Dx H v d → RelV v u → ∃ as, Reads s.heap u d as ∧ Apart s.heap as
  | _, _, _, .non, r => by cases r; exact ⟨_, .none, .nil⟩
  | _, _, _, .bl b, r => by cases r; exact ⟨_, .bool b, .nil⟩
  | _, _, _, .int i, r => by obtain ⟨t, rfl⟩ := r; exact ⟨_, .int i t, .nil⟩
  | _, _, _, .str x, r => by obtain ⟨t, rfl⟩ := r; exact ⟨_, .str x t, .nil⟩
  | _, _, _, .lst (a := a) e h, r => by
    cases r
    obtain ⟨_, its, n, rv, ho⟩ := (show ObjOk X.prog X.w H s.heap a (.lst _) from I.hok a _ e)
    obtain ⟨as, hr, ap⟩ := DxAll.reads I h rv
    exact ⟨_, .list ho rfl rfl (by rw [List.toList_toArray]; exact hr), .cons (.inl ⟨_, ho, rfl⟩) ap⟩
  | _, _, _, .tup (a := a) e h, r => by
    cases r
    obtain ⟨_, its, rv, o, ho, hc, n, hd⟩ := (show ObjOk X.prog X.w H s.heap a (.tup _) from I.hok a _ e)
    obtain ⟨as, hr, ap⟩ := DxAll.reads I h rv
    exact ⟨_, .tuple ho hc hd (by rw [List.toList_toArray]; exact hr), ap⟩
  | _, _, _, .dic (a := a) (kvs := kvs) (ds := ds) e h, r => by
    cases r
    obtain ⟨_, hy, vs, kv, o, es, ep, ho, hc, hd, _, ps, _⟩ := (show ObjOk X.prog X.w H s.heap a (.dK _) from e.ok I.hok)
    obtain ⟨bs, hr, ap⟩ := DxAll.reads I h (kv_snd kv)
    have el : (kvs.map fun p => keyD p.1).length = ds.length := by rw [List.length_map, ← h.length, List.length_map]
    refine ⟨_, .dict ho hc.1 hd (as := []) (bs := bs) ?_ ?_, ?_⟩
    · rw [map_zip_fst _ _ el, kv_fst kv]
      exact keys_read ps
    · rw [map_zip_snd _ _ el, vals_eq ps]
      exact hr
    · exact Apart.cons (.inr hy) ap
theorem DxAll.reads (I : L2.Inv X pins σ H s) : ∀ {vs : List V} {ds : List PyData} {us : List Value}, DxAll H vs ds → Vals vs us → ∃ as, ReadsAll s.heap us ds as ∧ Apart s.heap as
  | _, _, _, .nil, r => by cases r; exact ⟨_, .nil, .nil⟩
  | _, _, _, .cons a b, r => by
    cases r with
    | cons r1 r2 =>
      obtain ⟨as, q1, p1⟩ := Dx.reads I a r1
      obtain ⟨bs, q2, p2⟩ := DxAll.reads I b r2
      exact ⟨_, .cons q1 q2, p1.app p2⟩
end
/-- repr(x), x an object that reads as data -/
def rRepr : List V → Hp → VK → Prop := fun xs H Q => ∃ (a : Addr) (d : PyData), xs = [.ref a] ∧ Dx H (.ref a) d ∧ d.showable = true ∧ d.depth ≤ 40 ∧ d.shown.length ≤ sizeLine ∧ Q (.str d.shown) H
theorem call_repr {X : Cx} (hg : X.A.guards = some []) (hu : X.A.units + 64 < cLine) (hs : ∃ o, X.K.lookup sysModules = some o ∧ o.cls ≠ .type "list") : CallR X (.builtin "repr") rRepr := by
  intro pins s σ H xs us Q I r h
  obtain ⟨a, d, rfl, hd, sh, dp, sz, q⟩ := h
  cases r with
  | cons r0 rr =>
    cases rr
    rename_i u
    have eu : u = Value.ref a := r0
    subst eu
    obtain ⟨as, rd, ap⟩ := Dx.reads I hd r0
    refine repr_of_reads' rd sh (fun _ hm => ?_) hg (by omega) (fun b o e => e) (fun h' u tk k => ⟨.str d.shown, H, I.kept (t' := tk) k, ⟨u, rfl⟩, q⟩) sz
    rcases ap _ hm with ⟨o, ho, hc⟩ | z
    · obtain ⟨o2, e2, n2⟩ := hs
      have z := (I.kIn _ _ e2).symm.trans ho
      cases z
      exact n2 hc
    · simp at z
end
end K88
end

section
set_option maxHeartbeats 4000000
/-! what kind of value it is -/
namespace K88
open PySem PySem.Spec PyProof.Rows L2
def tyN : PyData → String
  | .none => "NoneType"
  | .bool _ => "bool"
  | .int _ => "int"
  | .str _ => "str"
  | .list _ => "list"
  | .tuple _ => "tuple"
  | .dict _ => "dict"
theorem dx_ty {K : PySem.W.Frag} {H : Hp} {v : V} {d : PyData} (h : Dx H v d) : TyX K H v (.type (tyN d)) := by
  cases h with
  | non => exact .base .non
  | bl b => exact .base (.bl b)
  | int i => exact .base (.int i)
  | str x => exact .base (.str x)
  | lst e _ => exact .base (.lst e)
  | tup e _ => exact .base (.tup e)
  | dic e _ =>
    rcases e with e | ⟨o, e⟩
    · exact .base (.dK e)
    · exact .fDict e
def isI : PyData → Bool
  | .int _ => true
  | .bool _ => true
  | _ => false
def isB : PyData → Bool
  | .bool _ => true
  | _ => false
def isS : PyData → Bool
  | .str _ => true
  | _ => false
theorem kit_i (d : PyData) : kitB (tyN d) "int" = some (isI d) :=
  match d with
  | .none => (by decide +kernel : kitB "NoneType" "int" = some false)
  | .bool _ => (by decide +kernel : kitB "bool" "int" = some true)
  | .int _ => (by decide +kernel : kitB "int" "int" = some true)
  | .str _ => (by decide +kernel : kitB "str" "int" = some false)
  | .list _ => (by decide +kernel : kitB "list" "int" = some false)
  | .tuple _ => (by decide +kernel : kitB "tuple" "int" = some false)
  | .dict _ => (by decide +kernel : kitB "dict" "int" = some false)
theorem kit_b (d : PyData) : kitB (tyN d) "bool" = some (isB d) :=
  match d with
  | .none => (by decide +kernel : kitB "NoneType" "bool" = some false)
  | .bool _ => (by decide +kernel : kitB "bool" "bool" = some true)
  | .int _ => (by decide +kernel : kitB "int" "bool" = some false)
  | .str _ => (by decide +kernel : kitB "str" "bool" = some false)
  | .list _ => (by decide +kernel : kitB "list" "bool" = some false)
  | .tuple _ => (by decide +kernel : kitB "tuple" "bool" = some false)
  | .dict _ => (by decide +kernel : kitB "dict" "bool" = some false)
theorem kit_s (d : PyData) : kitB (tyN d) "str" = some (isS d) :=
  match d with
  | .none => (by decide +kernel : kitB "NoneType" "str" = some false)
  | .bool _ => (by decide +kernel : kitB "bool" "str" = some false)
  | .int _ => (by decide +kernel : kitB "int" "str" = some false)
  | .str _ => (by decide +kernel : kitB "str" "str" = some true)
  | .list _ => (by decide +kernel : kitB "list" "str" = some false)
  | .tuple _ => (by decide +kernel : kitB "tuple" "str" = some false)
  | .dict _ => (by decide +kernel : kitB "dict" "str" = some false)
/-- a whole number; a count; a text of signs -/
def wholeD : PyData → Bool := fun d => isI d && !isB d
def countD : PyData → Bool
  | .int i => decide (0 ≤ i)
  | _ => false
def sgn (c : Nat) : Bool := decide (c ∈ (PySem.Str.ofString "abcd").cps.toList)
def wordD : PyData → Bool
  | .str z => z.cps.toList.all sgn
  | _ => false
/-- what is asked of a thing -/
structure Tame (d : PyData) : Prop where
  len : ∀ z, d = .str z → z.length ≤ 5000 ∧ ∀ c ∈ z.cps.toList, c < 1114112
  sh : d.showable = true
  dp : d.depth ≤ 10
  sz : d.shown.length ≤ 60000
def spB (f : PyData → Bool) : Sp := fun vs H Q _ => ∃ (v : V) (d : PyData), vs = [v] ∧ Dx H v d ∧ Tame d ∧ ∀ H', Same H H' → Q (.bl (f d)) H'
theorem take_snoc {α : Type} {l : List α} {i : Nat} {x : α} (h : l[i]? = some x) : l.take (i + 1) = l.take i ++ [x] := by
  rw [List.take_add_one, h]; rfl
end K88
end

section
set_option maxHeartbeats 4000000
/-! shared rules; tables in the heap -/
namespace K88
open PySem PySem.Spec PyProof.Rows L2
section
variable {X : Cx} {K : PySem.W.Frag}
theorem ps_never {st : Stmt} : PS X st (fun _ _ _ => False) := ⟨fun _ _ _ _ _ _ h => h.elim⟩
theorem ix_listK (e : X.K = K) : IxR X (rIxL K) := by
  subst e
  exact ix_list
theorem pi_listK {tg l : Expr} {tl : TE} (e : X.K = K) (hl : PE X l tl) : PI X tg l (iList K tl) := by
  subst e
  exact pi_list hl
theorem pg_tupK {es : List Expr} {k : Nat} {t : TGs} {n : Nat} {pos : Pos} (e : X.K = K) (hc : X.calm = true) (h : PGs X es t)
    (hn : (assignEach es X.env).length = n := by rfl) (hst : (assignEach es X.env).findIdx? (·.1) = none := by rfl) : PG X (.Tuple es k pos) (gTup K n t) := by
  subst e
  exact pg_tup hc h hn hst
end
section
variable {X : Cx} {K : PySem.W.Frag}
theorem call_tuple_ofK (e : X.K = K) : CallR X (.type "tuple") (fun xs H Q => ∃ p ys, xs = [.ref p] ∧ ((SqL K H p ys ∧ ∀ l, H l = none → Q (.ref l) (upd H l (.tup ys))) ∨ (SqT K H p ys ∧ Q (.ref p) H))) := by
  subst e
  exact call_tuple_of
theorem pi_tupK {tg l : Expr} {tl : TE} (e : X.K = K) (hl : PE X l tl) : PI X tg l (iTup K tl) := by
  subst e
  exact pi_tup hl
theorem ix_tupK (e : X.K = K) : IxR X (rIxT K) := by
  subst e
  exact ix_tup
theorem cr_allK (e : X.K = K) (hc : X.calm = true := by rfl) : CallR X (.builtin "all") (rAll K) := by
  subst e
  exact cr_all hc
theorem cr_anyK (e : X.K = K) (hc : X.calm = true := by rfl) : CallR X (.builtin "any") (rAny K) := by
  subst e
  exact cr_any hc
theorem cr_sumK (e : X.K = K) (hc : X.calm = true := by rfl) : CallR X (.builtin "sum") (rSum K) := by
  subst e
  exact cr_sum hc
theorem cr_maxK (e : X.K = K) (hc : X.calm = true := by rfl) : CallR X (.builtin "max") (rMax K) := by
  subst e
  exact cr_max hc
theorem cr_minK (e : X.K = K) (hc : X.calm = true := by rfl) : CallR X (.builtin "min") (rMin K) := by
  subst e
  exact cr_min hc
end
theorem Dx.list {H : Hp} {v : V} {ds : List PyData} (h : Dx H v (.list ds)) : ∃ a vs, v = .ref a ∧ H a = some (.lst vs) ∧ DxAll H vs ds := by
  cases h with
  | lst e h => exact ⟨_, _, rfl, e, h⟩
theorem DxAll.at_ {H : Hp} : ∀ {vs : List V} {ds : List PyData} {i : Nat} {d : PyData}, DxAll H vs ds → ds[i]? = some d → ∃ v, vs[i]? = some v ∧ Dx H v d
  | _, _, _, _, .nil, h => by cases h
  | _, _, 0, _, .cons a b, h => by cases h; exact ⟨_, rfl, a⟩
  | _, _, i + 1, _, .cons a b, h => DxAll.at_ b (i := i) (by simpa using h)
theorem DxAll.from_ {H : Hp} : ∀ {vs : List V} {ds : List PyData} {i : Nat} {v : V}, DxAll H vs ds → vs[i]? = some v → ∃ d, ds[i]? = some d ∧ Dx H v d
  | _, _, _, _, .nil, h => by cases h
  | _, _, 0, _, .cons a b, h => by cases h; exact ⟨_, rfl, a⟩
  | _, _, i + 1, _, .cons a b, h => DxAll.from_ b (i := i) (by simpa using h)
def placesK (k : Nat) (o : List Nat) : List (Key × V) := (o.zipIdx k).map fun p => ((.inl (p.1 : Int) : Key), V.int (p.2 : Int))
theorem places_val : ∀ (o : List Nat) (k t : Nat), valV (placesK k o) (.inl (t : Int)) = if t ∈ o then some (.int ((k + o.idxOf t : Nat) : Int)) else none
  | [], k, t => by simp [placesK, valV]
  | x :: o, k, t => by
    have e : placesK k (x :: o) = ((.inl (x : Int) : Key), V.int (k : Int)) :: placesK (k + 1) o := rfl
    have ih := places_val o (k + 1) t
    unfold valV at ih ⊢
    rw [e]
    by_cases h : x = t
    · subst h
      simp
    · have ne : ¬ ((.inl (x : Int) : Key) = .inl (t : Int)) := fun z => h (by have := Sum.inl.inj z; omega)
      rw [List.find?_cons_of_neg (by simpa using ne), ih]
      have hb : (x == t) = false := beq_eq_false_iff_ne.mpr h
      rw [List.idxOf_cons, hb]
      simp only [cond_false, List.mem_cons]
      by_cases m : t ∈ o
      · rw [if_pos m, if_pos (.inr m), show k + 1 + o.idxOf t = k + (o.idxOf t + 1) by omega]
      · rw [if_neg m, if_neg (by rintro (z | z); exact h z.symm; exact m z)]
theorem placesK_len (k : Nat) (o : List Nat) : (placesK k o).length = o.length := by unfold placesK; rw [List.length_map, List.length_zipIdx]
theorem places_put {o : List Nat} {t : Nat} (h : t ∉ o) : putK (placesK 0 o) (.inl (t : Int)) (.int ((o.map fun (t : Nat) => V.int (t : Int)).length : Nat)) = placesK 0 (o ++ [t]) := by
  have no : ((placesK 0 o).any fun kv => decide (kv.1 = (.inl (t : Int) : Key))) = false := by
    have := places_val o 0 t
    rw [if_neg h] at this
    unfold valV at this
    cases e : (placesK 0 o).find? fun kv => decide (kv.1 = (.inl (t : Int) : Key)) with
    | some z => rw [e] at this; cases this
    | none =>
      rw [List.any_eq_false]
      intro x hx z
      exact List.find?_eq_none.mp e x hx z
  unfold putK
  rw [no]
  unfold placesK
  rw [List.zipIdx_append, List.map_append, List.length_map]
  simp
def intsV (o : List Nat) : List V := o.map fun (t : Nat) => V.int (t : Int)
theorem dxAll_of {H : Hp} : ∀ {vs : List V} {ds : List PyData}, vs.length = ds.length → (∀ (j : Nat) (v : V), vs[j]? = some v → ∃ d, ds[j]? = some d ∧ Dx H v d) → DxAll H vs ds
  | [], [], _, _ => .nil
  | [], _ :: _, h, _ => by cases h
  | _ :: _, [], h, _ => by cases h
  | v :: vs, d :: ds, h, k => by
    obtain ⟨d', e, x⟩ := k 0 v rfl
    cases e
    exact .cons x (dxAll_of (by simpa using h) fun j u hu => k (j + 1) u hu)
theorem yes_of {σ : L2.St} {H : Hp} {f : Bool → Hp → Prop} (h : f true H) : tYes σ H f := h
theorem call_lenK {X : Cx} {K : PySem.W.Frag} (e : X.K = K) : CallR X (.builtin "len") (fun xs H Q => ∃ x n, xs = [x] ∧ LenV K x H n ∧ Q (.int n) H) := by
  subst e
  exact call_len
abbrev FunV (K : PySem.W.Frag) (x qual : Str) (st : Stmt) (dvs : List V) (f : Addr) (fd : FuncData) : Prop := FunD K x qual (defArgs st) (defBody st) (defScope st) dvs [] f fd
theorem FunV.okV {P : Program} {w : World} {K : PySem.W.Frag} {mg : Str → Option Value} {base : Heap} {x qual : Str} {st : Stmt} {dvs : List V} {f : Addr} {fd : FuncData} {N ps : List Str} {k : Nat} {sp : Sp} (F : FunV K x qual st dvs f fd) (S : FnScope N ps (defScope st)) (len : ∀ vs H Q E, sp vs H Q E → vs.length = ps.length)
    (hbody : ∀ (cdv : Value) (A : Around) (outer : List Env) (s : Shared) (H : Hp) (vs : List V) (Q : VK) (E : XK), Room k (A.deeper (envOfC qual (defScope st) s.heap.objs.size f cdv)) → sp vs H Q E →
      ∃ t, PSs (cxOf CX0 P w K mg base N qual (defScope st) f cdv A outer s H E).nox (defBody st) t ∧ t { nx := fun _ H' => Q .non H', rt := Q } (L2.start N vs) H) : FnOk P w K mg base CX0 (k + 1) f fd ps sp :=
  F.ok S len fun cdv A outer s H vs Q E hr hs => let ⟨t, h, q⟩ := hbody cdv A outer s H vs Q E hr hs; ⟨t, h.nox, q⟩
theorem cmpBack {X : Cx} {pins : List (Addr × Obj)} {σ : L2.St} {Q : VK} {u : Value} {s : Shared} (h : EP X pins σ Q u s) : PySem.W.CmpBack (EP X pins σ Q) u s := by
  obtain ⟨v, H', I, r, q⟩ := id h
  cases u <;> first | exact h | skip
  cases v with
  | int i => obtain ⟨t, e⟩ := r; cases e
  | str i => obtain ⟨t, e⟩ := r; cases e
  | byt i => obtain ⟨t, e⟩ := r; cases e
  | flt i => obtain ⟨t, e⟩ := r; cases e
  | _ => cases r
section
variable {X : Cx} {CX : CXT} {k : Nat} {f C g : Addr} {fd : FuncData} {ps : List Str} {sp : Sp} {E : XK} {A : Around} {pins : List (Addr × Obj)} {σ : L2.St} {H : Hp} {s : Shared} {Q : VK} {us : List Value} {vs : List V}
theorem run_at (F : FnOk X.prog X.w X.K X.mg X.base CX k f fd ps sp) (hr : Room k A) (hA : A.frames = X.A.frames) (hb : Binds X.K fd ps []) (hx : Passes CX X E) (I : Inv X pins σ H s) (r : Vals vs us) (h : sp vs H Q E) :
    wpAny (model X.prog X.w) A (call (.ref f) us) (EP X pins σ Q) X.xe s := by
  have hl : us.length = ps.length := r.length.symm.trans (F.len _ _ _ _ h)
  have hb' := hb s us I.kIn (by rw [List.append_nil]; exact hl)
  rw [List.append_nil] at hb'
  have e := I.env0
  have e0 : Env0 X.prog X.w X.K X.mg X.base A X.stack s H := ⟨by rw [hA]; exact e.frames, e.mod, e.bs, e.bsz, e.funs, e.frf, e.hok, e.bare⟩
  refine wpAny_call (codeAny_mono (F.run A X.stack s H ⟨us, []⟩ us vs Q E hr e0 hb' r h) fun res s' hq => ?_)
  match res, hq with
  | .error e, hq => exact hx pins σ H s e s' I hq
  | .ok (.ret u), hq => exact I.after hq
theorem looks_ty {x : V} {u t : Value} (I : Inv X pins σ H s) (rx : RelV x u) (ty : TyX X.K H x t) : PySem.W.Looks (model X.prog X.w) s.heap (typeOf u) t := by
  obtain ⟨P, k, hp, _⟩ := kit_of I rx ty
  exact k.ty _ _ I.kIn hp
theorem ins_inst {a dx : Addr} {fs : List (Str × V)} (I : Inv X pins σ H s) (e : H a = some (.ins C dx fs)) : ∃ od, PySem.W.InstAt s.heap a (PySem.W.instObj C dx) C (some od) := by
  obtain ⟨mA, O, _⟩ := ins_get I.hok e
  obtain ⟨od, J, _⟩ := O.look
  exact ⟨od, J⟩
/-- x == y, x an instance with == of its own -/
def rOwnE (K : PySem.W.Frag) (C : Addr) (sp : Sp) : R2 := fun x y H Q => ∃ a dx fs t, x = .ref a ∧ H a = some (.ins C dx fs) ∧ TyX K H y t ∧ PySem.W.notFirst K C t = true ∧ sp [x, y] H Q E0
theorem op_eqO (F : FnOk X.prog X.w X.K X.mg X.base CX0 k f fd ps sp) (hr : Room k X.A) (hb : Binds X.K fd ps []) (hs : PySem.W.findIn X.K (.ref C) "__eq__" = some (some (.ref f))) (hf : PySem.W.isFn X.K (.ref f) = true) : OpR X (compareOp .Eq) (rOwnE X.K C sp) := by
  intro pins s σ H x y v u Q I rx ry h
  obtain ⟨a, dx, fs, t, rfl, ha, ty, nf, q⟩ := h
  obtain rfl : v = Value.ref a := rx
  obtain ⟨od, J⟩ := ins_inst I ha
  obtain ⟨m, hF⟩ := I.fr
  exact PySem.W.cmp_K (op := .Eq) hr.units0 hF I.ok.mod.kin J (looks_ty I ry ty) nf hs hf (wpAny_mono (run_at F hr rfl hb pass0 I (.cons (show RelV (.ref a) (.ref a) from rfl) (.cons ry .nil)) q) (fun _ _ z => cmpBack z) fun _ _ z => z)
end
section
variable {X : Cx} {k : Nat} {f C : Addr} {fd : FuncData} {ps : List Str} {sp : Sp}
/-- len(x), x an instance with a length of its own -/
def rOwnI (C : Addr) (sp : Sp) : List V → Hp → VK → Prop := fun xs H Q => ∃ a dx fs, xs = [.ref a] ∧ H a = some (.ins C dx fs) ∧ sp [.ref a] H (fun v H' => ∃ n : Int, v = .int n ∧ (0 ≤ n ∧ n < 2 ^ 63) ∧ Q (.int n) H') E0
theorem call_lenO (F : FnOk X.prog X.w X.K X.mg X.base CX0 k f fd ps sp) (hr : Room (k + 1) X.A) (hb : Binds X.K fd ps []) (hs : PySem.W.findIn X.K (.ref C) "__len__" = some (some (.ref f))) (hf : PySem.W.isFn X.K (.ref f) = true) : CallR X (.builtin "len") (rOwnI C sp) := by
  intro pins s σ H xs us Q I r h
  obtain ⟨a, dx, fs, rfl, ha, q⟩ := h
  obtain ⟨u, rfl, ru⟩ := vals1 r
  obtain rfl : u = Value.ref a := ru
  obtain ⟨od, J⟩ := ins_inst I ha
  obtain ⟨m, hF⟩ := I.fr
  refine PySem.W.len_K hF I.ok.mod.kin J hs hf (wpAny_mono (run_at F hr.in1 rfl hb pass0 I (.cons (show RelV (.ref a) (.ref a) from rfl) .nil) q) (fun r s' z => ?_) fun _ _ z => z)
  obtain ⟨v', H', I', rv, n, rfl, hn, q'⟩ := z
  obtain ⟨t, rfl⟩ := rv
  exact ⟨hn, ⟨.int n, H', I'.tok _, ⟨_, rfl⟩, q'⟩⟩
end
theorem dec_nat {a b : Nat} : decide (V.int (a : Int) = V.int (b : Int)) = decide (a = b) := by
  rw [Bool.eq_iff_iff, decide_eq_true_iff, decide_eq_true_iff]
  constructor
  · intro h
    exact Int.ofNat.inj (V.int.inj h)
  · intro h; rw [h]
theorem ifT {b : Bool} {A B : Prop} (h : b = true) (x : A) : if b = true then A else B := by rw [if_pos h]; exact x
theorem ifF {b : Bool} {A B : Prop} (h : b = false) (x : B) : if b = true then A else B := by rw [if_neg (by rw [h]; exact Bool.false_ne_true)]; exact x
theorem tif_of {c : TT} {t u : TS} {D : Ends} {σ : L2.St} {H : Hp} (b : Bool) (hc : ∀ Q : Bool → Hp → Prop, Q b H → c σ H Q) (h : if b = true then t D σ H else u D σ H) : tIfS c t u D σ H := hc _ h
/-- a comprehension that gives f i at the i-th turn -/
theorem lc_map {J : It} {n : Nat} {G : Hp → Prop} {Y : Nat → Hp → V → Hp → Prop} (w : Walk J n G Y) {j : Nat} {te : TE} {vs : List Nat} {σ : L2.St} {H1 : Hp} {D : Addr} {Qd : Hp → Prop} (f : Nat → V) (hn : H1 D = none) (hsz : n ≤ 100000)
    (hG : ∀ i H, i ≤ n → Same H1 H → G H) (hw : ∀ x, wipe ((wipe σ vs).set j (some x)) vs = wipe σ vs)
    (hstep : ∀ i x H H', i < n → Same H1 H → Y i H x H' → Same H H' ∧ ∀ Q : VK, (∀ H2, Same H' H2 → Q (f i) H2) → te ((wipe σ vs).set j (some x)) H' Q)
    (hend : ∀ H', Same H1 H' → H' D = some (.lst ((List.range n).map f)) → Qd H') :
    ∃ W : Nat → Nat → Hp → Prop, (∃ m, W 0 m (upd H1 D (.lst []))) ∧ ∀ i m H, W i m H →
      (J.stop i H ∧ Qd H) ∨ (J.go i H ∧ ∃ Nx : Hp → Prop, (∀ H', Nx H' → ∃ m', m' < m ∧ W (i + 1) m' H') ∧ ∀ x H', J.yld i H x H' → gName j x (wipe σ vs) H' fun σ2 H2 => wipe σ2 vs = wipe σ vs ∧ tYes σ2 H2 fun b H3 =>
        if b = true then te σ2 H3 fun y H4 => ∃ acc, H4 D = some (.lst acc) ∧ acc.length < sizeLine ∧ Nx (upd H4 D (.lst (acc ++ [y]))) else Nx H3) := by
  refine lc_it (w := w) (g := gName j) (tt := tYes) (fun i H' => Same H1 H' ∧ H' D = some (.lst ((List.range i).map f))) ⟨Same.new hn, upd_same⟩ (fun i H hi hP => hG i H hi hP.1) (fun i x H' H2 hi hP hy => ?_) (fun H' hP => hend H' hP.1 hP.2)
  obtain ⟨s, eD⟩ := hP
  obtain ⟨s2, st⟩ := hstep i x H' H2 hi s hy
  refine ⟨hw x, ?_⟩
  show te _ _ _
  refine st _ fun H3 s3 => ⟨_, s3 _ _ (s2 _ _ eD), ?_, ?_, ?_⟩
  · rw [List.length_map, List.length_range, sizeLine_eq]; omega
  · intro c o e
    rw [upd_ne (ne_of_none e hn)]
    exact s3 _ _ (s2 _ _ (s _ _ e))
  · rw [upd_same, List.range_succ, List.map_append]; rfl
theorem range_map {α β : Type} {l : List α} {f : Nat → β} {g : α → β} (h : ∀ (i : Nat) (x : α), l[i]? = some x → f i = g x) : (List.range l.length).map f = l.map g := by
  refine List.ext_getElem (by simp) fun i h1 h2 => ?_
  rw [List.getElem_map, List.getElem_map, List.getElem_range]
  exact h i _ (List.getElem?_eq_getElem _)
/-- a def called by keywords alone -/
structure KB (K : PySem.W.Frag) (fd : FuncData) (ps ks : List Str) (g : List Value → List Value) (gV : List V → List V) : Prop where
  to : ∀ (s : Shared) (ws : List Value), K.In s.heap → (g ws).length = ps.length → BindsTo s fd ⟨[], ks.zip ws⟩ (ps.zip (g ws))
  rel : ∀ {zs : List V} {ws : List Value}, Vals zs ws → Vals (gV zs) (g ws)
theorem Fun.kb {K : PySem.W.Frag} {x qual : Str} {st : Stmt} {f : Addr} {fd : FuncData} {ps ks : List Str} {g : List Value → List Value} {gV : List V → List V} (F : Fun K x qual st f fd) (rel : ∀ {zs : List V} {ws : List Value}, Vals zs ws → Vals (gV zs) (g ws))
    (h : ∀ (kV doc pm : Value) (an : Option Addr) (cdv ct : Value) (ws : List Value), (g ws).length = ps.length → bindArgs (PySem.W.fnOf x qual (defArgs st) (defBody st) (defScope st) .none kV doc pm an cdv ct) ⟨[], ks.zip ws⟩ = pure (ps.zip (g ws))) : KB K fd ps ks g gV := by
  obtain ⟨oc, od, kV, doc, pm, an, cdv, ct, osl, rfl, lk, hcd⟩ := F.ex
  exact ⟨fun s ws _ hl => BindsTo.of_eq (h kV doc pm an cdv ct ws hl), rel⟩
theorem vals_rev {zs : List V} {ws : List Value} (r : Vals zs ws) : Vals zs.reverse ws.reverse := by
  induction r with
  | nil => exact .nil
  | cons a _ ih =>
    rw [List.reverse_cons, List.reverse_cons]
    exact ih.append (.cons a .nil)
section
variable {X : Cx} {CX : CXT} {k : Nat} {f : Addr} {fd : FuncData} {ps ks : List Str} {sp : Sp} {E : L2.St → XK} {x : Str} {p pos : Pos} {kws : List Keyword} {tk : TA} {g : List Value → List Value} {gV : List V → List V}
def tCallKW (sp : Sp) (gV : List V → List V) (E : L2.St → XK) (tk : TA) : TE := fun σ H Q => tk σ H fun zs H1 => sp (gV zs) H1 Q (E σ)
theorem pe_callKWS (F : FnOk X.prog X.w X.K X.mg X.base CX k f fd ps sp) (hr : Room k X.A) (hg : Gl X x) (hm : X.mg x = some (.ref f)) (hk : PySem.W.keepIn X.K (.ref f) = true) (hb : KB X.K fd ps ks g gV) (hx : ∀ σ, PassesAt CX X σ (E σ)) (hkw : PK X kws tk)
    (hall : (backToKw pos (keywordEach kws X.env)).all (·.1.isSome) = true := by rfl) (hks : (backToKw pos (keywordEach kws X.env)).filterMap (·.1) = ks := by rfl) (hdb : (x == ("__debug__" : Str)) = false := by decide)
    (hpl : ((backTo pos (starEach [] X.env)).any (·.1) || (backToKw pos (keywordEach kws X.env)).any (·.1.isNone)) = false := by rfl) : PE X (.Call (.Name x p) [] kws pos) (tCallKW sp gV E tk) := by
  refine ⟨fun pins s σ H Q I h => wpAny_Call_Name_kw (ld_glob I hg hm (PySem.W.callWith_KW0 (h₀ := X.base) I.ok.mod.kin hk hall (thn (hkw.run pos pins s σ H _ I h) fun ws s2 hh => ?_) hpl) hdb)⟩
  obtain ⟨zs, H1, I1, r, q⟩ := hh
  refine ⟨I1.kIn, ?_⟩
  rw [hks]
  have r2 := hb.rel r
  have hl : (g ws).length = ps.length := r2.length.symm.trans (F.len _ _ _ _ q)
  refine wpAny_call (codeAny_mono (F.run X.A X.stack s2 H1 ⟨[], ks.zip ws⟩ (g ws) (gV zs) Q (E σ) hr I1.env0 (hb.to s2 ws I1.kIn hl) r2 q) fun res s' hq => ?_)
  match res, hq with
  | .error e, hq => exact hx σ pins H1 s2 e s' I1 hq
  | .ok (.ret u), hq => exact I1.after hq
theorem pe_callKW (F : FnOk X.prog X.w X.K X.mg X.base CX0 k f fd ps sp) (hr : Room k X.A) (hg : Gl X x) (hm : X.mg x = some (.ref f)) (hk : PySem.W.keepIn X.K (.ref f) = true) (hb : KB X.K fd ps ks g gV) (hkw : PK X kws tk)
    (hall : (backToKw pos (keywordEach kws X.env)).all (·.1.isSome) = true := by rfl) (hks : (backToKw pos (keywordEach kws X.env)).filterMap (·.1) = ks := by rfl) (hdb : (x == ("__debug__" : Str)) = false := by decide)
    (hpl : ((backTo pos (starEach [] X.env)).any (·.1) || (backToKw pos (keywordEach kws X.env)).any (·.1.isNone)) = false := by rfl) : PE X (.Call (.Name x p) [] kws pos) (tCallKW sp gV (fun _ => E0) tk) :=
  pe_callKWS (E := fun _ => E0) F hr hg hm hk hb (fun _ _ _ _ _ _ _ h => h.elim) hkw hall hks hdb hpl
end
theorem gN {i : Nat} {x : V} {σ : L2.St} {H : Hp} {k : L2.St → Hp → Prop} (h : k (σ.set i (some x)) H) : gName i x σ H k := h
theorem seq_set {te : TE} {i : Nat} {S : TS} {D : Ends} {σ : L2.St} {H : Hp} (h : te σ H (fun v H' => S D (σ.set i (some v)) H')) : tSeq (tAsg te (gName i)) S D σ H := h
theorem none_back {H0 H : Hp} (s : Same H0 H) {a : Addr} (e : H a = none) : H0 a = none := by
  cases z : H0 a with
  | none => rfl
  | some u => rw [s _ _ z] at e; cases e
theorem Same.at_ {H0 H : Hp} (s : Same H0 H) {a : Addr} {o : HO} (e : H0 a = none) : Same H0 (upd H a o) := fun b u eb => by rw [upd_ne (ne_of_none eb e)]; exact s b u eb
theorem sz1 {a : V} : [a].length ≤ sizeLine := by rw [sizeLine_eq]; exact (by decide : 1 ≤ 16777216)
theorem sz2 {a b : V} : [a, b].length ≤ sizeLine := by rw [sizeLine_eq]; exact (by decide : 2 ≤ 16777216)
theorem sz4 {a b c d : V} : [a, b, c, d].length ≤ sizeLine := by rw [sizeLine_eq]; exact (by decide : 4 ≤ 16777216)
/-- a target that hands on what is wanted -/
def Mn (t : TGs) : Prop := ∀ (xs : List V) (σ : L2.St) (H : Hp) (A B : L2.St → Hp → Prop), (∀ σ' H', A σ' H' → B σ' H') → t xs σ H A → t xs σ H B
def MnG (g : TG) : Prop := ∀ (x : V) (σ : L2.St) (H : Hp) (A B : L2.St → Hp → Prop), (∀ σ' H', A σ' H' → B σ' H') → g x σ H A → g x σ H B
theorem mn_nil : Mn gNil := fun xs σ H A B h q => ⟨q.1, h _ _ q.2⟩
theorem mn_cons {g : TG} {u : TGs} (hg : MnG g) (hu : Mn u) : Mn (gCons g u) := fun xs σ H A B h q => by
  obtain ⟨v, r, e, q⟩ := q
  exact ⟨v, r, e, hg _ _ _ _ _ (fun σ' H' z => hu _ _ _ _ _ h z) q⟩
theorem mn_name (j : Nat) : MnG (gName j) := fun x σ H A B h q => h _ _ q
theorem mn_tup {K : PySem.W.Frag} {n : Nat} {t : TGs} (ht : Mn t) : MnG (gTup K n t) := fun x σ H A B h q => by
  obtain ⟨a, xs, e1, e2, e3, q⟩ := q
  exact ⟨a, xs, e1, e2, e3, ht _ _ _ _ _ h q⟩
/-- a comprehension: the i-th thing has R i -/
theorem lc_rel {J : It} {n : Nat} {G : Hp → Prop} {Y : Nat → Hp → V → Hp → Prop} (w : Walk J n G Y) {g : TG} {te : TE} {vs : List Nat} {σ : L2.St} {H1 : Hp} {D : Addr} {Qd : Hp → Prop} (R : Nat → V → Hp → Prop) (hn : H1 D = none) (hsz : n ≤ 100000)
    (hG : ∀ i H, i ≤ n → Same H1 H → G H)
    (hR : ∀ i v H H', (∀ b o, b ≠ D → H b = some o → H' b = some o) → R i v H → R i v H')
    (hstep : ∀ i x H H', i < n → Same H1 H → (∃ acc, H D = some (.lst acc)) → Y i H x H' → ∀ Nx : V → Hp → Prop, (∀ v H2, Same H H2 → R i v H2 → Nx v H2) → g x (wipe σ vs) H' fun σ2 H2 => wipe σ2 vs = wipe σ vs ∧ te σ2 H2 Nx)
    (hmono : MnG g)
    (hend : ∀ H' zs, Same H1 H' → H' D = some (.lst zs) → zs.length = n → (∀ i z, zs[i]? = some z → R i z H') → Qd H') :
    ∃ W : Nat → Nat → Hp → Prop, (∃ m, W 0 m (upd H1 D (.lst []))) ∧ ∀ i m H, W i m H →
      (J.stop i H ∧ Qd H) ∨ (J.go i H ∧ ∃ Nx : Hp → Prop, (∀ H', Nx H' → ∃ m', m' < m ∧ W (i + 1) m' H') ∧ ∀ x H', J.yld i H x H' → g x (wipe σ vs) H' fun σ2 H2 => wipe σ2 vs = wipe σ vs ∧ tYes σ2 H2 fun b H3 =>
        if b = true then te σ2 H3 fun y H4 => ∃ acc, H4 D = some (.lst acc) ∧ acc.length < sizeLine ∧ Nx (upd H4 D (.lst (acc ++ [y]))) else Nx H3) := by
  refine lc_it (w := w) (g := g) (tt := tYes) (fun i H' => Same H1 H' ∧ ∃ zs, H' D = some (.lst zs) ∧ zs.length = i ∧ ∀ j z, zs[j]? = some z → R j z H') ⟨Same.new hn, [], upd_same, rfl, fun j z h => by cases h⟩ (fun i H hi hP => hG i H hi hP.1) (fun i x H' H2 hi hP hy => ?_) (fun H' hP => ?_)
  · obtain ⟨s, zs, eD, lz, rz⟩ := hP
    refine hmono _ _ _ _ _ (fun σ' H3 h => ⟨h.1, yes_of ?_⟩) (hstep i x H' H2 hi s ⟨zs, eD⟩ hy (fun y H4 => ∃ acc, H4 D = some (.lst acc) ∧ acc.length < sizeLine ∧ (fun i H' => Same H1 H' ∧ ∃ zs, H' D = some (.lst zs) ∧ zs.length = i ∧ ∀ j z, zs[j]? = some z → R j z H') (i + 1) (upd H4 D (.lst (acc ++ [y])))) fun v H4 s4 rv => ?_)
    · rw [if_pos rfl]
      exact h.2
    · refine ⟨zs, s4 _ _ eD, by rw [lz, sizeLine_eq]; omega, fun c o e => ?_, zs ++ [v], upd_same, by rw [List.length_append, lz]; rfl, fun j z hz => ?_⟩
      · rw [upd_ne (ne_of_none e hn)]
        exact s4 _ _ (s _ _ e)
      · have keep : ∀ b o, b ≠ D → H4 b = some o → (upd H4 D (.lst (zs ++ [v]))) b = some o := fun b o n e => by rw [upd_ne n]; exact e
        by_cases q : j < zs.length
        · rw [List.getElem?_append_left q] at hz
          exact hR j z _ _ keep (hR j z _ _ (fun b o _ e => s4 b o e) (rz j z hz))
        · rw [List.getElem?_append_right (by omega)] at hz
          have z0 : j - zs.length = 0 := by
            by_cases q2 : j - zs.length = 0
            · exact q2
            · rw [List.getElem?_eq_none (by simp; omega)] at hz; cases hz
          rw [z0] at hz
          cases hz
          have : j = i := by omega
          subst this
          exact hR _ _ _ _ keep rv
  · obtain ⟨s, zs, eD, lz, rz⟩ := hP
    exact hend H' zs s eD lz rz
/-- a dict's comprehension over a walk -/
theorem dc_it {J : It} {n : Nat} {G : Hp → Prop} {Y : Nat → Hp → V → Hp → Prop} (w : Walk J n G Y) {g : TG} {tt : TT} {tk tv : TE} {vs : List Nat} {σ : L2.St} {H1 : Hp} {D : Addr} {Qd : Hp → Prop} (Pv : Nat → Hp → Prop) (h0 : Pv 0 (upd H1 D (.dK []))) (hG : ∀ i H, i ≤ n → Pv i H → G H)
    (hs : ∀ i x H H', i < n → Pv i H → Y i H x H' → g x (wipe σ vs) H' fun σ2 H2 => wipe σ2 vs = wipe σ vs ∧ tt σ2 H2 fun b H3 =>
      if b = true then tk σ2 H3 fun y H4 => tv σ2 H4 fun z H5 => ∃ kvs k, y = kV k ∧ H5 D = some (.dK kvs) ∧ kvs.length < sizeLine ∧ Pv (i + 1) (upd H5 D (.dK (putK kvs k z))) else Pv (i + 1) H3) (hd : ∀ H, Pv n H → Qd H) :
    ∃ W : Nat → Nat → Hp → Prop, (∃ m, W 0 m (upd H1 D (.dK []))) ∧ ∀ i m H, W i m H →
      (J.stop i H ∧ Qd H) ∨ (J.go i H ∧ ∃ Nx : Hp → Prop, (∀ H', Nx H' → ∃ m', m' < m ∧ W (i + 1) m' H') ∧ ∀ x H', J.yld i H x H' → g x (wipe σ vs) H' fun σ2 H2 => wipe σ2 vs = wipe σ vs ∧ tt σ2 H2 fun b H3 =>
        if b = true then tk σ2 H3 fun y H4 => tv σ2 H4 fun z H5 => ∃ kvs k, y = kV k ∧ H5 D = some (.dK kvs) ∧ kvs.length < sizeLine ∧ Nx (upd H5 D (.dK (putK kvs k z))) else Nx H3) := by
  refine ⟨fun i m H => m = n - i ∧ i ≤ n ∧ Pv i H, ⟨n, by simp, Nat.zero_le _, h0⟩, ?_⟩
  rintro i m H ⟨rfl, hi, p⟩
  have q := hG i H hi p
  by_cases hlt : i < n
  · exact .inr ⟨w.goes i H hlt q, Pv (i + 1), fun H' p' => ⟨n - (i + 1), by omega, rfl, hlt, p'⟩, fun x H' y => hs i x H H' hlt p (w.yields i H x H' hlt q y)⟩
  · have e : i = n := by omega
    subst e
    exact .inl ⟨w.stops H q, hd H p⟩
/-! ### locking -/
/-- the dicts of p are locked, all else stands -/
def LockP (p : Addr → Prop) (H H' : Hp) : Prop := ∀ b, (p b → ∀ kvs, H b = some (.dK kvs) → ∃ o, H' b = some (.frz o (.dK kvs))) ∧ ((¬ p b ∨ ∀ kvs, H b ≠ some (.dK kvs)) → H' b = H b)
theorem lock_list {X : Cx} {pins : List (Addr × Obj)} {σ : L2.St} {s : Shared} : ∀ (D : List Addr) (H : Hp), Inv X pins σ H s → ∃ H', Inv X pins σ H' s ∧ LockP (fun b => b ∈ D) H H'
  | [], H, I => ⟨H, I, fun b => ⟨(fun h => by cases h), fun _ => rfl⟩⟩
  | d :: D, H, I => by
    obtain ⟨H1, I1, L⟩ := lock_list D H I
    by_cases z : d ∈ D ∨ ∀ kvs, H d ≠ some (.dK kvs)
    · refine ⟨H1, I1, fun b => ⟨fun hb kvs e => ?_, fun h => (L b).2 ?_⟩⟩
      · rcases List.mem_cons.mp hb with y | y
        · subst y
          rcases z with z | z
          · exact (L b).1 z kvs e
          · exact absurd e (z kvs)
        · exact (L b).1 y kvs e
      · rcases h with h | h
        · exact .inl fun y => h (List.mem_cons_of_mem _ y)
        · exact .inr h
    · have z1 : d ∉ D := fun y => z (.inl y)
      obtain ⟨kvs, e⟩ : ∃ kvs, H d = some (.dK kvs) := Classical.byContradiction fun y => z (.inr fun kvs e => y ⟨kvs, e⟩)
      have e1 : H1 d = some (.dK kvs) := by rw [(L d).2 (.inl z1)]; exact e
      obtain ⟨od, I2⟩ := I1.lock e1 True.intro
      refine ⟨_, I2, fun b => ⟨fun hb kvs' e' => ?_, fun h => ?_⟩⟩
      · by_cases y : b = d
        · subst y
          rw [e] at e'
          cases e'
          exact ⟨od, upd_same⟩
        · rw [upd_ne y]
          exact (L b).1 ((List.mem_cons.mp hb).resolve_left y) kvs' e'
      · have y : b ≠ d := fun y => by
          subst y
          rcases h with h | h
          · exact h List.mem_cons_self
          · exact h kvs e
        rw [upd_ne y]
        refine (L b).2 ?_
        rcases h with h | h
        · exact .inl fun y => h (List.mem_cons_of_mem _ y)
        · exact .inr h
theorem Inv.lockP {X : Cx} {pins : List (Addr × Obj)} {σ : L2.St} {s : Shared} {H : Hp} (I : Inv X pins σ H s) (p : Addr → Prop) : ∃ H', Inv X pins σ H' s ∧ LockP p H H' := by
  classical
  obtain ⟨H', I', L⟩ := lock_list ((List.range s.heap.objs.size).filter fun b => decide (p b)) H I
  refine ⟨H', I', fun b => ⟨fun hp kvs e => (L b).1 (List.mem_filter.mpr ⟨List.mem_range.mpr (I.hok.lt e), by simpa using hp⟩) kvs e, fun h => (L b).2 ?_⟩⟩
  rcases h with h | h
  · exact .inl fun y => h (by simpa using (List.mem_filter.mp y).2)
  · exact .inr h
/-- dicts are locked behind an expression, which ones is the reading's choice -/
def tLk (td : TE) : TE := fun σ H Q => td σ H fun x H1 => ∃ p : Addr → Prop, ∀ H', LockP p H1 H' → Q x H'
theorem pe_lock {X : Cx} {e : Expr} {td : TE} (he : PE X e td) : PE X e (tLk td) := by
  refine ⟨fun pins s σ H Q I h => ?_⟩
  refine thn (he.run pins s σ H _ I h) fun v s1 ⟨x, H1, I1, r1, p, q⟩ => ?_
  obtain ⟨H', I', L⟩ := Inv.lockP I1 p
  exact ⟨x, H', I', r1, q H' L⟩
theorem LockP.same {Hs H H' : Hp} (L : LockP (fun b => Hs b = none) H H') (s : Same Hs H) : Same Hs H' := fun b o e => by
  rw [(L b).2 (.inl (show ¬ (Hs b = none) by rw [e]; simp))]
  exact s _ _ e
/-! ### plain data -/
theorem can_map {α : Type} {f : α → PyData} : ∀ {l : List α}, (∀ x ∈ l, PyData.canLay0 (f x) = true) → PyData.canLayAll0 (l.map f) = true
  | [], _ => by simp [PyData.canLayAll0]
  | x :: l, h => by
    rw [List.map_cons]
    simp only [PyData.canLayAll0, Bool.and_eq_true]
    exact ⟨h x (List.mem_cons_self ..), can_map fun y hy => h y (List.mem_cons_of_mem _ hy)⟩
theorem depth_map {α : Type} {f : α → PyData} {n : Nat} : ∀ {l : List α}, (∀ x ∈ l, PyData.depth (f x) ≤ n) → PyData.depthAll (l.map f) ≤ n
  | [], _ => by simp [PyData.depthAll]
  | x :: l, h => by
    rw [List.map_cons]
    simp only [PyData.depthAll]
    exact Nat.max_le.mpr ⟨h x (List.mem_cons_self ..), depth_map fun y hy => h y (List.mem_cons_of_mem _ hy)⟩
theorem eqv_map {α : Type} [DecidableEq α] {f : α → PyData} (h : ∀ x y, PyData.eqv (f x) (f y) = decide (x = y)) : ∀ (l m : List α), PyData.eqvAll (l.map f) (m.map f) = decide (l = m)
  | [], [] => by simp [PyData.eqvAll]
  | [], y :: m => by simp [PyData.eqvAll]
  | x :: l, [] => by simp [PyData.eqvAll]
  | x :: l, y :: m => by
    rw [List.map_cons, List.map_cons]
    simp only [PyData.eqvAll]
    rw [h x y, eqv_map h l m]
    rw [Bool.eq_iff_iff]
    simp
mutual
def plainD : PyData → Bool
  | .dict _ => false
  | .list ds => plainAll ds
  | .tuple ds => plainAll ds
  | _ => true
def plainAll : List PyData → Bool
  | [] => true
  | d :: ds => plainD d && plainAll ds
end
theorem plain_map {α : Type} {f : α → PyData} : ∀ {l : List α}, (∀ x ∈ l, plainD (f x) = true) → plainAll (l.map f) = true
  | [], _ => by simp [plainAll]
  | x :: l, h => by
    rw [List.map_cons]
    simp only [plainAll, Bool.and_eq_true]
    exact ⟨h x (List.mem_cons_self ..), plain_map fun y hy => h y (List.mem_cons_of_mem _ hy)⟩
mutual
theorem Dx.dp {K : PySem.W.Frag} {H : Hp} : ∀ {v : V} {d : PyData}, Dx H v d → plainD d = true → Dp K H v d
  | _, _, .non, _ => .non
  | _, _, .bl b, _ => .bl b
  | _, _, .int i, _ => .int i
  | _, _, .str x, _ => .str x
  | _, _, .lst e h, k => .lst (SqL.of e) (DxAll.dp h k)
  | _, _, .tup e h, k => .tup (SqT.of e) (DxAll.dp h k)
  | _, _, .dic e h, k => by cases k
theorem DxAll.dp {K : PySem.W.Frag} {H : Hp} : ∀ {vs : List V} {ds : List PyData}, DxAll H vs ds → plainAll ds = true → DpAll K H vs ds
  | _, _, .nil, _ => .nil
  | _, _, .cons a b, k => .cons (Dx.dp a (Bool.and_eq_true_iff.mp k).1) (DxAll.dp b (Bool.and_eq_true_iff.mp k).2)
end
/-! ### places of things -/
section
variable {α κ : Type} [DecidableEq α] [DecidableEq κ]
def plc (φ : α → κ) (k : Nat) (o : List α) : List (κ × V) := (o.zipIdx k).map fun p => (φ p.1, V.int (p.2 : Int))
theorem plc_len (φ : α → κ) (k : Nat) (o : List α) : (plc φ k o).length = o.length := by unfold plc; rw [List.length_map, List.length_zipIdx]
theorem plc_val {φ : α → κ} (inj : ∀ a b, φ a = φ b → a = b) (t : α) : ∀ (o : List α) (k : Nat), valV (plc φ k o) (φ t) = if t ∈ o then some (.int ((k + ixM o t : Nat) : Int)) else none
  | [], k => by simp [plc, valV]
  | x :: o, k => by
    have e : plc φ k (x :: o) = (φ x, V.int (k : Int)) :: plc φ (k + 1) o := rfl
    rw [e]
    by_cases h : x = t
    · subst h
      rw [valV_pos rfl]
      unfold ixM
      simp
    · rw [valV_neg (fun z => h (inj _ _ z)), plc_val inj t o (k + 1)]
      unfold ixM
      rw [List.idxOf_cons, show (x == t) = false from beq_eq_false_iff_ne.mpr h]
      simp only [cond_false, List.mem_cons]
      by_cases m : t ∈ o
      · rw [if_pos m, if_pos (.inr m)]
        congr 3
        omega
      · rw [if_neg m, if_neg (by rintro (z | z); exact h z.symm; exact m z)]
theorem plc_put {φ : α → κ} (inj : ∀ a b, φ a = φ b → a = b) {o : List α} {t : α} (h : t ∉ o) {n : Int} (hn : n = (o.length : Nat)) : putK (plc φ 0 o) (φ t) (.int n) = plc φ 0 (o ++ [t]) := by
  subst hn
  rw [putK_new _ (by rw [plc_val inj, if_neg h])]
  unfold plc
  rw [List.zipIdx_append, List.map_append]
  simp
end
/-! ### tables -/
def rowK (r : List (Str × Nat)) : List (Key × V) := r.map fun e => ((.inr e.1 : Key), V.int (e.2 : Int))
theorem rowK_val (z : Str) : ∀ r : List (Str × Nat), valV (rowK r) (.inr z) = (lkp r z).map fun (g : Nat) => V.int (g : Int)
  | [] => rfl
  | e :: r => by
    show valV (((.inr e.1 : Key), V.int (e.2 : Int)) :: rowK r) (.inr z) = _
    rw [lkp_cons]
    by_cases h : e.1 = z
    · rw [if_pos h, valV_pos (by rw [h])]; rfl
    · rw [if_neg h, valV_neg (fun q => h (Sum.inr.inj q))]
      exact rowK_val z r
theorem rowK_len (r : List (Str × Nat)) : (rowK r).length = r.length := List.length_map ..
theorem rowK_put {r : List (Str × Nat)} {z : Str} (h : lkp r z = none) (g : Nat) : putK (rowK r) (.inr z) (.int (g : Int)) = rowK (r ++ [(z, g)]) := by
  rw [putK_new _ (by rw [rowK_val, h]; rfl)]
  unfold rowK
  rw [List.map_append]; rfl
/-- the locked table c, its rows at ls -/
structure TbF (H : Hp) (F : Addr) (ls : List Addr) (c : Ch) : Prop where
  e : H F = some (.lst (ls.map V.ref))
  l : ls.length = c.length
  k : ∀ (i : Nat) (a : Addr), ls[i]? = some a → ∃ o, H a = some (.frz o (.dK (rowK (rowC c i))))
theorem TbF.same {H H' : Hp} {F : Addr} {ls : List Addr} {c : Ch} (h : TbF H F ls c) (s : Same H H') : TbF H' F ls c := ⟨s _ _ h.e, h.l, fun i a q => let ⟨o, e⟩ := h.k i a q; ⟨o, s _ _ e⟩⟩
theorem TbF.row {H : Hp} {F : Addr} {ls : List Addr} {c : Ch} (h : TbF H F ls c) {i : Nat} (hi : i < c.length) : ∃ a o, ls[i]? = some a ∧ atI (ls.map V.ref) (i : Int) = some (.ref a) ∧ H a = some (.frz o (.dK (rowK (rowC c i)))) := by
  have e := List.getElem?_eq_getElem (show i < ls.length by rw [h.l]; exact hi)
  obtain ⟨o, k⟩ := h.k i _ e
  exact ⟨_, o, e, atI_nat (by rw [List.getElem?_map, e]; rfl), k⟩
end K88
end

section
set_option maxHeartbeats 4000000
/-! what is passed is looked at -/
namespace K88
open PySem PySem.Spec PyProof.Rows L2
def spInt : Sp := fun vs H Q _ => ∃ i : Int, vs = [.int i] ∧ Q (.bl true) H
def spBtw : Sp := fun vs H Q _ => ∃ i lo hi : Int, vs = [.int i, .int lo, .int hi] ∧ Q (.bl (decide (lo ≤ i) && decide (i ≤ hi))) H
def spCnt : Sp := fun vs H Q _ => ∃ i : Int, vs = [.int i] ∧ Q (.bl (decide (0 ≤ i))) H
def spSgn : Sp := fun vs H Q _ => ∃ (c : Nat) (g : Str), vs = [.str ⟨#[c]⟩, .str g] ∧ Q (.bl (decide (c ∈ g.cps.toList))) H
def spMany : Sp := fun vs H Q _ => ∃ i : Int, vs = [.int i] ∧ 2 ≤ i ∧ i ≤ 4 ∧ Q .non H
def spState : Sp := fun vs H Q _ => ∃ i n : Int, vs = [.int i, .int n] ∧ 0 ≤ i ∧ i < n ∧ Q .non H
def spLength : Sp := fun vs H Q _ => ∃ i a b : Int, vs = [.int i, .int a, .int b] ∧ a ≤ i ∧ i ≤ b ∧ Q .non H
def spIsLst : Sp := fun vs H Q _ => ∃ (a : Addr) (xs : List V), vs = [.ref a] ∧ H a = some (.lst xs) ∧ ∀ H', Same H H' → Q (.bl true) H'
theorem map_rep (n : Nat) (b : Bool) : (List.replicate n b).map V.bl = List.replicate n (V.bl b) := List.map_replicate
theorem okR_len {w : Nat} {r : List (Str × Nat)} (ok : okR w r) : r.length ≤ 4 := by
  have := congrArg List.length (show keysR r = _ from ok)
  unfold keysR at this
  rw [List.length_map] at this
  rw [this]
  refine Nat.le_trans (List.length_filter_le ..) ?_
  rw [List.length_take]
  exact Nat.min_le_right ..
/-- the signs of w letters -/
def okSg (w : Nat) (g : Str) : Prop := g.cps.toList.map (fun c => (⟨#[c]⟩ : Str)) = sgs.take w
theorem okSg_in {w : Nat} {g : Str} (h : okSg w g) {z : Str} (hz : z ∈ sgs.take w) : ∃ c, z = ⟨#[c]⟩ ∧ c ∈ g.cps.toList := by
  rw [← show _ = sgs.take w from h] at hz
  obtain ⟨c, hc, rfl⟩ := List.mem_map.mp hz
  exact ⟨c, rfl, hc⟩
theorem okSg_len {w : Nat} {g : Str} (h : okSg w g) : g.cps.toList.length = (sgs.take w).length := by
  rw [← show _ = sgs.take w from h, List.length_map]
/-- a table whose dicts hold the rows of c, each in some order -/
structure TbP (H : Hp) (F : Addr) (ls : List Addr) (c : Ch) : Prop where
  e : H F = some (.lst (ls.map V.ref))
  l : ls.length = c.length
  k : ∀ (i : Nat) (a : Addr), ls[i]? = some a → ∃ o r, r.Perm (rowC c i) ∧ H a = some (.frz o (.dK (rowK r)))
theorem TbP.same {H H' : Hp} {F : Addr} {ls : List Addr} {c : Ch} (h : TbP H F ls c) (s : Same H H') : TbP H' F ls c := ⟨s _ _ h.e, h.l, fun i a q => let ⟨o, r, p, e⟩ := h.k i a q; ⟨o, r, p, s _ _ e⟩⟩
theorem TbF.toP {H : Hp} {F : Addr} {ls : List Addr} {c : Ch} (h : TbF H F ls c) : TbP H F ls c := ⟨h.e, h.l, fun i a q => let ⟨o, e⟩ := h.k i a q; ⟨o, _, .refl _, e⟩⟩
theorem TbP.row {H : Hp} {F : Addr} {ls : List Addr} {c : Ch} (h : TbP H F ls c) {i : Nat} (hi : i < c.length) : ∃ a o r, r.Perm (rowC c i) ∧ ls[i]? = some a ∧ atI (ls.map V.ref) (i : Int) = some (.ref a) ∧ H a = some (.frz o (.dK (rowK r))) := by
  have e := List.getElem?_eq_getElem (show i < ls.length by rw [h.l]; exact hi)
  obtain ⟨o, r, p, k⟩ := h.k i _ e
  exact ⟨_, o, r, p, e, atI_nat (by rw [List.getElem?_map, e]; rfl), k⟩
theorem lkp_perm {r r' : List (Str × Nat)} (nd : (keysR r).Nodup) (p : r'.Perm r) (z : Str) : lkp r' z = lkp r z := by
  have nd' : (keysR r').Nodup := (p.map (fun e : Str × Nat => e.1)).nodup_iff.mpr nd
  by_cases h : z ∈ keysR r'
  · obtain ⟨e, he, rfl⟩ := List.mem_map.mp h
    rw [lkp_at nd' he, lkp_at nd (p.mem_iff.mp he)]
  · rw [lkp_none h, lkp_none fun q => h ((p.map (fun e : Str × Nat => e.1)).mem_iff.mpr q)]
def NdT (c : Ch) : Prop := ∀ i, i < c.length → (keysR (rowC c i)).Nodup
theorem okT_nd {w : Nat} {c : Ch} (ok : okT w c) : NdT c := fun i hi => okR_nd (rowOk ok hi).1
def spDict : Sp := fun vs H Q _ => ∃ (a : Addr) (o : Obj) (r : List (Str × Nat)) (w : Nat) (g : Str) (n : Nat), vs = [.ref a, .str g, .int (n : Int)] ∧ H a = some (.frz o (.dK (rowK r))) ∧ (r.length ≤ 4 ∧ ∀ e ∈ r, e.1 ∈ sgs.take w) ∧ okSg w g ∧ (∀ e ∈ r, e.2 < n) ∧ ∀ H', Same H H' → Q (.bl true) H'
def spCTab : Sp := fun vs H Q _ => ∃ (F : Addr) (ls : List Addr) (c : Ch) (w : Nat) (g : Str), vs = [.ref F, .str g] ∧ TbP H F ls c ∧ WfC c ∧ okT w c ∧ c.length ≤ 64 ∧ okSg w g ∧ ∀ H', Same H H' → Q .non H'
section
variable {P : Program} {w : World} {K : PySem.W.Frag} {mg : Str → Option Value} {base : Heap} {ad : Str → Addr} {fd : Str → FuncData}
theorem scIsInteger : FnScope ["value"] ["value"] (defScope sIsInteger) := ⟨rfl, rfl, rfl, by decide +kernel, rfl, by decide +kernel, by decide +kernel⟩
theorem ok_is_integer (X : Tx K mg ad fd) : FnOk P w K mg base CX0 1 (ad "is_integer") (fd "is_integer") ["value"] spInt := by
  refine X.F_is_integer.ok scIsInteger (fun vs H Q E h => ?_) (fun cdv A outer s H vs Q E hr h => ?_)
  · obtain ⟨i, rfl, q⟩ := h
    rfl
  · obtain ⟨i, rfl, q⟩ := h
    refine ⟨_, (pss_one (ps_ret (by exact (pe_and (pe_callB call_isi (by rfl) X.m_isinstance (by decide +kernel) (pa_cons (pv 0) (pa_cons (pe_bltn (v := .ty "int") (by rfl) X.m_int (by decide +kernel) rfl) pa_nil))) (pe_one (pe_not (pe_callB call_isi (by rfl) X.m_isinstance (by decide +kernel) (pa_cons (pv 0) (pa_cons (pe_bltn (v := .ty "bool") (by rfl) X.m_bool (by decide +kernel) rfl) pa_nil))))))))), ?_⟩
    refine ⟨.int i, rfl, .int i, .ty "int", _, _, _, rfl, .ty _, dx_ty (.int i), kit_ty (kit_i (.int i)), _, rfl, ?_⟩
    exact ⟨.int i, rfl, .int i, .ty "bool", _, _, _, rfl, .ty _, dx_ty (.int i), kit_ty (kit_b (.int i)), _, rfl, q⟩
theorem scIsBetween : FnScope ["value", "low", "high"] ["value", "low", "high"] (defScope sIsBetween) := ⟨rfl, rfl, rfl, by decide +kernel, rfl, by decide +kernel, by decide +kernel⟩
theorem ok_is_between (X : Tx K mg ad fd) : FnOk P w K mg base CX0 2 (ad "is_between") (fd "is_between") ["value", "low", "high"] spBtw := by
  have G_is_integer := ok_is_integer (P := P) (w := w) (base := base) X
  refine X.F_is_between.ok scIsBetween (fun vs H Q E h => ?_) (fun cdv A outer s H vs Q E hr h => ?_)
  · obtain ⟨i, lo, hi, rfl, q⟩ := h
    rfl
  · obtain ⟨i, lo, hi, rfl, q⟩ := h
    have HR_is_integer : Room 1 _ := hr
    refine ⟨_, (pss_one (ps_ret (by exact (pe_and (pe_call G_is_integer HR_is_integer (by rfl) X.g_is_integer X.F_is_integer.kp X.b_is_integer .nil pass0 (pa_cons (pv 0) pa_nil)) (pe_one (pe_chain op_le op_le (pv 1) (pv 0) (pv 2))))))), ?_⟩
    refine ⟨.int i, rfl, i, rfl, _, rfl, ?_⟩
    refine ⟨.int lo, rfl, .int i, rfl, lo, i, rfl, rfl, _, rfl, ?_⟩
    cases e : decide (lo ≤ i) with
    | true =>
      rw [e] at q
      exact iteT ⟨.int hi, rfl, i, hi, rfl, rfl, q⟩
    | false =>
      rw [e] at q
      exact iteF q
theorem scIsCount : FnScope ["value"] ["value"] (defScope sIsCount) := ⟨rfl, rfl, rfl, by decide +kernel, rfl, by decide +kernel, by decide +kernel⟩
theorem ok_is_count (X : Tx K mg ad fd) : FnOk P w K mg base CX0 2 (ad "is_count") (fd "is_count") ["value"] spCnt := by
  have G_is_integer := ok_is_integer (P := P) (w := w) (base := base) X
  refine X.F_is_count.ok scIsCount (fun vs H Q E h => ?_) (fun cdv A outer s H vs Q E hr h => ?_)
  · obtain ⟨i, rfl, q⟩ := h
    rfl
  · obtain ⟨i, rfl, q⟩ := h
    have HR_is_integer : Room 1 _ := hr
    refine ⟨_, (pss_one (ps_ret (by exact (pe_and (pe_call G_is_integer HR_is_integer (by rfl) X.g_is_integer X.F_is_integer.kp X.b_is_integer .nil pass0 (pa_cons (pv 0) pa_nil)) (pe_one (pe_cmpR op_ge (pv 0) pe_int (nomark _))))))), ?_⟩
    exact ⟨.int i, rfl, i, rfl, _, rfl, .int i, rfl, i, 0, rfl, rfl, q⟩
theorem scIsSign : FnScope ["value", "signs"] ["value", "signs"] (defScope sIsSign) := ⟨rfl, rfl, rfl, by decide +kernel, rfl, by decide +kernel, by decide +kernel⟩
theorem ok_is_sign (X : Tx K mg ad fd) : FnOk P w K mg base CX0 1 (ad "is_sign") (fd "is_sign") ["value", "signs"] spSgn := by
  refine X.F_is_sign.ok scIsSign (fun vs H Q E h => ?_) (fun cdv A outer s H vs Q E hr h => ?_)
  · obtain ⟨c, g, rfl, q⟩ := h
    rfl
  · obtain ⟨c, g, rfl, q⟩ := h
    refine ⟨_, (pss_one (ps_ret (by exact (pe_and (pe_callB call_isi (by rfl) X.m_isinstance (by decide +kernel) (pa_cons (pv 0) (pa_cons (pe_bltn (v := .ty "str") (by rfl) X.m_str (by decide +kernel) rfl) pa_nil))) (pe_and (pe_cmpR op_eq (pe_callB call_len (by rfl) X.m_len (by decide +kernel) (pa_cons (pv 0) pa_nil)) pe_int (nomark _)) (pe_one (pe_cmpR op_in_sign (pv 0) (pv 1) rfl))))))), ?_⟩
    refine ⟨.str ⟨#[c]⟩, rfl, .str ⟨#[c]⟩, .ty "str", _, _, _, rfl, .ty _, dx_ty (.str _), kit_ty (kit_s (.str _)), _, rfl, ?_⟩
    refine ⟨.str ⟨#[c]⟩, rfl, .str ⟨#[c]⟩, 1, rfl, ⟨(by show 1 ≤ sizeLine; decide), rfl⟩, rfl, _, rfl, ?_⟩
    exact ⟨.str ⟨#[c]⟩, rfl, .str g, rfl, c, g, rfl, rfl, q⟩
theorem scCheckMany : FnScope ["many"] ["many"] (defScope sCheckMany) := ⟨rfl, rfl, rfl, by decide +kernel, rfl, by decide +kernel, by decide +kernel⟩
theorem ok_check_many (X : Tx K mg ad fd) : FnOk P w K mg base CX0 3 (ad "check_many") (fd "check_many") ["many"] spMany := by
  have G_is_between := ok_is_between (P := P) (w := w) (base := base) X
  refine X.F_check_many.ok scCheckMany (fun vs H Q E h => ?_) (fun cdv A outer s H vs Q E hr h => ?_)
  · obtain ⟨i, rfl, h1, h2, q⟩ := h
    rfl
  · obtain ⟨i, rfl, h1, h2, q⟩ := h
    have HR_is_between : Room 2 _ := hr
    refine ⟨_, (pss_one (ps_if (pt_not (pt_val (pe_call G_is_between HR_is_between (by rfl) X.g_is_between X.F_is_between.kp X.b_is_between .nil pass0 (pa_cons (pv 0) (pa_cons pe_int (pa_cons pe_int pa_nil))))))
  (pss_one ps_never)
  pss_nil)), ?_⟩
    refine ⟨.int i, rfl, i, 2, 4, rfl, _, rfl, ?_⟩
    rw [decide_eq_true h1, decide_eq_true h2]
    exact iteF q
theorem scIsList : FnScope ["value"] ["value"] (defScope sIsList) := ⟨rfl, rfl, rfl, by decide +kernel, rfl, by decide +kernel, by decide +kernel⟩
theorem ok_is_list (X : Tx K mg ad fd) : FnOk P w K mg base CX0 1 (ad "is_list") (fd "is_list") ["value"] spIsLst := by
  refine X.F_is_list.ok scIsList (fun vs H Q E h => ?_) (fun cdv A outer s H vs Q E hr h => ?_)
  · obtain ⟨a, xs, rfl, ha, k⟩ := h
    rfl
  · obtain ⟨a, xs, rfl, ha, k⟩ := h
    refine ⟨_, (pss_one (ps_ret (by exact (pe_callB call_isiT (by rfl) X.m_isinstance (by decide +kernel) (pa_cons (pv 0) (pa_cons (pe_tup (pa_cons (pe_bltn (v := .ty "list") (by rfl) X.m_list (by decide +kernel) rfl) (pa_cons (pe_bltn (v := .ty "tuple") (by rfl) X.m_tuple (by decide +kernel) rfl) pa_nil))) pa_nil)))))), ?_⟩
    refine ⟨.ref a, rfl, (by show 2 ≤ sizeLine; decide), fun t ht => ⟨.ref a, t, _, _, _, _, rfl, upd_same, .cons (.ty _) (.cons (.ty _) .nil), .base (.lst (Same.new ht _ _ ha)), ?_, k _ (Same.new ht)⟩⟩
    have e : kitB "list" "list" = some true := by decide +kernel
    show PySem.W.kitAny K (.type "list") [.type "list", .type "tuple"] = some true
    unfold PySem.W.kitAny
    rw [kit_ty (K := K) e]
theorem scIsDictOfState : FnScope ["value", "signs", "size", "sign", "to"] ["value", "signs", "size"] (defScope sIsDictOfState) := ⟨rfl, rfl, rfl, by decide +kernel, rfl, by decide +kernel, by decide +kernel⟩
theorem ok_is_dict (X : Tx K mg ad fd) : FnOk P w K mg base CX0 3 (ad "is_dict_of_state") (fd "is_dict_of_state") ["value", "signs", "size"] spDict := by
  have G_is_sign := ok_is_sign (P := P) (w := w) (base := base) X
  have G_is_count := ok_is_count (P := P) (w := w) (base := base) X
  refine X.F_is_dict_of_state.ok scIsDictOfState (fun vs H Q E h => ?_) (fun cdv A outer s H vs Q E hr h => ?_)
  · obtain ⟨a, o, r, w, g, n, rfl, ha, ok, sg, lt, k⟩ := h
    rfl
  · obtain ⟨a, o, r, w, g, n, rfl, ha, ok, sg, lt, k⟩ := h
    have HR_is_sign : Room 1 _ := hr.mono (by decide)
    have HR_is_count : Room 2 _ := hr
    refine ⟨_, (pss_cons (ps_if (pt_not (pt_val (pe_callB call_isi (by rfl) X.m_isinstance (by decide +kernel) (pa_cons (pv 0) (pa_cons (pe_bltn (v := .ty "dict") (by rfl) X.m_dict (by decide +kernel) rfl) pa_nil)))))
  (pss_one (ps_ret (by exact pe_bl)))
  pss_nil)
  (pss_cons (ps_if (pt_not (pt_val (pe_callB (cr_all rfl) (by rfl) X.m_all (by decide +kernel) (pa_cons (pe_lc (own := [("sign", 3)]) (g := gName 3) rfl scIsDictOfState.nd (pi_keys (pv 0)) (blkOk_by (own := [("sign", 3)]) (N := ["value", "signs", "size", "sign", "to"]) (sc := defScope sIsDictOfState) (by decide +kernel)) (fun _ _ _ _ _ => pg_name (i := 3) scIsDictOfState.nd rfl (Or.inl rfl)) (fun _ _ _ _ _ => pts_nil) (fun _ _ _ _ _ => (pe_call G_is_sign HR_is_sign (by rfl) X.g_is_sign X.F_is_sign.kp X.b_is_sign .nil pass0 (pa_cons (pv 3) (pa_cons (pv 1) pa_nil))))) pa_nil))))
  (pss_one (ps_ret (by exact pe_bl)))
  pss_nil)
  (pss_one (ps_ret (by exact (pe_callB (cr_all rfl) (by rfl) X.m_all (by decide +kernel) (pa_cons (pe_lc (own := [("to", 4)]) (g := gName 4) rfl scIsDictOfState.nd (pi_values (pv 0)) (blkOk_by (own := [("to", 4)]) (N := ["value", "signs", "size", "sign", "to"]) (sc := defScope sIsDictOfState) (by decide +kernel)) (fun _ _ _ _ _ => pg_name (i := 4) scIsDictOfState.nd rfl (Or.inl rfl)) (fun _ _ _ _ _ => pts_nil) (fun _ _ _ _ _ => (pe_and (pe_call G_is_count HR_is_count (by rfl) X.g_is_count X.F_is_count.kp X.b_is_count .nil pass0 (pa_cons (pv 4) pa_nil)) (pe_one (pe_cmpR op_lt (pv 4) (pv 2) (nomark _)))))) pa_nil))))))), ?_⟩
    have ed : kitB "dict" "dict" = some true := by decide +kernel
    refine ⟨.ref a, rfl, .ref a, .ty "dict", _, _, _, rfl, .ty _, .fDict ha, kit_ty ed, true, rfl, iteF ?_⟩
    refine ⟨.ref a, rfl, a, o, rfl, .inl ⟨rowK r, ha, fun D hD => ?_⟩⟩
    have lr := ok.1
    have at_ : ∀ {i : Nat} {k : Key} {v : V}, (rowK r)[i]? = some (k, v) → ∃ e ∈ r, k = .inr e.1 ∧ v = .int (e.2 : Int) := fun {i k v} q => by
      unfold rowK at q
      rw [List.getElem?_map] at q
      cases er : r[i]? with
      | none => rw [er] at q; cases q
      | some e =>
        rw [er] at q
        cases q
        exact ⟨e, List.mem_of_getElem? er, rfl, rfl⟩
    refine lc_map (w := walk_keys (d := a) (o := o) (kvs := rowK r)) (fun _ => V.bl true) hD (by rw [rowK_len]; omega) (fun i Hc _ sc => sc _ _ ha) (fun _ => rfl) (fun i x Hc Hd hi sc y => ?_) (fun H1 s1 eD => ?_)
    · obtain ⟨rfl, k', v', hk, rfl⟩ := y
      obtain ⟨e, he, rfl, rfl⟩ := at_ hk
      obtain ⟨c, ec, hc⟩ := okSg_in sg (ok.2 e he)
      refine ⟨Same.refl, fun Q' hQ => ?_⟩
      show _
      rw [show e.1 = _ from ec]
      refine ⟨_, rfl, .str g, rfl, c, g, rfl, ?_⟩
      rw [decide_eq_true hc]
      exact hQ _ Same.refl
    · rw [List.map_const', List.length_range, ← map_rep] at eD
      refine ⟨D, _, rfl, SqL.of eD, _, rfl, ?_⟩
      rw [show (List.replicate (rowK r).length true).all id = true by simp]
      refine iteF ⟨.ref a, rfl, a, o, _, rfl, s1 _ _ ha, fun D2 hD2 => ?_⟩
      refine lc_map (w := walk_values (d := a) (o := o) (kvs := rowK r)) (fun _ => V.bl true) hD2 (by rw [rowK_len]; omega) (fun i Hc _ sc => sc _ _ (s1 _ _ ha)) (fun _ => rfl) (fun i x Hc Hd hi sc y => ?_) (fun H2 s2 eD2 => ?_)
      · obtain ⟨rfl, k', hk⟩ := y
        obtain ⟨e, he, rfl, rfl⟩ := at_ hk
        refine ⟨Same.refl, fun Q' hQ => ?_⟩
        refine ⟨.int (e.2 : Int), rfl, (e.2 : Int), rfl, true, by rw [decide_eq_true (Int.natCast_nonneg _)], .int (e.2 : Int), rfl, .int (n : Int), rfl, (e.2 : Int), (n : Int), rfl, rfl, ?_⟩
        show Q' (.bl (decide ((e.2 : Int) < (n : Int)))) _
        rw [decide_eq_true (show (e.2 : Int) < (n : Int) by have := lt e he; omega)]
        exact hQ _ Same.refl
      · rw [List.map_const', List.length_range, ← map_rep] at eD2
        refine ⟨D2, _, rfl, SqL.of eD2, ?_⟩
        rw [show (List.replicate (rowK r).length true).all id = true by simp]
        exact k _ (Same.trans s1 s2)
theorem scCheckTable : FnScope ["table", "signs", "position", "leading"] ["table", "signs"] (defScope sCheckTable) := ⟨rfl, rfl, rfl, by decide +kernel, rfl, by decide +kernel, by decide +kernel⟩
theorem ok_check_table (X : Tx K mg ad fd) : FnOk P w K mg base CX0 4 (ad "check_table") (fd "check_table") ["table", "signs"] spCTab := by
  have G_is_list := ok_is_list (P := P) (w := w) (base := base) X
  have G_is_dict_of_state := ok_is_dict (P := P) (w := w) (base := base) X
  refine X.F_check_table.ok scCheckTable (fun vs H Q E h => ?_) (fun cdv A outer s H vs Q E hr h => ?_)
  · obtain ⟨F, ls, c, w, g, rfl, tb, wf, ok, cl, sg, k⟩ := h
    rfl
  · obtain ⟨F, ls, c, w, g, rfl, tb, wf, ok, cl, sg, k⟩ := h
    have HR_is_list : Room 1 _ := hr.mono (by decide)
    have HR_is_dict_of_state : Room 3 _ := hr
    obtain ⟨_, gT⟩ := X.g_MOST_IN_TABLE
    refine ⟨_, (pss_cons (ps_if (PW.pt (pw_or (pt_not (pt_val (pe_call G_is_list HR_is_list (by rfl) X.g_is_list X.F_is_list.kp X.b_is_list .nil pass0 (pa_cons (pv 0) pa_nil)))) (pw_or1 (pt_not (pt_chain op_le op_le pe_int (pe_callB call_len (by rfl) X.m_len (by decide +kernel) (pa_cons (pv 0) pa_nil)) (pe_glob (v := .int 64) (by rfl) gT ⟨_, rfl⟩))))))
  (pss_one ps_never)
  pss_nil)
  (pss_one (ps_for PassesOwn.never rfl (pi_enum (by rfl) X.m_enumerate (pa_cons (pv 0) pa_nil)) (pg_tup rfl (pgs_cons (pg_name (i := 2) scCheckTable.nd rfl (.inl rfl)) (pgs_cons (pg_name (i := 3) scCheckTable.nd rfl (.inl rfl)) pgs_nil)))
  (pss_one (ps_if (pt_not (pt_val (pe_call G_is_dict_of_state HR_is_dict_of_state (by rfl) X.g_is_dict_of_state X.F_is_dict_of_state.kp X.b_is_dict_of_state .nil pass0 (pa_cons (pv 3) (pa_cons (pv 1) (pa_cons (pe_callB call_len (by rfl) X.m_len (by decide +kernel) (pa_cons (pv 0) pa_nil)) pa_nil))))))
  (pss_one ps_never)
  pss_nil))))), ?_⟩
    refine ⟨.ref F, rfl, F, _, rfl, tb.e, fun H1 s1 => ⟨true, rfl, ?_⟩⟩
    refine iteF ⟨.ref F, rfl, .ref F, _, rfl, .inl ⟨_, SqL.of (s1 _ _ tb.e), rfl⟩, 1, _, rfl, rfl, _, rfl, ?_⟩
    have hl : (ls.map V.ref).length = c.length := by rw [List.length_map, tb.l]
    rw [hl, decide_eq_true (show (1 : Int) ≤ (c.length : Int) by have := wf.1; omega)]
    refine iteT ⟨_, _, rfl, rfl, _, rfl, ?_⟩
    rw [decide_eq_true (show (c.length : Int) ≤ 64 by omega)]
    refine iteF ⟨.ref F, rfl, F, _, rfl, SqL.of (s1 _ _ tb.e), ?_⟩
    refine for_it (w := walk_enum (K := K) (a := F) (xs := ls.map V.ref)) (fun i σ H' => ∃ r2 r3, σ = [some (.ref F), some (.str g), r2, r3] ∧ Same H H') ⟨_, _, rfl, s1⟩ (fun i σ H' _ ⟨_, _, _, s2⟩ => SqL.of (s2 _ _ tb.e)) ?_ ?_
    · rintro i x σ H' H2 hi ⟨r2, r3, rfl, s2⟩ ⟨T, u, v, rfl, hT, rfl, eu, ev⟩
      cases eu
      rw [hl] at hi
      obtain ⟨a, o, r, pm, h1, h2, h3⟩ := tb.row hi
      have okr := (rowOk ok hi).1
      have ev : (ls.map V.ref)[i]? = some v := ev
      rw [List.getElem?_map, h1] at ev
      cases ev
      have sT := Same.trans s2 (Same.new hT (o := .tup [V.int (i : Nat), V.ref a]))
      refine ⟨T, _, rfl, SqT.of upd_same, rfl, _, _, rfl, _, _, rfl, rfl, ?_⟩
      refine ⟨.ref a, rfl, .str g, rfl, .ref F, rfl, .ref F, _, rfl, .inl ⟨_, SqL.of (sT _ _ tb.e), rfl⟩, a, o, r, w, g, c.length, (by rw [hl]; rfl), sT _ _ h3, ⟨by rw [pm.length_eq]; exact okR_len okr, fun e he => okR_in okr (List.mem_map_of_mem (f := fun e : Str × Nat => e.1) (pm.mem_iff.mp he))⟩, sg, fun e he => rowC_lt wf (pm.mem_iff.mp he), fun H3 s3 => ⟨_, rfl, ?_⟩⟩
      exact iteF ⟨_, _, rfl, Same.trans sT s3⟩
    · rintro σ H' ⟨r2, r3, rfl, s2⟩
      exact k _ s2
end
end K88
end

section
set_option maxHeartbeats 4000000
/-! where signs lead; sums; numbers of marks -/
namespace K88
open PySem PySem.Spec PyProof.Rows L2
def ldV (n w : Nat) (r : List (Str × Nat)) : List V := (sgs.take w).map fun z => V.int (((lkp r z).getD n : Nat) : Int)
structure LdAt (H : Hp) (T : Addr) (w : Nat) (c : Ch) (ts : List Addr) : Prop where
  e : H T = some (.tup (ts.map V.ref))
  l : ts.length = c.length + 1
  k : ∀ (i : Nat) (t : Addr), ts[i]? = some t → H t = some (.tup (ldV c.length w (rowC c i)))
theorem LdAt.same {H H' : Hp} {T : Addr} {w : Nat} {c : Ch} {ts : List Addr} (h : LdAt H T w c ts) (s : Same H H') : LdAt H' T w c ts := ⟨s _ _ h.e, h.l, fun i t q => s _ _ (h.k i t q)⟩
def spLeads : Sp := fun vs H Q _ => ∃ (F : Addr) (ls : List Addr) (c : Ch) (w : Nat) (g : Str), vs = [.ref F, .str g] ∧ TbP H F ls c ∧ NdT c ∧ c.length ≤ 64 ∧ okSg w g ∧ ∀ (T : Addr) (ts : List Addr) (H' : Hp), Same H H' → H T = none → LdAt H' T w c ts → Q (.ref T) H'
theorem row_out {c : Ch} {i : Nat} (h : c.length ≤ i) : rowC c i = [] := by
  unfold rowC
  rw [List.getD_eq_getElem?_getD, List.getElem?_eq_none h]; rfl
theorem sgs_len (w : Nat) : (sgs.take w).length ≤ 4 := by
  rw [List.length_take]
  exact Nat.min_le_right ..
theorem dget_same {H H' : Hp} {a : Addr} {y : V} {o : Option V} (g : DGet H a y o) (s : Same H H') : DGet H' a y o := by
  rcases g with ⟨kvs, k, e, ey, l⟩ | ⟨kvs, k, b, e, ey, eb, l⟩
  · exact .inl ⟨kvs, k, Rd.same s e, ey, l⟩
  · exact .inr ⟨kvs, k, b, Rd.same s e, ey, s _ _ eb, l⟩
theorem dget_isD {H : Hp} {a : Addr} {y : V} {o : Option V} (g : DGet H a y o) : IsD H a := by
  rcases g with ⟨kvs, k, e, _, _⟩ | ⟨kvs, k, b, e, _, _, _⟩
  · rcases e with e | ⟨o, e⟩
    · exact .inl ⟨kvs, .inl e⟩
    · exact .inl ⟨kvs, .inr ⟨o, e⟩⟩
  · rcases e with e | ⟨o, e⟩
    · exact .inr ⟨kvs, .inl e⟩
    · exact .inr ⟨kvs, .inr ⟨o, e⟩⟩
theorem refs_of {R : Nat → Addr → Prop} : ∀ {zs : List V}, (∀ i z, zs[i]? = some z → ∃ t, z = .ref t ∧ R i t) → ∃ ts : List Addr, zs = ts.map V.ref ∧ ∀ (i : Nat) (t : Addr), ts[i]? = some t → R i t := fun {zs} => by
  induction zs generalizing R with
  | nil => exact fun _ => ⟨[], rfl, fun i t h => by cases h⟩
  | cons z zs ih =>
    intro h
    obtain ⟨t, rfl, r⟩ := h 0 z rfl
    obtain ⟨ts, rfl, k⟩ := ih (R := fun i => R (i + 1)) fun i z hz => h (i + 1) z hz
    refine ⟨t :: ts, rfl, fun i u hu => ?_⟩
    cases i with
    | zero => cases hu; exact r
    | succ i => exact k i u hu
section
variable {P : Program} {w : World} {K : PySem.W.Frag} {mg : Str → Option Value} {base : Heap} {ad : Str → Addr} {fd : Str → FuncData}
theorem scLeadsOf : FnScope ["table", "signs", "nowhere", "leading", "sign"] ["table", "signs"] (defScope sLeadsOf) := ⟨rfl, rfl, rfl, by decide +kernel, rfl, by decide +kernel, by decide +kernel⟩
theorem ok_leads_of (X : Tx K mg ad fd) : FnOk P w K mg base CX0 1 (ad "leads_of") (fd "leads_of") ["table", "signs"] spLeads := by
  refine X.F_leads_of.ok scLeadsOf (fun vs H Q E h => ?_) (fun cdv A outer s H vs Q E hr h => ?_)
  · obtain ⟨F, ls, c, w, g, rfl, tb, nd, cl, sg, k⟩ := h
    rfl
  · obtain ⟨F, ls, c, w, g, rfl, tb, nd, cl, sg, k⟩ := h
    have HU : (A.deeper (envOfC "leads_of" (defScope sLeadsOf) s.heap.objs.size (ad "leads_of") cdv)).units + 1 < cLine := by have := hr.un; omega
    refine ⟨_, (pss_cons (ps_set (i := 2) scLeadsOf.nd rfl (.inr rfl) (by exact (pe_callB (call_lenK (K := K) rfl) (by rfl) X.m_len (by decide +kernel) (pa_cons (pv 0) pa_nil))))
  (pss_one (ps_ret (by exact (pe_callTy (call_tuple_ofK (K := K) rfl) (by rfl) X.m_tuple (by decide +kernel) (pa_cons (pe_lc (own := [("leading", 3)]) (g := gName 3) rfl scLeadsOf.nd (pi_listK (K := K) rfl (pe_lst (StX.pa_star (pv 0) (pa_cons pe_dnewK pa_nil)))) (blkOk_by (own := [("leading", 3)]) (N := ["table", "signs", "nowhere", "leading", "sign"]) (sc := defScope sLeadsOf) (by decide +kernel)) (fun _ _ _ _ _ => pg_name (i := 3) scLeadsOf.nd rfl (Or.inr rfl)) (fun _ _ _ _ _ => pts_nil) (fun _ _ _ _ _ => (pe_callTy (call_tuple_ofK (K := K) rfl) (by rfl) X.m_tuple (by decide +kernel) (pa_cons (pe_lc (own := [("sign", 4)]) (g := gName 4) rfl scLeadsOf.nd (pi_str (pv 1)) (blkOk_by (own := [("sign", 4)]) (N := ["table", "signs", "nowhere", "leading", "sign"]) (by kernel_rfl)) (fun _ _ _ _ _ => pg_name (i := 4) scLeadsOf.nd rfl (Or.inl rfl)) (fun _ _ _ _ _ => pts_nil) (fun _ _ _ _ _ => (pe_dget2 HU (pv 3) (pv 4) (pv 2) ⟨rfl, rfl, rfl, rfl⟩))) pa_nil)))) pa_nil)))))), ?_⟩
    have hl : (ls.map V.ref).length = c.length := by rw [List.length_map, tb.l]
    refine ⟨.ref F, rfl, .ref F, _, rfl, .inl ⟨_, SqL.of tb.e, rfl⟩, ?_⟩
    rw [hl]
    refine ⟨.ref F, rfl, F, _, rfl, .inr (SqL.of tb.e), fun E0 nE => ⟨by rw [List.length_append, hl, sizeLine_eq]; show c.length + 1 ≤ _; omega, fun L0 nL => ?_⟩⟩
    have sE : Same H (upd (upd H E0 (.dK [])) L0 (.lst (ls.map V.ref ++ [.ref E0]))) := Same.trans (Same.new nE) (Same.new nL)
    have eL : (upd (upd H E0 (.dK [])) L0 (.lst (ls.map V.ref ++ [.ref E0]))) L0 = some (.lst (ls.map V.ref ++ [.ref E0])) := upd_same
    have eE : (upd (upd H E0 (.dK [])) L0 (.lst (ls.map V.ref ++ [.ref E0]))) E0 = some (.dK []) := Same.new nL _ _ upd_same
    generalize (upd (upd H E0 (.dK [])) L0 (.lst (ls.map V.ref ++ [.ref E0]))) = H1 at sE eL eE ⊢
    have len : (ls.map V.ref ++ [V.ref E0]).length = c.length + 1 := by rw [List.length_append, hl]; rfl
    refine ⟨L0, rfl, ⟨_, SqL.of eL⟩, fun D hD => ?_⟩
    refine lc_rel (w := walk_list (K := K) (a := L0) (xs := ls.map V.ref ++ [.ref E0])) (fun i v H' => ∃ t, v = .ref t ∧ t ≠ D ∧ H' t = some (.tup (ldV c.length w (rowC c i)))) hD (by rw [len]; omega) (fun i H' _ s => SqL.of (s _ _ eL)) (fun i v H' H2 up ⟨t, e1, e2, e3⟩ => ⟨t, e1, e2, up _ _ e2 e3⟩) (fun i x H' H2 hi s ⟨acc, eD⟩ ⟨e0, hx⟩ Nx hN => ?_) (mn_name _) (fun H' zs s eD lz R => ?_)
    · subst e0
      rw [len] at hi
      have get : ∀ z, ∃ a, x = .ref a ∧ DGet H2 a (.str z) ((lkp (rowC c i) z).map fun (n : Nat) => V.int (n : Int)) := fun z => by
        by_cases q : i < c.length
        · obtain ⟨a, o, r, pm, h1, _, h3⟩ := tb.row q
          rw [List.getElem?_append_left (by rw [hl]; exact q), List.getElem?_map, h1] at hx
          cases hx
          exact ⟨a, rfl, .inl ⟨_, .inr z, .inr ⟨o, s _ _ (sE _ _ h3)⟩, rfl, by rw [rowK_val, lkp_perm (nd i q) pm]⟩⟩
        · rw [List.getElem?_append_right (by rw [hl]; omega), hl] at hx
          have : i - c.length = 0 := by omega
          rw [this] at hx
          cases hx
          refine ⟨E0, rfl, .inl ⟨[], .inr z, .inl (s _ _ eE), rfl, ?_⟩⟩
          rw [row_out (by omega)]; rfl
      obtain ⟨a, rfl, _⟩ := get (sgs.getD 0 "")
      refine gN ⟨rfl, ?_⟩
      refine ⟨.str g, rfl, g, rfl, fun D2 hD2 => ?_⟩
      have lg := okSg_len sg
      refine lc_map (w := walk_str (z := g)) (fun j => (ldV c.length w (rowC c i)).getD j .non) hD2 (by rw [← Array.length_toList, lg]; have := sgs_len w; omega) (fun _ _ _ _ => True.intro) (fun _ => rfl) (fun j y Hc Hd hj sc yy => ?_) (fun H3 s3 eD2 => ?_)
      · obtain ⟨rfl, c0, hc0, rfl⟩ := yy
        refine ⟨Same.refl, fun Q' hQ => ?_⟩
        have ez : (sgs.take w)[j]? = some (⟨#[c0]⟩ : Str) := by
          rw [← show _ = sgs.take w from sg, List.getElem?_map, Array.getElem?_toList, hc0]; rfl
        obtain ⟨a', ea, g'⟩ := get ⟨#[c0]⟩
        cases ea
        have g2 := dget_same g' sc
        refine ⟨.ref a, rfl, a, rfl, dget_isD g2, .str ⟨#[c0]⟩, rfl, .int (c.length : Nat), rfl, _, g2, ?_⟩
        have := hQ _ Same.refl
        have ev : (ldV c.length w (rowC c i)).getD j .non = V.int (((lkp (rowC c i) ⟨#[c0]⟩).getD c.length : Nat) : Int) := by
          unfold ldV
          rw [List.getD_eq_getElem?_getD, List.getElem?_map, ez]; rfl
        rw [ev] at this
        cases q : lkp (rowC c i) ⟨#[c0]⟩ with
        | none => rw [q] at this; exact this
        | some n => rw [q] at this; exact this
      · have er : (List.range g.cps.size).map (fun j => (ldV c.length w (rowC c i)).getD j .non) = ldV c.length w (rowC c i) := by
          have lw : (ldV c.length w (rowC c i)).length = g.cps.size := by
            unfold ldV
            rw [List.length_map, ← lg, Array.length_toList]
          rw [← lw]
          exact (range_map (g := id) fun j x hx => by rw [List.getD_eq_getElem?_getD, hx]; rfl).trans (List.map_id _)
        rw [er] at eD2
        refine ⟨D2, _, rfl, .inl ⟨SqL.of eD2, fun t ht => hN _ _ (Same.trans s3 (Same.new ht)) ⟨t, rfl, fun z => ?_, upd_same⟩⟩⟩
        rw [z] at ht
        have := s3 _ _ eD
        rw [this] at ht
        cases ht
    · refine ⟨D, zs, rfl, .inl ⟨SqL.of eD, fun T hT => ?_⟩⟩
      have ex : ∃ ts : List Addr, zs = ts.map V.ref ∧ ∀ (i : Nat) (t : Addr), ts[i]? = some t → H' t = some (.tup (ldV c.length w (rowC c i))) := refs_of fun i z hz => let ⟨t, e1, _, e3⟩ := R i z hz; ⟨t, e1, e3⟩
      obtain ⟨ts, rfl, ht⟩ := ex
      exact k T ts _ (Same.trans sE (Same.trans s (Same.new hT))) (none_back (Same.trans sE s) hT) ⟨upd_same, by rw [← List.length_map (f := V.ref), lz, len], fun i t q => Same.new hT _ _ (ht i t q)⟩
end
end K88
end

section
set_option maxHeartbeats 4000000
/-! marks, kinds -/
namespace K88
open PySem PySem.Spec PyProof.Rows L2
theorem cut_last (l : List V) (x : V) : cutV (l ++ [x]) none (some (-1)) = l := by
  unfold cutV
  have e : HT.sIx (l ++ [x]).length (l ++ [x]).length (some (-1)) = l.length := by
    show (if (-1 : Int) < 0 then ((-1 : Int) + ((l ++ [x]).length : Nat)).toNat else min (-1 : Int).toNat (l ++ [x]).length) = _
    rw [if_pos (by decide), List.length_append]
    show ((-1 : Int) + ((l.length + 1 : Nat) : Int)).toNat = _
    omega
  rw [e, HT.sIx_none, Nat.sub_zero, List.drop_zero, List.take_left]
def kL (m : List Int) : List Key := m.map Sum.inl
theorem kL_V (m : List Int) : (kL m).map kV = m.map V.int := by
  unfold kL
  rw [List.map_map]; rfl
theorem kL_inj (a b : List Int) (h : kL a = kL b) : a = b := (List.map_inj_right (fun a b => Sum.inl.inj)).mp h
def spNumbered : Sp := fun vs H Q _ => ∃ (L : Addr) (ts : List Addr) (ms : List (List Int)), vs = [.ref L] ∧ H L = some (.lst (ts.map V.ref)) ∧ ts.length = ms.length ∧ ms.length ≤ 1000 ∧ (∀ (i : Nat) (t : Addr), ts[i]? = some t → ∃ m, ms[i]? = some m ∧ H t = some (.tup (m.map V.int))) ∧
  ∀ (D : Addr) (H' : Hp), Same H H' → H D = none → H' D = some (.lst (intsV (numF ms))) → Q (.ref D) H'
theorem nubs_pre (ms : List (List Int)) (i : Nat) : ∃ t, nubs ms = nubs (ms.take i) ++ t := by
  have : nubs ms = nubsO (nubs (ms.take i)) (ms.drop i) := by
    unfold nubs
    rw [← nubsO_app, List.take_append_drop]
  rw [this]
  exact nubsO_pre _ _
theorem nubs_succ {ms : List (List Int)} {i : Nat} {m : List Int} (h : ms[i]? = some m) : nubs (ms.take (i + 1)) = addM (nubs (ms.take i)) m := by
  unfold nubs
  rw [List.take_add_one, h, Option.toList_some, nubsO_app]; rfl
theorem idx_take {ms : List (List Int)} {i : Nat} {m : List Int} (h : m ∈ nubs (ms.take i)) : ixM (nubs ms) m = ixM (nubs (ms.take i)) m := by
  obtain ⟨t, e⟩ := nubs_pre ms i
  rw [e, idx_pre h]
theorem nubs_len (ms : List (List Int)) (i : Nat) : (nubs (ms.take i)).length ≤ ms.length := by
  have : ∀ (l o : List (List Int)), (nubsO o l).length ≤ o.length + l.length := by
    intro l
    induction l with
    | nil => exact fun o => Nat.le_refl _
    | cons m l ih =>
      intro o
      have h1 := ih (addM o m)
      have h2 : (addM o m).length ≤ o.length + 1 := by
        unfold addM
        split
        · omega
        · rw [List.length_append]; exact Nat.le_refl _
      show (nubsO (addM o m) l).length ≤ _
      rw [List.length_cons]
      omega
  have h := this (ms.take i) []
  rw [List.length_nil, Nat.zero_add, List.length_take] at h
  exact Nat.le_trans h (Nat.min_le_right ..)
section
variable {P : Program} {w : World} {K : PySem.W.Frag} {mg : Str → Option Value} {base : Heap} {ad : Str → Addr} {fd : Str → FuncData}
theorem scNumbered : FnScope ["marks", "numbers", "found", "mark"] ["marks"] (defScope sNumbered) := ⟨rfl, rfl, rfl, by decide +kernel, rfl, by decide +kernel, by decide +kernel⟩
theorem ok_numbered (X : Tx K mg ad fd) : FnOk P w K mg base CX0 1 (ad "numbered") (fd "numbered") ["marks"] spNumbered := by
  refine X.F_numbered.ok scNumbered (fun vs H Q E h => ?_) (fun cdv A outer s H vs Q E hr h => ?_)
  · obtain ⟨L, ts, ms, rfl, hL, lt, ml, hts, k⟩ := h
    rfl
  · obtain ⟨L, ts, ms, rfl, hL, lt, ml, hts, k⟩ := h
    have HU : (A.deeper (envOfC "numbered" (defScope sNumbered) s.heap.objs.size (ad "numbered") cdv)).units + 1 < cLine := by have := hr.un; omega
    refine ⟨_, (pss_cons (ps_set (i := 1) scNumbered.nd rfl (.inl rfl) (by exact pe_dnewT))
  (pss_cons (ps_set (i := 2) scNumbered.nd rfl (.inl rfl) (by exact (pe_lst pa_nil)))
  (pss_cons (ps_for PassesOwn.never rfl (pi_list (pv 0)) (pg_name (i := 3) scNumbered.nd rfl (.inl rfl))
  (pss_cons (ps_if (pt_cmp (pc_dnotin HU (pv 3) (pv 1)))
  (pss_one (ps_asg (by exact (pe_callB call_len_dT (by rfl) X.m_len (by decide +kernel) (pa_cons (pv 1) pa_nil))) (pg_sub (pv 1) (pv 3) (set_dict HU))))
  pss_nil)
  (pss_one (ps_expr (by exact (pe_bm PySem.F.plainAttrs_list PySem.F.slot_list_append PySem.F.type_list_append mt_append (pv 2) (pa_cons (pe_dget HU (pv 1) (pv 3) (fun _ _ => rfl)) pa_nil)))))))
  (pss_one (ps_ret (by exact (pv 2))))))), ?_⟩
    refine fun M nM => ?_
    refine ⟨(by show 0 ≤ sizeLine; omega), fun O nO => ?_⟩
    have nMO : M ≠ O := ne_of_none upd_same nO
    have eM : (upd (upd H M (.dT [])) O (.lst [])) M = some (.dT (plc kL 0 (nubs (ms.take 0)))) := by
      rw [upd_ne nMO, upd_same, List.take_zero]; rfl
    have sH : Same H (upd (upd H M (.dT [])) O (.lst [])) := Same.trans (Same.new nM) (Same.new nO)
    have eO : (upd (upd H M (.dT [])) O (.lst [])) O = some (.lst (intsV ((numF ms).take 0))) := by
      rw [upd_same, List.take_zero]; rfl
    have nO' : H O = none := none_back (Same.new nM) nO
    generalize (upd (upd H M (.dT [])) O (.lst [])) = H1 at eM sH eO ⊢
    refine ⟨.ref L, rfl, L, rfl, ⟨_, SqL.of (sH _ _ hL)⟩, ?_⟩
    refine for_it (w := walk_list (K := K) (a := L) (xs := ts.map V.ref)) (fun i σ H' => ∃ r3, σ = [some (.ref L), some (.ref M), some (.ref O), r3] ∧ Same H H' ∧ H' M = some (.dT (plc kL 0 (nubs (ms.take i)))) ∧ H' O = some (.lst (intsV ((numF ms).take i)))) ⟨_, rfl, sH, eM, eO⟩ (fun i σ H' _ ⟨_, _, s, _⟩ => SqL.of (s _ _ hL)) ?_ ?_
    · rintro i x σ H' H2 hi ⟨r3, rfl, s, eM, eO⟩ ⟨e0, hx⟩
      subst e0
      rw [List.getElem?_map] at hx
      cases et : ts[i]? with
      | none => rw [et] at hx; cases hx
      | some t =>
        rw [et] at hx
        cases hx
        obtain ⟨m, hm, ht0⟩ := hts i t et
        have ht : H2 t = some (.tup ((kL m).map kV)) := by rw [kL_V]; exact s _ _ ht0
        have nMt : t ≠ M := fun z => by rw [z, nM] at ht0; cases ht0
        have nOt : t ≠ O := fun z => by rw [z, nO'] at ht0; cases ht0
        have g : DGet H2 M (.ref t) (valV (plc kL 0 (nubs (ms.take i))) (kL m)) := .inr ⟨_, kL m, t, .inl eM, rfl, ht, rfl⟩
        have num : (numF ms)[i]? = some (ixM (nubs ms) m) := by
          unfold numF
          rw [List.getElem?_map, hm]; rfl
        have ez := nubs_succ hm
        have fin : ∀ H3 : Hp, Same H H3 → H3 M = some (.dT (plc kL 0 (nubs (ms.take (i + 1))))) → H3 O = some (.lst (intsV ((numF ms).take i))) → H3 t = some (.tup ((kL m).map kV)) → m ∈ nubs (ms.take (i + 1)) →
            tBM K "list" rAppend (tVar 2) (tCons (tDGet (tVar 1) (tVar 3)) tNil) [some (.ref L), some (.ref M), some (.ref O), some (.ref t)] H3 (fun _ H' => ∃ r3, [some (V.ref L), some (V.ref M), some (V.ref O), some (V.ref t)] = [some (.ref L), some (.ref M), some (.ref O), r3] ∧ Same H H' ∧ H' M = some (.dT (plc kL 0 (nubs (ms.take (i + 1))))) ∧ H' O = some (.lst (intsV ((numF ms).take (i + 1))))) := by
          intro H3 s3 eM3 eO3 ht3 mm
          refine ⟨.ref O, rfl, .inl ⟨rfl, _, SqL.of eO3⟩, .ref M, rfl, .ref t, rfl, M, .int ((0 + ixM (nubs (ms.take (i + 1))) m : Nat) : Int), rfl, .inr ⟨_, kL m, t, .inl eM3, rfl, ht3, ?_⟩, O, _, _, rfl, rfl, eO3, ?_, ?_⟩
          · rw [plc_val kL_inj, if_pos mm]
          · unfold intsV
            rw [List.length_map, List.length_take, sizeLine_eq]
            have := Nat.min_le_right i (numF ms).length
            rw [numF_len] at this ⊢
            omega
          · have nMO' : M ≠ O := nMO
            refine ⟨_, rfl, fun b u e => ?_, ?_, ?_⟩
            · rw [upd_ne (ne_of_none e nO')]; exact s3 _ _ e
            · rw [upd_ne nMO']; exact eM3
            · have tk : (numF ms).take (i + 1) = (numF ms).take i ++ [ixM (nubs (ms.take (i + 1))) m] := by rw [List.take_add_one, num, idx_take mm]; rfl
              rw [upd_same, tk, Nat.zero_add]
              unfold intsV
              rw [List.map_append]; rfl
        refine ⟨.ref t, rfl, .ref M, rfl, M, _, rfl, g, _, rfl, ?_⟩
        by_cases mm : m ∈ nubs (ms.take i)
        · rw [plc_val kL_inj, if_pos mm]
          have e2 : nubs (ms.take (i + 1)) = nubs (ms.take i) := by rw [ez]; unfold addM; rw [if_pos mm]
          exact iteF (fin H2 s (by rw [e2]; exact eM) eO ht (by rw [e2]; exact mm))
        · rw [plc_val kL_inj, if_neg mm]
          refine iteT ?_
          refine ⟨.ref M, rfl, M, _, rfl, eM, .ref M, rfl, .ref t, rfl, M, _, rfl, .inr ⟨_, kL m, t, eM, rfl, ht, by rw [plc_len, sizeLine_eq]; have := nubs_len ms i; omega, rfl⟩, ?_⟩
          have e2 : nubs (ms.take (i + 1)) = nubs (ms.take i) ++ [m] := by rw [ez]; unfold addM; rw [if_neg mm]
          refine fin _ (fun b u e => by rw [upd_ne (ne_of_none e nM)]; exact s _ _ e) ?_ ?_ ?_ (by rw [e2]; exact List.mem_append_right _ (List.mem_singleton.mpr rfl))
          · rw [upd_same, plc_put kL_inj mm (by rw [plc_len]), e2]
          · rw [upd_ne nMO.symm]; exact eO
          · rw [upd_ne nMt]; exact ht
    · rintro σ H' ⟨r3, rfl, s, eM, eO⟩
      refine ⟨.ref O, rfl, k O H' s nO' ?_⟩
      rw [eO]
      have : (numF ms).take (ts.map V.ref).length = numF ms := List.take_of_length_le (by rw [numF_len, List.length_map, lt]; exact Nat.le_refl _)
      rw [this]
end
end K88
end

section
set_option maxHeartbeats 4000000
/-! kinds -/
namespace K88
open PySem PySem.Spec PyProof.Rows L2
def spKinds : Sp := fun vs H Q _ => ∃ (F : Addr) (ls : List Addr) (c : Ch) (w : Nat), vs = [.ref F] ∧ TbP H F ls c ∧ WfC c ∧ okT w c ∧ c.length ≤ 64 ∧
  ∀ (D : Addr) (ks : List Nat) (H' : Hp), Same H H' → H D = none → H' D = some (.lst (intsV ks)) → ks.length = c.length → (∀ s t, s < c.length → t < c.length → (ks.getD s 0 = ks.getD t 0 ↔ Lw c s t)) → Q (.ref D) H'
theorem max_kd {c : Ch} {r m : Nat} {ks : List Nat} (K : Kd c r ks m) (h : 0 < c.length) {x : Int} (hx : x ∈ ks.map fun (t : Nat) => (t : Int)) (le : ∀ y ∈ ks.map (fun (t : Nat) => (t : Int)), y ≤ x) : x = (m : Int) - 1 := by
  obtain ⟨t, ht, rfl⟩ := List.mem_map.mp hx
  have h1 := K.lt t ht
  have h2 := K.all (m - 1) (by omega)
  have := le _ (List.mem_map_of_mem h2)
  omega
theorem okSg4 : okSg 4 (PySem.Str.ofString "abcd") := by
  unfold okSg
  decide +kernel
theorem ints_split (ks : List Nat) : intsV ks = (ks.map fun (t : Nat) => (t : Int)).map V.int := by
  unfold intsV
  rw [List.map_map]; rfl
theorem six_last (l : List V) (x : V) : HT.sIx (l ++ [x]).length (l ++ [x]).length (some (-1)) = l.length := by
  show (if (-1 : Int) < 0 then ((-1 : Int) + ((l ++ [x]).length : Nat)).toNat else min (-1 : Int).toNat (l ++ [x]).length) = _
  rw [if_pos (by decide), List.length_append]
  show ((-1 : Int) + ((l.length + 1 : Nat) : Int)).toNat = _
  omega
theorem kn_at {ks : List Nat} {c : Ch} (wf : WfC c) (hk : ks.length = c.length) (s : Nat) (z : Str) : atI (intsV ks ++ [V.int (-1)]) (((lkp (rowC c s) z).getD c.length : Nat) : Int) = some (.int (knO ks (lkp (rowC c s) z))) := by
  refine atI_nat ?_
  cases e : lkp (rowC c s) z with
  | none =>
    show (intsV ks ++ [V.int (-1)])[c.length]? = _
    rw [List.getElem?_append_right (by unfold intsV; rw [List.length_map, hk]; exact Nat.le_refl _)]
    unfold intsV
    rw [List.length_map, hk, Nat.sub_self]; rfl
  | some g =>
    have lg := lkp_lt wf e
    show (intsV ks ++ [V.int (-1)])[g]? = _
    unfold intsV
    rw [List.getElem?_append_left (by rw [List.length_map, hk]; exact lg), List.getElem?_map]
    show _ = some (V.int ((ks.getD g 0 : Nat) : Int))
    rw [List.getD_eq_getElem?_getD, List.getElem?_eq_getElem (by rw [hk]; exact lg)]; rfl
section
variable {P : Program} {w : World} {K : PySem.W.Frag} {mg : Str → Option Value} {base : Heap} {ad : Str → Addr} {fd : Str → FuncData}
theorem scKindsOf : FnScope ["table", "leads", "kinds", "known", "finer", "_", "one", "two", "three", "four"] ["table"] (defScope sKindsOf) := ⟨rfl, rfl, rfl, by decide +kernel, rfl, by decide +kernel, by decide +kernel⟩
theorem ok_kinds_of (X : Tx K mg ad fd) : FnOk P w K mg base CX0 2 (ad "kinds_of") (fd "kinds_of") ["table"] spKinds := by
  have G_leads_of := ok_leads_of (P := P) (w := w) (base := base) X
  have G_numbered := ok_numbered (P := P) (w := w) (base := base) X
  refine X.F_kinds_of.ok scKindsOf (fun vs H Q E h => ?_) (fun cdv A outer s H vs Q E hr h => ?_)
  · obtain ⟨F, ls, c, w, rfl, tb, wf, ok, cl, k⟩ := h
    rfl
  · obtain ⟨F, ls, c, w, rfl, tb, wf, ok, cl, k⟩ := h
    have HR_leads_of : Room 1 _ := hr
    have HR_numbered : Room 1 _ := hr
    obtain ⟨_, gA⟩ := X.g_ALL_SIGNS
    refine ⟨_, (pss_cons (ps_set (i := 1) scKindsOf.nd rfl (.inl rfl) (by exact (pe_slice sl_tup (pe_call G_leads_of HR_leads_of (by rfl) X.g_leads_of X.F_leads_of.kp X.b_leads_of .nil pass0 (pa_cons (pv 0) (pa_cons (pe_glob (v := .str "abcd") (by rfl) gA ⟨_, rfl⟩) pa_nil))) po_none (po_some (pe_un un_neg pe_int)))))
  (pss_cons (ps_setLc (i := 2) (own := [("_", 5)]) (g := gName 5) rfl scKindsOf.nd rfl rfl (by rfl) (pi_listK (K := K) rfl (pv 0)) (blkOk_by (own := [("_", 5)]) (N := ["table", "leads", "kinds", "known", "finer", "_", "one", "two", "three", "four"]) (sc := defScope sKindsOf) (by decide +kernel)) (fun _ _ _ _ _ => pg_name (i := 5) scKindsOf.nd rfl (Or.inl rfl)) (fun _ _ _ _ _ => pts_nil) (fun _ _ _ _ _ => pe_int))
  (pss_one (ps_while PassesOwn.never (pt_val pe_bl)
  (pss_cons (ps_set (i := 3) scKindsOf.nd rfl (.inr rfl) (by exact (pe_lst (StX.pa_star (pv 2) (pa_cons (pe_un un_neg pe_int) pa_nil)))))
  (pss_cons (ps_set (i := 4) scKindsOf.nd rfl (.inl rfl) (by exact (pe_call G_numbered HR_numbered (by rfl) X.g_numbered X.F_numbered.kp X.b_numbered .nil pass0 (pa_cons (pe_lc (own := [("one", 6), ("two", 7), ("three", 8), ("four", 9)]) (g := gTup K 4 (gCons (gName 6) (gCons (gName 7) (gCons (gName 8) (gCons (gName 9) (gNil)))))) rfl scKindsOf.nd (pi_tupK (K := K) rfl (pv 1)) (blkOk_by (own := [("one", 6), ("two", 7), ("three", 8), ("four", 9)]) (N := ["table", "leads", "kinds", "known", "finer", "_", "one", "two", "three", "four"]) (sc := defScope sKindsOf) (by decide +kernel)) (fun _ _ _ _ _ => pg_tupK (K := K) rfl rfl (pgs_cons (pg_name (i := 6) scKindsOf.nd rfl (Or.inl rfl)) (pgs_cons (pg_name (i := 7) scKindsOf.nd rfl (Or.inl rfl)) (pgs_cons (pg_name (i := 8) scKindsOf.nd rfl (Or.inl rfl)) (pgs_cons (pg_name (i := 9) scKindsOf.nd rfl (Or.inl rfl)) (pgs_nil)))))) (fun _ _ _ _ _ => pts_nil) (fun _ _ _ _ _ => (pe_tup (pa_cons (pe_ix (ix_listK (K := K) rfl) (pv 3) (pv 6) (fun _ _ => rfl)) (pa_cons (pe_ix (ix_listK (K := K) rfl) (pv 3) (pv 7) (fun _ _ => rfl)) (pa_cons (pe_ix (ix_listK (K := K) rfl) (pv 3) (pv 8) (fun _ _ => rfl)) (pa_cons (pe_ix (ix_listK (K := K) rfl) (pv 3) (pv 9) (fun _ _ => rfl)) pa_nil))))))) pa_nil))))
  (pss_cons (ps_if (pt_cmpR op_eq (pe_callB (cr_maxK (K := K) rfl) (by rfl) X.m_max (by decide +kernel) (pa_cons (pv 4) pa_nil)) (pe_callB (cr_maxK (K := K) rfl) (by rfl) X.m_max (by decide +kernel) (pa_cons (pv 2) pa_nil)) (nomark _))
  (pss_one (ps_ret (by exact (pv 2))))
  pss_nil)
  (pss_one (ps_set (i := 2) scKindsOf.nd rfl (.inl rfl) (by exact (pv 4))))))))))), ?_⟩
    refine ⟨.ref F, rfl, F, ls, c, 4, _, rfl, tb, okT_nd ok, cl, okSg4, fun T ts H1 s1 nT ld => ?_⟩
    obtain ⟨us, u, rfl⟩ : ∃ us u, ts = us ++ [u] := by
      rcases List.eq_nil_or_concat ts with h | ⟨us, u, h⟩
      · have := ld.l
        rw [h] at this
        cases this
      · exact ⟨us, u, by rw [h, List.concat_eq_append]⟩
    have lus : us.length = c.length := by
      have := ld.l
      rw [List.length_append] at this
      exact Nat.add_right_cancel this
    have eT : H1 T = some (.tup (us.map V.ref ++ [.ref u])) := by
      rw [ld.e, List.map_append]; rfl
    refine ⟨1, rfl, _, rfl, T, _, rfl, SqT.of eT, fun z => ?_, fun P1 nP1 => ?_⟩
    · have := z.2
      rw [six_last, List.length_append] at this
      exact absurd this (by show ¬ _ = _ + 1; omega)
    rw [cut_last]
    have s2 := Same.trans s1 (Same.new nP1 (o := .tup (us.map V.ref)))
    have eP : (upd H1 P1 (.tup (us.map V.ref))) P1 = some (.tup (us.map V.ref)) := upd_same
    have hus : ∀ (i : Nat) (t : Addr), us[i]? = some t → (upd H1 P1 (.tup (us.map V.ref))) t = some (.tup (ldV c.length 4 (rowC c i))) := fun i t q => Same.new nP1 _ _ (ld.k i t (by rw [List.getElem?_append_left (List.getElem?_eq_some_iff.mp q).1]; exact q))
    generalize (upd H1 P1 (.tup (us.map V.ref))) = H2 at s2 eP hus ⊢
    have hl : (ls.map V.ref).length = c.length := by rw [List.length_map, tb.l]
    refine ⟨.ref F, rfl, F, rfl, ⟨_, SqL.of (s2 _ _ tb.e)⟩, fun K0 nK0 => ?_⟩
    refine lc_map (w := walk_list (K := K) (a := F) (xs := ls.map V.ref)) (fun _ => V.int 0) nK0 (by rw [hl]; omega) (fun i Hc _ sc => SqL.of (sc _ _ (s2 _ _ tb.e))) (fun _ => rfl) (fun i x Hc Hd hi sc y => ?_) (fun H3 s3 eK0 => ?_)
    · obtain ⟨rfl, _⟩ := y
      exact ⟨Same.refl, fun Q' hQ => hQ _ Same.refl⟩
    · rw [hl] at eK0
      have eK0' : H3 K0 = some (.lst (intsV (kindsF c 0))) := by
        rw [eK0]
        congr 2
        unfold intsV kindsF
        rw [List.map_const', List.length_range, List.map_replicate]; rfl
      have s03 := Same.trans s2 s3
      have nK0' : H K0 = none := none_back s2 nK0
      let W : Nat → L2.St → Hp → Prop := fun m σ H' => ∃ (Kk : Addr) (r cn : Nat) (ks : List Nat) (r3 r4 r5 r6 r7 r8 r9 : Option V), σ = [some (.ref F), some (.ref P1), some (.ref Kk), r3, r4, r5, r6, r7, r8, r9] ∧ m = c.length - cn ∧ Kd c r ks cn ∧ cn ≤ c.length ∧ Same H H' ∧ Same H2 H' ∧ H Kk = none ∧ H' Kk = some (.lst (intsV ks))
      refine ⟨W,
        ⟨_, K0, 0, 1, kindsF c 0, _, _, _, _, _, _, _, rfl, rfl, kd_zero wf, wf.1, s03, s3, nK0', eK0'⟩, ?_⟩
      rintro m σ H4 ⟨Kk, r, cn, ks, r3, r4, r5, r6, r7, r8, r9, rfl, rfl, KD, hcn, s4, s24, nKk, eKk⟩
      refine ⟨true, rfl, iteT ⟨fun σ' H' => ∃ m', m' < c.length - cn ∧ W m' σ' H', fun _ _ z => z, ?_⟩⟩
      refine ⟨.ref Kk, rfl, Kk, _, rfl, .inr (SqL.of eKk), 1, rfl, by rw [List.length_append]; unfold intsV; rw [List.length_map, KD.len, sizeLine_eq]; show c.length + 1 ≤ _; omega, fun Kn nKn => ?_⟩
      have s5 := Same.trans s4 (Same.new nKn (o := .lst (intsV ks ++ [V.int (-1)])))
      have s25 := Same.trans s24 (Same.new nKn (o := .lst (intsV ks ++ [V.int (-1)])))
      have eKn : (upd H4 Kn (.lst (intsV ks ++ [V.int (-1)]))) Kn = some (.lst (intsV ks ++ [V.int (-1)])) := upd_same
      have eKk5 := Same.new nKn (o := .lst (intsV ks ++ [V.int (-1)])) _ _ eKk
      refine gN ?_
      generalize (upd H4 Kn (.lst (intsV ks ++ [V.int (-1)]))) = H5 at s5 s25 eKn eKk5 ⊢
      refine ⟨.ref P1, rfl, P1, rfl, ⟨_, SqT.of (s25 _ _ eP)⟩, fun D nD => ?_⟩
      refine lc_rel (w := walk_tup (K := K) (a := P1) (xs := us.map V.ref)) (fun i v H' => ∃ t, v = .ref t ∧ t ≠ D ∧ H' t = some (.tup ((mk ks (rowC c i)).map V.int))) nD (by rw [List.length_map, lus]; omega) (fun i H' _ s => SqT.of (s _ _ (s25 _ _ eP))) (fun i v H' H6 up ⟨t, e1, e2, e3⟩ => ⟨t, e1, e2, up _ _ e2 e3⟩) (fun i x H' H6 hi s ⟨acc, eD⟩ ⟨e0, hx⟩ Nx hN => ?_) (mn_tup (mn_cons (mn_name _) (mn_cons (mn_name _) (mn_cons (mn_name _) (mn_cons (mn_name _) mn_nil))))) (fun H6 zs s eD lz R => ?_)
      · subst e0
        rw [List.getElem?_map] at hx
        cases et : us[i]? with
        | none => rw [et] at hx; cases hx
        | some t =>
          rw [et] at hx
          cases hx
          have ht := s _ _ (s25 _ _ (hus i t et))
          have eK4 := s _ _ eKn
          refine ⟨t, _, rfl, SqT.of ht, rfl, _, _, rfl, _, _, rfl, _, _, rfl, _, _, rfl, rfl, rfl, ?_⟩
          refine ⟨.ref Kn, rfl, .int (((lkp (rowC c i) (PySem.Str.ofString "a")).getD c.length : Nat) : Int), rfl, Kn, _, _, _, rfl, rfl, SqL.of eK4, kn_at wf KD.len i _, .ref Kn, rfl, .int (((lkp (rowC c i) (PySem.Str.ofString "b")).getD c.length : Nat) : Int), rfl, Kn, _, _, _, rfl, rfl, SqL.of eK4, kn_at wf KD.len i _, .ref Kn, rfl, .int (((lkp (rowC c i) (PySem.Str.ofString "c")).getD c.length : Nat) : Int), rfl, Kn, _, _, _, rfl, rfl, SqL.of eK4, kn_at wf KD.len i _, .ref Kn, rfl, .int (((lkp (rowC c i) (PySem.Str.ofString "d")).getD c.length : Nat) : Int), rfl, Kn, _, _, _, rfl, rfl, SqL.of eK4, kn_at wf KD.len i _, sz4, fun t2 nt2 => hN _ _ (Same.new nt2) ⟨t2, rfl, fun z => ?_, upd_same⟩⟩
          rw [z, eD] at nt2
          cases nt2
      · obtain ⟨tz, rfl, htz⟩ := refs_of (R := fun i t => H6 t = some (.tup ((mk ks (rowC c i)).map V.int))) fun i z hz => let ⟨t, e1, _, e3⟩ := R i z hz; ⟨t, e1, e3⟩
        have ltz : tz.length = c.length := by rw [← List.length_map (f := V.ref), lz, List.length_map, lus]
        have s6 := Same.trans s5 s
        refine ⟨D, tz, c.map (mk ks), rfl, eD, by rw [ltz, List.length_map], by rw [List.length_map]; omega, fun i t q => ⟨mk ks (rowC c i), ?_, htz i t q⟩, fun D2 H7 s7 nD2 eD2 => ?_⟩
        · rw [List.getElem?_map, row_get (by rw [← ltz]; exact (List.getElem?_eq_some_iff.mp q).1)]; rfl
        refine gN ?_
        have K' := kd_next wf ok KD
        obtain ⟨m1, m2, m3⟩ := kd_more KD K'
        have eKk7 := s7 _ _ (s _ _ eKk5)
        rw [ints_split] at eD2 eKk7
        refine ⟨.ref D2, rfl, D2, _, rfl, SqL.of eD2, by rw [List.length_map, numF_len, List.length_map]; exact wf.1, fun x hx lx => ⟨.ref Kk, rfl, Kk, _, rfl, SqL.of eKk7, by rw [List.length_map, KD.len]; exact wf.1, fun y hy ly => ⟨rfl, _, rfl, ?_⟩⟩⟩
        have ex := max_kd K' wf.1 hx lx
        have ey := max_kd KD wf.1 hy ly
        rw [← ints_split] at eD2 eKk7
        refine ite2 (fun z => ?_) (fun z => ?_)
        · have exy : x = y := by
            have := of_decide_eq_true z
            exact V.int.inj this
          have em : cn = (nubs (c.map (mk ks))).length := by omega
          refine ⟨.ref Kk, rfl, k Kk ks H7 (Same.trans s6 s7) nKk eKk7 KD.len fun s t hs ht => ?_⟩
          rw [KD.eq s t hs ht]
          exact ⟨stable wf (m3 em) hs ht, fun h => h r⟩
        · have nxy : x ≠ y := fun q => z (by rw [q]; exact decide_eq_true rfl)
          refine ⟨.ref D2, rfl, ?_⟩
          exact ⟨_, (by omega : c.length - (nubs (c.map (mk ks))).length < c.length - cn), D2, r + 1, _, _, _, _, _, _, _, _, _, rfl, rfl, K', m2, Same.trans s6 s7, Same.trans s25 (Same.trans s s7), none_back s6 nD2, eD2⟩
end
end K88
end

section
set_option maxHeartbeats 4000000
/-! the living part -/
namespace K88
open PySem PySem.Spec PyProof.Rows L2
theorem sgs_le : ∀ x ∈ sgs, ∀ p ∈ sgs, ltCps x.cps.toList p.cps.toList = false → sgs.idxOf p ≤ sgs.idxOf x := by decide +kernel
theorem sgs_pw : sgs.Pairwise fun a b => sgs.idxOf a ≤ sgs.idxOf b := by decide +kernel
theorem rising_pw : ∀ (ys : List Str) (p : Str), p ∈ sgs → (∀ y ∈ ys, y ∈ sgs) → risingS p ys = true → (∀ y ∈ ys, sgs.idxOf p ≤ sgs.idxOf y) ∧ ys.Pairwise fun a b => sgs.idxOf a ≤ sgs.idxOf b
  | [], _, _, _, _ => ⟨(fun y h => by cases h), .nil⟩
  | x :: r, p, hp, hy, h => by
    unfold risingS at h
    obtain ⟨h1, h2⟩ := Bool.and_eq_true_iff.mp h
    have hx := hy x List.mem_cons_self
    obtain ⟨a, b⟩ := rising_pw r x hx (fun y q => hy y (List.mem_cons_of_mem _ q)) h2
    have l := sgs_le x hx p hp (by simpa using h1)
    refine ⟨fun y q => ?_, .cons (fun y q => a y q) b⟩
    rcases List.mem_cons.mp q with rfl | q
    · exact l
    · exact Nat.le_trans l (a y q)
theorem sorted_keys {w : Nat} {r : List (Str × Nat)} (ok : okR w r) {ys : List Str} (pm : ys.Perm (keysR r)) (st : sortedS ys = true) : ys = keysR r := by
  have sub : ∀ z ∈ keysR r, z ∈ sgs := fun z hz => List.mem_of_mem_take (okR_in ok hz)
  have p1 : ys.Pairwise fun a b => sgs.idxOf a ≤ sgs.idxOf b := by
    cases ys with
    | nil => exact .nil
    | cons x r' =>
      obtain ⟨a, b⟩ := rising_pw r' x (sub x (pm.mem_iff.mp List.mem_cons_self)) (fun y hy => sub y (pm.mem_iff.mp (List.mem_cons_of_mem _ hy))) st
      exact .cons (fun y hy => a y hy) b
  have p2 : (keysR r).Pairwise fun a b => sgs.idxOf a ≤ sgs.idxOf b := by
    rw [show keysR r = (sgs.take w).filter _ from ok]
    exact (sgs_pw.sublist (List.take_sublist w sgs)).filter _
  refine List.Perm.eq_of_pairwise (fun a b ha hb h1 h2 => ?_) p1 p2 pm
  have ha' := sub a (pm.mem_iff.mp ha)
  have hb' := sub b hb
  have e : sgs.idxOf a = sgs.idxOf b := Nat.le_antisymm h1 h2
  have x1 := List.getElem_idxOf (List.idxOf_lt_length_of_mem ha')
  have x2 := List.getElem_idxOf (List.idxOf_lt_length_of_mem hb')
  rw [← x1, ← x2]
  congr 1
theorem rowK_keys (r : List (Str × Nat)) : (rowK r).map (·.1) = (keysR r).map Sum.inr := by
  unfold rowK keysR
  rw [List.map_map, List.map_map]; rfl
theorem lkp_take {r : List (Str × Nat)} (nd : (keysR r).Nodup) {j : Nat} {e : Str × Nat} (h : r[j]? = some e) : lkp (r.take j) e.1 = none := by
  refine lkp_none fun q => ?_
  obtain ⟨e', h1, h2⟩ := List.mem_map.mp q
  obtain ⟨i, hi, e1⟩ := List.mem_iff_getElem.mp h1
  have hi2 : i < j := by rw [List.length_take] at hi; omega
  obtain ⟨hj, e2⟩ := List.getElem?_eq_some_iff.mp h
  rw [List.getElem_take] at e1
  have nd' : (r.map (·.1)).Nodup := nd
  have := (List.getElem_inj (h₀ := by rw [List.length_map]; omega) (h₁ := by rw [List.length_map]; exact hj) nd' (i := i) (j := j)).mp (by rw [List.getElem_map, List.getElem_map, e1, e2]; exact h2)
  omega
/-- new dicts of the rows of c -/
def NewT (H0 H : Hp) (D : Addr) (c : Ch) : Prop := ∃ ds : List Addr, H D = some (.lst (ds.map V.ref)) ∧ ds.length = c.length ∧ ∀ (i : Nat) (d : Addr), ds[i]? = some d → H0 d = none ∧ H d = some (.dK (rowK (rowC c i)))
theorem NewT.lock {H0 H H' : Hp} {D : Addr} {c : Ch} (h : NewT H0 H D c) (L : LockP (fun b => H0 b = none) H H') : ∃ ls, TbF H' D ls c := by
  obtain ⟨ds, e, l, k⟩ := h
  refine ⟨ds, ⟨?_, l, fun i a q => ?_⟩⟩
  · rw [(L D).2 (.inr fun kvs z => by rw [e] at z; cases z)]; exact e
  · obtain ⟨h1, h2⟩ := k i a q
    exact (L a).1 h1 _ h2
/-- new dicts of the rows of c, each in some order -/
def NewP (H0 H : Hp) (D : Addr) (c : Ch) : Prop := ∃ ds : List Addr, H D = some (.lst (ds.map V.ref)) ∧ ds.length = c.length ∧ ∀ (i : Nat) (d : Addr), ds[i]? = some d → H0 d = none ∧ ∃ r, r.Perm (rowC c i) ∧ H d = some (.dK (rowK r))
theorem NewP.lock {H0 H H' : Hp} {D : Addr} {c : Ch} (h : NewP H0 H D c) (L : LockP (fun b => H0 b = none) H H') : ∃ ls, TbP H' D ls c := by
  obtain ⟨ds, e, l, k⟩ := h
  refine ⟨ds, ⟨?_, l, fun i a q => ?_⟩⟩
  · rw [(L D).2 (.inr fun kvs z => by rw [e] at z; cases z)]; exact e
  · obtain ⟨h1, r, p, h2⟩ := k i a q
    obtain ⟨o, e⟩ := (L a).1 h1 _ h2
    exact ⟨o, r, p, e⟩
def aliveL (c : Ch) (k : Nat) : List Bool := (List.range c.length).map (aliveF c k)
theorem aliveL_len (c : Ch) (k : Nat) : (aliveL c k).length = c.length := by unfold aliveL; rw [List.length_map, List.length_range]
theorem aliveL_at {c : Ch} {k s : Nat} (h : s < c.length) : atI ((aliveL c k).map V.bl) (s : Int) = some (.bl (aliveF c k s)) := atI_nat (by unfold aliveL; rw [List.getElem?_map, List.getElem?_map, List.getElem?_range h]; rfl)
theorem dx_bls {H : Hp} : ∀ bs : List Bool, DxAll H (bs.map V.bl) (bs.map PyData.bool)
  | [] => .nil
  | b :: bs => .cons (.bl b) (dx_bls bs)
theorem bls_shaped (bs : List Bool) : SeqAt.shaped (.list (bs.map PyData.bool)) = true := by
  unfold SeqAt.shaped
  rw [Bool.and_eq_true]
  constructor
  · have := can_map (f := PyData.bool) (l := bs) fun x hx => by simp [PyData.canLay0]
    simpa [PyData.canLay0] using this
  · refine decide_eq_true ?_
    have := depth_map (f := PyData.bool) (n := 1) (l := bs) fun x _ => by simp [PyData.depth]
    simp only [PyData.depth]
    omega
theorem bls_plain (bs : List Bool) : plainD (.list (bs.map PyData.bool)) = true := plain_map (f := PyData.bool) fun x _ => rfl
theorem bls_eqv (xs ys : List Bool) : PyData.eqv (.list (xs.map PyData.bool)) (.list (ys.map PyData.bool)) = decide (xs = ys) := by
  have := eqv_map (f := PyData.bool) (fun x y => by simp only [PyData.eqv]; rw [Bool.eq_iff_iff]; simp) xs ys
  simpa [PyData.eqv] using this
theorem aliveL_still {c : Ch} {k : Nat} : aliveL c (k + 1) = aliveL c k ↔ Still c k := by
  constructor
  · intro h
    refine still_of fun s hs => ?_
    have e : (aliveL c (k + 1))[s]? = (aliveL c k)[s]? := by rw [h]
    unfold aliveL at e
    rw [List.getElem?_map, List.getElem?_map, List.getElem?_range hs] at e
    exact Option.some.inj e
  · intro h
    unfold aliveL
    exact List.map_congr_left fun s _ => h s
theorem any_perm {r r' : List (Str × Nat)} (p : r'.Perm r) (f : Str × Nat → Bool) : r'.any f = r.any f := by
  rw [Bool.eq_iff_iff, List.any_eq_true, List.any_eq_true]
  exact ⟨fun ⟨x, h, q⟩ => ⟨x, p.mem_iff.mp h, q⟩, fun ⟨x, h, q⟩ => ⟨x, p.mem_iff.mpr h, q⟩⟩
def spLiving : Sp := fun vs H Q _ => ∃ (F : Addr) (ls : List Addr) (c : Ch) (w : Nat), vs = [.ref F] ∧ TbP H F ls c ∧ WfC c ∧ okT w c ∧ c.length ≤ 64 ∧ ∀ (D : Addr) (H' : Hp), Same H H' → H D = none → NewP H H' D (living c) → Q (.ref D) H'
section
variable {P : Program} {w : World} {K : PySem.W.Frag} {mg : Str → Option Value} {base : Heap} {ad : Str → Addr} {fd : Str → FuncData}
theorem scLivingPart : FnScope ["table", "alive", "still", "_", "leading", "to", "sign"] ["table"] (defScope sLivingPart) := ⟨rfl, rfl, rfl, by decide +kernel, rfl, by decide +kernel, by decide +kernel⟩
theorem ok_living (X : Tx K mg ad fd) : FnOk P w K mg base CX0 1 (ad "living_part") (fd "living_part") ["table"] spLiving := by
  refine X.F_living_part.ok scLivingPart (fun vs H Q E h => ?_) (fun cdv A outer s H vs Q E hr h => ?_)
  · obtain ⟨F, ls, c, w, rfl, tb, wf, ok, cl, k⟩ := h
    rfl
  · obtain ⟨F, ls, c, w, rfl, tb, wf, ok, cl, k⟩ := h
    have hu64 : (A.deeper (envOfC "living_part" (defScope sLivingPart) s.heap.objs.size (ad "living_part") cdv)).units + 64 < cLine := by have := hr.un; omega
    refine ⟨_, (pss_cons (ps_set (i := 1) scLivingPart.nd rfl (.inr rfl) (by exact (pe_lc (own := [("_", 3)]) (g := gName 3) rfl scLivingPart.nd (pi_listK (K := K) rfl (pv 0)) (blkOk_by (own := [("_", 3)]) (N := ["table", "alive", "still", "_", "leading", "to", "sign"]) (sc := defScope sLivingPart) (by decide +kernel)) (fun _ _ _ _ _ => pg_name (i := 3) scLivingPart.nd rfl (Or.inl rfl)) (fun _ _ _ _ _ => pts_nil) (fun _ _ _ _ _ => pe_bl))))
  (pss_cons (ps_while PassesOwn.never (pt_val pe_bl)
  (pss_cons (ps_setLc (i := 2) (own := [("leading", 4)]) (g := gName 4) rfl scLivingPart.nd rfl rfl (by rfl) (pi_listK (K := K) rfl (pv 0)) (blkOk_by (own := [("leading", 4)]) (N := ["table", "alive", "still", "_", "leading", "to", "sign"]) (sc := defScope sLivingPart) (by decide +kernel)) (fun _ _ _ _ _ => pg_name (i := 4) scLivingPart.nd rfl (Or.inl rfl)) (fun _ _ _ _ _ => pts_nil) (fun _ _ _ _ _ => (pe_callB (cr_anyK (K := K) rfl) (by rfl) X.m_any (by decide +kernel) (pa_cons (pe_lc (own := [("to", 5)]) (g := gName 5) rfl scLivingPart.nd (pi_values (pv 4)) (blkOk_by (own := [("to", 5)]) (N := ["table", "alive", "still", "_", "leading", "to", "sign"]) (by kernel_rfl)) (fun _ _ _ _ _ => pg_name (i := 5) scLivingPart.nd rfl (Or.inl rfl)) (fun _ _ _ _ _ => pts_nil) (fun _ _ _ _ _ => (pe_ix (ix_listK (K := K) rfl) (pv 1) (pv 5) (fun _ _ => rfl)))) pa_nil))))
  (pss_cons (ps_if (pt_cmpR (op_eqD hu64) (pv 2) (pv 1) (nomark _))
  (pss_one ps_break)
  pss_nil)
  (pss_one (ps_set (i := 1) scLivingPart.nd rfl (.inr rfl) (by exact (pv 2)))))))
  (pss_one (ps_ret (by exact (pe_lc (own := [("leading", 4)]) (g := gName 4) rfl scLivingPart.nd (pi_listK (K := K) rfl (pv 0)) (blkOk_by (own := [("leading", 4)]) (N := ["table", "alive", "still", "_", "leading", "to", "sign"]) (sc := defScope sLivingPart) (by decide +kernel)) (fun _ _ _ _ _ => pg_name (i := 4) scLivingPart.nd rfl (Or.inl rfl)) (fun _ _ _ _ _ => pts_nil) (fun _ _ _ _ _ => (pe_dc (own := [("sign", 6), ("to", 5)]) (g := gTup K 2 (gCons (gName 6) (gCons (gName 5) (gNil)))) rfl scLivingPart.nd (pi_items (pv 4)) (blkOk_by (own := [("sign", 6), ("to", 5)]) (N := ["table", "alive", "still", "_", "leading", "to", "sign"]) (by kernel_rfl)) (fun _ _ _ _ _ => pg_tupK (K := K) rfl rfl (pgs_cons (pg_name (i := 6) scLivingPart.nd rfl (Or.inl rfl)) (pgs_cons (pg_name (i := 5) scLivingPart.nd rfl (Or.inl rfl)) (pgs_nil)))) (fun _ _ _ _ _ => pts_one (pt_val (pe_ix (ix_listK (K := K) rfl) (pv 1) (pv 5) (fun _ _ => rfl)))) (fun _ _ _ _ _ => (pv 6)) (fun _ _ _ _ _ => (pv 5)))))))))), ?_⟩
    have hl : (ls.map V.ref).length = c.length := by rw [List.length_map, tb.l]
    refine ⟨.ref F, rfl, F, rfl, ⟨_, SqL.of tb.e⟩, fun A0 nA0 => ?_⟩
    refine lc_map (w := walk_list (K := K) (a := F) (xs := ls.map V.ref)) (fun _ => V.bl true) nA0 (by rw [hl]; omega) (fun i Hc _ sc => SqL.of (sc _ _ tb.e)) (fun _ => rfl) (fun i x Hc Hd hi sc y => ?_) (fun H1 s1 eA0 => ?_)
    · obtain ⟨rfl, _⟩ := y
      exact ⟨Same.refl, fun Q' hQ => hQ _ Same.refl⟩
    have e0 : (List.range (ls.map V.ref).length).map (fun _ => V.bl true) = (aliveL c 0).map V.bl := by
      rw [hl]
      unfold aliveL
      rw [List.map_map]
      exact List.map_congr_left fun s hs => by show V.bl true = V.bl (decide (s < c.length)); rw [decide_eq_true (List.mem_range.mp hs)]
    rw [e0] at eA0
    refine gN ?_
    let W : Nat → L2.St → Hp → Prop := fun m σ H' => ∃ (A : Addr) (k : Nat) (r2 r3 r4 r5 r6 : Option V), σ = [some (.ref F), some (.ref A), r2, r3, r4, r5, r6] ∧ Same H H' ∧ H' A = some (.lst ((aliveL c k).map V.bl)) ∧ cntT c k = m
    refine ⟨W, ⟨_, A0, 0, _, _, _, _, _, rfl, s1, eA0, rfl⟩, ?_⟩
    rintro m σ H2 ⟨A0, kk, r2, r3, r4, r5, r6, rfl, s12, eA, em⟩
    refine ⟨true, rfl, iteT ⟨fun σ' H' => ∃ m', m' < m ∧ W m' σ' H', fun _ _ z => z, ?_⟩⟩
    have at_ : ∀ {r : List (Str × Nat)} {i : Nat} {k : Key} {v : V}, (rowK r)[i]? = some (k, v) → ∃ e, r[i]? = some e ∧ k = .inr e.1 ∧ v = .int (e.2 : Int) := fun {r i k v} q => by
      unfold rowK at q
      rw [List.getElem?_map] at q
      cases er : r[i]? with
      | none => rw [er] at q; cases q
      | some e =>
        rw [er] at q
        cases q
        exact ⟨e, rfl, rfl, rfl⟩
    refine ⟨.ref F, rfl, F, rfl, ⟨_, SqL.of (s12 _ _ tb.e)⟩, fun D nD => ?_⟩
    refine lc_map (w := walk_list (K := K) (a := F) (xs := ls.map V.ref)) (fun i => V.bl (aliveF c (kk + 1) i)) nD (by rw [hl]; omega) (fun i Hc _ sc => SqL.of (sc _ _ (s12 _ _ tb.e))) (fun _ => rfl) (fun i x Hc Hd hi sc y => ?_) (fun H3 s3 eD => ?_)
    · obtain ⟨rfl, hx⟩ := y
      rw [hl] at hi
      obtain ⟨a, o, r, pm, h1, _, h3⟩ := tb.row hi
      rw [List.getElem?_map, h1] at hx
      cases hx
      refine ⟨Same.refl, fun Q' hQ => ?_⟩
      have ha := sc _ _ (s12 _ _ h3)
      have r4' : r.length ≤ 4 := by rw [pm.length_eq]; exact okR_len (rowOk ok hi).1
      refine ⟨.ref a, rfl, a, o, _, rfl, ha, fun D2 hD2 => ?_⟩
      refine lc_map (w := walk_values (d := a) (o := o) (kvs := rowK r)) (fun j => V.bl (aliveF c kk (r.getD j ("", 0)).2)) hD2 (by rw [rowK_len]; omega) (fun j Hc _ sc2 => sc2 _ _ ha) (fun _ => rfl) (fun j x Hc Hd hj sc2 y => ?_) (fun H4 s4 eD2 => ?_)
      · obtain ⟨rfl, k', hk⟩ := y
        obtain ⟨e, he, rfl, rfl⟩ := at_ hk
        have le := rowC_lt wf (pm.mem_iff.mp (List.mem_of_getElem? he))
        refine ⟨Same.refl, fun Q2 hQ2 => ?_⟩
        have q2 := hQ2 _ Same.refl
        rw [List.getD_eq_getElem?_getD, he] at q2
        exact ⟨.ref A0, rfl, .int (e.2 : Int), rfl, A0, _, _, _, rfl, rfl, SqL.of (sc2 _ _ (sc _ _ eA)), aliveL_at le, q2⟩
      · rw [rowK_len] at eD2
        have eb : (List.range r.length).map (fun j => V.bl (aliveF c kk (r.getD j ("", 0)).2)) = (r.map fun e => aliveF c kk e.2).map V.bl := by
          rw [List.map_map]
          exact range_map fun j e he => by rw [List.getD_eq_getElem?_getD, he]; rfl
        rw [eb] at eD2
        refine ⟨D2, _, rfl, SqL.of eD2, ?_⟩
        rw [show (r.map fun e => aliveF c kk e.2).any id = aliveF c (kk + 1) i by
          rw [List.any_map]
          exact any_perm pm _]
        exact hQ _ s4
    · have e1 : (List.range (ls.map V.ref).length).map (fun i => V.bl (aliveF c (kk + 1) i)) = (aliveL c (kk + 1)).map V.bl := by
        rw [hl]
        unfold aliveL
        rw [List.map_map]; rfl
      rw [e1] at eD
      refine gN ?_
      have s13 := Same.trans s12 s3
      have eA3 := s3 _ _ eA
      refine ⟨.ref D, rfl, .ref A0, rfl, _, _, Dx.dp (.lst eD (dx_bls _)) (bls_plain _), Dx.dp (.lst eA3 (dx_bls _)) (bls_plain _), bls_shaped _, bls_shaped _, ?_⟩
      rw [bls_eqv]
      by_cases st : aliveL c (kk + 1) = aliveL c kk
      · rw [decide_eq_true st]
        refine ⟨_, rfl, iteT ?_⟩
        have still := aliveL_still.mp st
        refine ⟨.ref F, rfl, F, rfl, ⟨_, SqL.of (s13 _ _ tb.e)⟩, fun R0 nR0 => ?_⟩
        refine lc_rel (w := walk_list (K := K) (a := F) (xs := ls.map V.ref)) (fun i v H' => ∃ d, v = .ref d ∧ d ≠ R0 ∧ H d = none ∧ ∃ r, r.Perm (rowC (living c) i) ∧ H' d = some (.dK (rowK r))) nR0 (by rw [hl]; omega) (fun i H' _ s => SqL.of (s _ _ (s13 _ _ tb.e))) (fun i v H' H6 up ⟨d, e1, e2, e3, r, e4, e5⟩ => ⟨d, e1, e2, e3, r, e4, up _ _ e2 e5⟩) (fun i x H' H6 hi s ⟨acc, eR⟩ ⟨e0, hx⟩ Nx hN => ?_) (mn_name _) (fun H6 zs s eR lz R => ?_)
        · subst e0
          rw [hl] at hi
          obtain ⟨a, o, r, pm, h1, _, h3⟩ := tb.row hi
          rw [List.getElem?_map, h1] at hx
          cases hx
          have s16 := Same.trans s13 s
          have ha := s16 _ _ h3
          have r4' : r.length ≤ 4 := by rw [pm.length_eq]; exact okR_len (rowOk ok hi).1
          have nd : (keysR r).Nodup := (pm.map (fun e : Str × Nat => e.1)).nodup_iff.mpr (okR_nd (rowOk ok hi).1)
          refine gN ⟨rfl, ?_⟩
          refine ⟨.ref a, rfl, a, o, _, rfl, ha, fun Dd nDd => ?_⟩
          have nDR : Dd ≠ R0 := fun z => by rw [z, eR] at nDd; cases nDd
          have nDH : H Dd = none := none_back s16 nDd
          refine dc_it (w := walk_items (d := a) (o := o) (kvs := rowK r)) (fun j H' => Same H6 H' ∧ H' Dd = some (.dK (rowK ((r.take j).filter fun e => liveB c e.2)))) ⟨Same.new nDd, upd_same⟩ (fun j H' _ h => h.1 _ _ ha) ?_ ?_
          · rintro j x H' H7 hj ⟨sj, eDd⟩ ⟨T, u, v, rfl, hT, rfl, eu, ev⟩
            have eu : (rowK r)[j]?.map (fun kv => kV kv.1) = some u := eu
            have ev : (rowK r)[j]?.map Prod.snd = some v := ev
            rw [rowK_len] at hj
            obtain ⟨e, he⟩ : ∃ e, r[j]? = some e := ⟨_, List.getElem?_eq_getElem hj⟩
            have ek : (rowK r)[j]? = some ((.inr e.1 : Key), V.int (e.2 : Int)) := by
              unfold rowK
              rw [List.getElem?_map, he]; rfl
            rw [ek] at eu ev
            obtain rfl : V.str e.1 = u := Option.some.inj eu
            obtain rfl : V.int (e.2 : Int) = v := Option.some.inj ev
            have le := rowC_lt wf (pm.mem_iff.mp (List.mem_of_getElem? he))
            have sT := Same.trans sj (Same.new hT (o := .tup [V.str e.1, V.int (e.2 : Int)]))
            have tk : r.take (j + 1) = r.take j ++ [(e.1, e.2)] := by rw [List.take_add_one, he]; rfl
            refine ⟨T, _, rfl, SqT.of upd_same, rfl, _, _, rfl, _, _, rfl, rfl, rfl, ?_⟩
            refine ⟨.ref A0, rfl, .int (e.2 : Int), rfl, A0, _, _, _, rfl, rfl, SqL.of (sT _ _ (s _ _ eA3)), aliveL_at le, aliveF c kk e.2, rfl, ?_⟩
            rw [still.live]
            by_cases q : liveB c e.2 = true
            · rw [q]
              refine iteT ?_
              refine ⟨.str e.1, rfl, .int (e.2 : Int), rfl, rowK ((r.take j).filter fun e => liveB c e.2), .inr e.1, rfl, Same.new hT _ _ eDd, ?_, ?_, ?_⟩
              · rw [rowK_len, sizeLine_eq]
                have := List.length_filter_le (fun e : Str × Nat => liveB c e.2) (r.take j)
                rw [List.length_take] at this
                omega
              · intro b u eb
                rw [upd_ne (ne_of_none eb nDd)]
                exact sT _ _ eb
              · have no : lkp ((r.take j).filter fun e => liveB c e.2) e.1 = none := lkp_none fun z => by
                  obtain ⟨e', h1, h2⟩ := List.mem_map.mp z
                  have := lkp_take nd he
                  have h3 : lkp (r.take j) e'.1 = some e'.2 := lkp_at (by
                    have h4 : (keysR (r.take j)).Sublist (keysR r) := (List.take_sublist j r).map fun e : Str × Nat => e.1
                    exact nd.sublist h4) (List.mem_filter.mp h1).1
                  rw [h2, this] at h3
                  cases h3
                rw [upd_same, rowK_put no, tk, List.filter_append, List.filter_cons, if_pos q]; rfl
            · rw [show liveB c e.2 = false by cases z : liveB c e.2 with | false => rfl | true => exact absurd z q]
              refine iteF ⟨sT, ?_⟩
              rw [tk, List.filter_append, List.filter_cons, if_neg q, List.filter_nil, List.append_nil]
              exact Same.new hT _ _ eDd
          · rintro H' ⟨sj, eDd⟩
            rw [rowK_len, List.take_length] at eDd
            refine hN _ _ sj ⟨Dd, rfl, nDR, nDH, _, ?_, eDd⟩
            rw [living_row]
            exact pm.filter _
        · obtain ⟨ds, rfl, hds⟩ := refs_of (R := fun i d => H d = none ∧ ∃ r, r.Perm (rowC (living c) i) ∧ H6 d = some (.dK (rowK r))) fun i z hz => let ⟨d, e1, _, e3, e4⟩ := R i z hz; ⟨d, e1, e3, e4⟩
          exact k R0 H6 (Same.trans s13 s) (none_back s13 nR0) ⟨ds, eR, by rw [← List.length_map (f := V.ref), lz, hl, living_len], hds⟩
      · rw [decide_eq_false st]
        refine ⟨_, rfl, iteF ?_⟩
        refine ⟨.ref D, rfl, ?_⟩
        refine gN ?_
        have less : cntT c (kk + 1) < cntT c kk := cnt_less fun z => st (aliveL_still.mpr (still_of z))
        exact ⟨cntT c (kk + 1), by omega, D, kk + 1, _, _, _, _, _, rfl, s13, eD, rfl⟩
end
end K88
end

section
set_option maxHeartbeats 4000000
/-! the least table -/
namespace K88
open PySem PySem.Spec PyProof.Rows L2
def phI (k : Nat) : Key := .inl (k : Int)
theorem phI_inj (a b : Nat) (h : phI a = phI b) : a = b := by
  have := Sum.inl.inj h
  omega
def spLeast : Sp := fun vs H Q _ => ∃ (F : Addr) (ls : List Addr) (c : Ch) (w s0 : Nat), vs = [.ref F, .int (s0 : Int)] ∧ TbP H F ls c ∧ WfC c ∧ okT w c ∧ c.length ≤ 64 ∧ s0 < c.length ∧
  (liveB c s0 = false → ∀ (D : Addr) (H' : Hp), Same H H' → H D = none → H' D = some (.lst []) → Q (.ref D) H') ∧
  (liveB c s0 = true → ∀ (D : Addr) (H' : Hp), Same H H' → H D = none → NewT H H' D (chartS (living c) s0) → Q (.ref D) H')
theorem idx_same {f g : Nat → Nat} {t : Nat} : ∀ {o : List Nat}, (∀ x ∈ o, f x = f t ↔ g x = g t) → ixM (o.map f) (f t) = (o.map g).idxOf (g t)
  | [], _ => rfl
  | x :: o, h => by
    have ih := idx_same (o := o) fun y hy => h y (List.mem_cons_of_mem _ hy)
    unfold ixM at ih ⊢
    rw [List.map_cons, List.map_cons, List.idxOf_cons, List.idxOf_cons]
    by_cases e : f x = f t
    · have e2 := (h x List.mem_cons_self).mp e
      rw [e, e2]; simp
    · have e2 : ¬ g x = g t := fun z => e ((h x List.mem_cons_self).mpr z)
      rw [show (f x == f t) = false from beq_eq_false_iff_ne.mpr e, show (g x == g t) = false from beq_eq_false_iff_ne.mpr e2]
      simp only [cond_false]
      rw [ih]
theorem mem_same {f g : Nat → Nat} {t : Nat} {o : List Nat} (h : ∀ x ∈ o, f x = f t ↔ g x = g t) : f t ∈ o.map f ↔ g t ∈ o.map g := by
  constructor
  · intro q
    obtain ⟨x, hx, e⟩ := List.mem_map.mp q
    exact List.mem_map.mpr ⟨x, hx, (h x hx).mp e⟩
  · intro q
    obtain ⟨x, hx, e⟩ := List.mem_map.mp q
    exact List.mem_map.mpr ⟨x, hx, (h x hx).mpr e⟩
theorem addPs_lt {c : Ch} : ∀ (r : List (Str × Nat)) (o : List Nat), (∀ x ∈ o, x < c.length) → (∀ e ∈ r, e.2 < c.length) → ∀ x ∈ addPs c o r, x < c.length
  | [], o, h, _ => h
  | e :: r, o, h, hr => addPs_lt r (addP c o e.2) (addP_lt h (hr e List.mem_cons_self)) fun e' h' => hr e' (List.mem_cons_of_mem _ h')
theorem addPs_succ {c : Ch} {o : List Nat} {r : List (Str × Nat)} {j : Nat} {e : Str × Nat} (h : r[j]? = some e) : addPs c o (r.take (j + 1)) = addP c (addPs c o (r.take j)) e.2 := by
  rw [List.take_add_one, h]
  unfold addPs
  rw [Option.toList_some, List.foldl_append]; rfl
theorem nodup_addN' {o : List Nat} {t : Nat} (h : o.Nodup) : (addN o t).Nodup := nodup_addN t h
theorem addPs_nd {c : Ch} (r : List (Str × Nat)) {o : List Nat} (h : (o.map (rep c)).Nodup) : ((addPs c o r).map (rep c)).Nodup := by
  rw [addPs_map]
  exact nodup_addAll h
theorem reps_len {c : Ch} {o : List Nat} (nd : (o.map (rep c)).Nodup) (lt : ∀ x ∈ o, x < c.length) : o.length ≤ c.length := by
  have := nodup_len nd (n := c.length) fun x hx => by
    obtain ⟨y, hy, rfl⟩ := List.mem_map.mp hx
    exact (rep_ok (lt y hy)).1
  rwa [List.length_map] at this
section
variable {P : Program} {w : World} {K : PySem.W.Frag} {mg : Str → Option Value} {base : Heap} {ad : Str → Addr} {fd : Str → FuncData}
theorem b_least_table (X : Tx K mg ad fd) : Binds K (fd "least_table") ["table", "start"] [] := by
  obtain ⟨ds, v, b⟩ := X.F_least_table.binds1 (ps := ["table", "start"]) 2 1 (by decide) rfl fun T kV doc pm an cdv ct us its hl hi => by
    match us, its, hl, hi with
    | [_, _], [_], _, _ => first | exact ⟨_, rfl, rfl⟩ | exact ⟨_, by with_unfolding_all rfl, rfl⟩
  cases v
  exact b
theorem scLeastTable : FnScope ["table", "start", "living", "kinds", "order", "places", "at", "leading", "sign", "kind", "old", "key"] ["table", "start"] (defScope sLeastTable) := ⟨rfl, rfl, rfl, by decide +kernel, rfl, by decide +kernel, by decide +kernel⟩
theorem ok_least_table (X : Tx K mg ad fd) : FnOk P w K mg base CX0 3 (ad "least_table") (fd "least_table") ["table", "start"] spLeast := by
  have G_living_part := ok_living (P := P) (w := w) (base := base) X
  have G_kinds_of := ok_kinds_of (P := P) (w := w) (base := base) X
  refine FunV.okV X.F_least_table scLeastTable (fun vs H Q E h => ?_) (fun cdv A outer s H vs Q E hr h => ?_)
  · obtain ⟨F, ls, c, w, s0, rfl, tb, wf, ok, cl, hs0, k0, k⟩ := h
    rfl
  · obtain ⟨F, ls, c0, w, s0, rfl, tb, wf, ok, cl, hs0, k0, k⟩ := h
    have HR_living_part : Room 1 _ := hr.mono (by decide)
    have HR_kinds_of : Room 2 _ := hr
    have HU : (A.deeper (envOfC "least_table" (defScope sLeastTable) s.heap.objs.size (ad "least_table") cdv)).units + 1 < cLine := by have := hr.un; omega
    refine ⟨_, (pss_cons (ps_set (i := 2) scLeastTable.nd rfl (.inr rfl) (by exact (pe_call G_living_part HR_living_part (by rfl) X.g_living_part X.F_living_part.kp X.b_living_part .nil pass0 (pa_cons (pv 0) pa_nil))))
  (pss_cons (ps_if (pt_not (pt_truth (pe_ix (ix_listK (K := K) rfl) (pv 2) (pv 1) (fun _ _ => rfl)) (by intro _; rfl)))
  (pss_one (ps_ret (by exact (pe_lst pa_nil))))
  pss_nil)
  (pss_cons (ps_set (i := 3) scLeastTable.nd rfl (.inr rfl) (by exact (pe_call G_kinds_of HR_kinds_of (by rfl) X.g_kinds_of X.F_kinds_of.kp X.b_kinds_of .nil pass0 (pa_cons (pe_lock (pv 2)) pa_nil))))
  (pss_cons (ps_set (i := 4) scLeastTable.nd rfl (.inl rfl) (by exact (pe_lst (pa_cons (pv 1) pa_nil))))
  (pss_cons (ps_set (i := 5) scLeastTable.nd rfl (.inr rfl) (by exact (pe_disp (pps_cons (pe_ix (ix_listK (K := K) rfl) (pv 3) (pv 1) (fun _ _ => rfl)) pe_int pps_nil) (by rfl) (by rfl) (fun z => by cases z) (by decide))))
  (pss_cons (ps_set (i := 6) scLeastTable.nd rfl (.inl rfl) (by exact pe_int))
  (pss_cons (ps_while PassesOwn.never (pt_cmpR op_lt (pv 6) (pe_callB (call_lenK (K := K) rfl) (by rfl) X.m_len (by decide +kernel) (pa_cons (pv 4) pa_nil)) (nomark _))
  (pss_cons (ps_set (i := 7) scLeastTable.nd rfl (.inl rfl) (by exact (pe_ix (ix_listK (K := K) rfl) (pv 2) (pe_ix (ix_listK (K := K) rfl) (pv 4) (pv 6) (fun _ _ => rfl)) (fun _ _ => rfl))))
  (pss_cons (ps_for PassesOwn.never rfl (pi_list (pe_callB (call_sortedD rfl) (by rfl) X.m_sorted (by decide +kernel) (pa_cons (pv 7) pa_nil))) (pg_name (i := 8) scLeastTable.nd rfl (.inl rfl))
  (pss_cons (ps_set (i := 9) scLeastTable.nd rfl (.inl rfl) (by exact (pe_ix (ix_listK (K := K) rfl) (pv 3) (pe_dget HU (pv 7) (pv 8) (fun _ _ => rfl)) (fun _ _ => rfl))))
  (pss_one (ps_if (pt_cmp (pc_dnotin HU (pv 9) (pv 5)))
  (pss_cons (ps_asg (by exact (pe_callB (call_lenK (K := K) rfl) (by rfl) X.m_len (by decide +kernel) (pa_cons (pv 4) pa_nil))) (pg_sub (pv 5) (pv 9) (set_dict HU)))
  (pss_one (ps_expr (by exact (pe_bm PySem.F.plainAttrs_list PySem.F.slot_list_append PySem.F.type_list_append mt_append (pv 4) (pa_cons (pe_dget HU (pv 7) (pv 8) (fun _ _ => rfl)) pa_nil))))))
  pss_nil))))
  (pss_one (ps_aug (i := 6) scLeastTable.nd rfl (.inl rfl) pe_int ip_add)))))
  (pss_one (ps_ret (by exact (pe_lc (own := [("old", 10)]) (g := gName 10) rfl scLeastTable.nd (pi_listK (K := K) rfl (pv 4)) (blkOk_by (own := [("old", 10)]) (N := ["table", "start", "living", "kinds", "order", "places", "at", "leading", "sign", "kind", "old", "key"]) (sc := defScope sLeastTable) (by decide +kernel)) (fun _ _ _ _ _ => pg_name (i := 10) scLeastTable.nd rfl (Or.inr rfl)) (fun _ _ _ _ _ => pts_nil) (fun _ _ _ _ _ => (pe_dc (own := [("key", 11)]) (g := gName 11) rfl scLeastTable.nd (pi_listK (K := K) rfl (pe_callB (call_sortedD rfl) (by rfl) X.m_sorted (by decide +kernel) (pa_cons (pe_ix (ix_listK (K := K) rfl) (pv 2) (pv 10) (fun _ _ => rfl)) pa_nil))) (blkOk_by (own := [("key", 11)]) (N := ["table", "start", "living", "kinds", "order", "places", "at", "leading", "sign", "kind", "old", "key"]) (by kernel_rfl)) (fun _ _ _ _ _ => pg_name (i := 11) scLeastTable.nd rfl (Or.inl rfl)) (fun _ _ _ _ _ => pts_nil) (fun _ _ _ _ _ => (pv 11)) (fun _ _ _ _ _ => (pe_dget HU (pv 5) (pe_ix (ix_listK (K := K) rfl) (pv 3) (pe_dget HU (pe_ix (ix_listK (K := K) rfl) (pv 2) (pv 10) (fun _ _ => rfl)) (pv 11) (fun _ _ => rfl)) (fun _ _ => rfl)) (fun _ _ => rfl)))))))))))))))), ?_⟩
    obtain ⟨q1, q2, q3, q4⟩ := reachS_ok wf hs0
    refine ⟨.ref F, rfl, F, ls, c0, w, rfl, tb, wf, ok, cl, fun L H1 s1 nL nt => ?_⟩
    refine gN ?_
    have em := living_nil (c := c0) s0
    replace wf := living_wf wf
    replace ok := living_ok ok
    rw [← living_len c0] at cl hs0
    generalize liveB c0 s0 = lv at em k0 k
    generalize living c0 = c at nt wf ok cl hs0 em k
    obtain ⟨ds, eL, lds, kds⟩ := id nt
    obtain ⟨d0, hd0⟩ : ∃ d0, ds[s0]? = some d0 := ⟨ds[s0]'(by rw [lds]; exact hs0), List.getElem?_eq_getElem _⟩
    obtain ⟨r0, pm0, ed0⟩ := (kds s0 d0 hd0).2
    refine ⟨.ref L, rfl, .int (s0 : Int), rfl, L, _, (s0 : Int), .ref d0, rfl, rfl, SqL.of eL, atI_nat (j := s0) (by rw [List.getElem?_map, hd0]; rfl), _, .inr (.inr ⟨_, ed0, rfl⟩), ?_⟩
    have em0 : (rowK r0).isEmpty = !lv := by
      rw [← em]
      have h1 : (rowK r0).length = (rowC c s0).length := by rw [rowK_len, pm0.length_eq]
      cases e1 : rowK r0 with
      | nil => rw [e1] at h1; cases e2 : rowC c s0 with
        | nil => rfl
        | cons a b => rw [e2] at h1; cases h1
      | cons a b => rw [e1] at h1; cases e2 : rowC c s0 with
        | nil => rw [e2] at h1; cases h1
        | cons a b => rfl
    rw [em0]
    cases lv with
    | false =>
      refine iteT ⟨(by show 0 ≤ sizeLine; omega), fun D nD => ?_⟩
      exact k0 rfl D _ (Same.trans s1 (Same.new nD)) (none_back s1 nD) upd_same
    | true =>
    replace k := k rfl
    obtain ⟨q1, q2, q3, q4⟩ := reachS_ok wf hs0
    refine iteF ?_
    refine ⟨.ref L, rfl, fun b => H b = none, fun H2 LP => ?_⟩
    obtain ⟨ls2, tb2⟩ := nt.lock LP
    have s02 := LP.same s1
    refine ⟨L, ls2, c, w, rfl, tb2, wf, ok, cl, fun Kd ks H3 s3 nK eK lk keq => ?_⟩
    refine gN ?_
    have s03 := Same.trans s02 s3
    have tb3 := tb2.same s3
    have kat : ∀ {g : Nat}, g < c.length → atI (intsV ks) (g : Int) = some (.int ((ks.getD g 0 : Nat) : Int)) := fun {g} hg => atI_nat (by
      unfold intsV
      rw [List.getElem?_map, List.getD_eq_getElem?_getD, List.getElem?_eq_getElem (by rw [lk]; exact hg)]; rfl)
    have krep : ∀ {s t : Nat}, s < c.length → t < c.length → (ks.getD s 0 = ks.getD t 0 ↔ rep c s = rep c t) := fun hs ht => (keq _ _ hs ht).trans (rep_eq hs ht).symm
    refine ⟨.int (s0 : Int), rfl, sz1, fun O nO => ?_⟩
    refine gN ?_
    have nO0 : H O = none := none_back s03 nO
    refine fun Pl nPl => ?_
    have nOP : O ≠ Pl := ne_of_none upd_same nPl
    have nPl0 : H Pl = none := none_back s03 (none_back (Same.new nO) nPl)
    have eK' : (upd (upd H3 O (.lst [.int (s0 : Int)])) Pl (.dK [])) Kd = some (.lst (intsV ks)) := Same.new nPl _ _ (Same.new nO _ _ eK)
    refine ⟨.ref Kd, rfl, .int (s0 : Int), rfl, Kd, _, (s0 : Int), _, rfl, rfl, SqL.of eK', kat hs0, ?_⟩
    refine ⟨upd_same, [(phI (ks.getD s0 0), .int 0)], rfl, (by show 1 ≤ 15; decide), ?_⟩
    refine gN ?_
    have s4 : Same H3 (upd (upd (upd H3 O (.lst [.int (s0 : Int)])) Pl (.dK [])) Pl (.dK (mergeK [] [(phI (ks.getD s0 0), .int 0)]))) := fun b u e => by
      have h1 := Same.new nO (o := .lst [.int (s0 : Int)]) _ _ e
      rw [upd_ne (ne_of_none h1 nPl)]
      exact Same.new nPl _ _ h1
    have ePl : (upd (upd (upd H3 O (.lst [.int (s0 : Int)])) Pl (.dK [])) Pl (.dK (mergeK [] [(phI (ks.getD s0 0), .int 0)]))) Pl = some (.dK (plc phI 0 ([s0].map fun s => ks.getD s 0))) := by rw [upd_same]; rfl
    have eO : (upd (upd (upd H3 O (.lst [.int (s0 : Int)])) Pl (.dK [])) Pl (.dK (mergeK [] [(phI (ks.getD s0 0), .int 0)]))) O = some (.lst (intsV [s0])) := by rw [upd_ne nOP, upd_ne nOP, upd_same]; rfl
    generalize (upd (upd (upd H3 O (.lst [.int (s0 : Int)])) Pl (.dK [])) Pl (.dK (mergeK [] [(phI (ks.getD s0 0), .int 0)]))) = H4 at s4 ePl eO ⊢
    have nK3 : ∀ {b : Addr} {u : HO}, H3 b = some u → b ≠ O := fun e z => by rw [z, nO] at e; cases e
    have nP3 : ∀ {b : Addr} {u : HO}, H3 b = some u → b ≠ Pl := fun e z => by rw [z, none_back (Same.new nO) nPl] at e; cases e
    let ksv : Nat → Nat := fun s => ks.getD s 0
    let W : Nat → L2.St → Hp → Prop := fun m σ H' => ∃ (n : Nat) (os : List Nat) (r7 r8 r9 r10 r11 : Option V), σ = [some (.ref F), some (.int (s0 : Int)), some (.ref L), some (.ref Kd), some (.ref O), some (.ref Pl), some (.int (n : Int)), r7, r8, r9, r10, r11] ∧ m = c.length + 1 - n ∧ n ≤ os.length ∧ n ≤ c.length ∧ Same H3 H' ∧
      H' O = some (.lst (intsV os)) ∧ H' Pl = some (.dK (plc phI 0 (os.map ksv))) ∧ (os.map (rep c)).Nodup ∧ (∀ x ∈ os, x < c.length) ∧ goR (quo c) (c.length + 1 - n) n (os.map (rep c)) = reachS c s0
    refine ⟨W, ⟨_, 0, [s0], _, _, _, _, _, rfl, rfl, Nat.zero_le _, Nat.zero_le _, s4, eO, ePl, by simp, (fun x hx => by rw [List.mem_singleton.mp hx]; exact hs0), ?_⟩, ?_⟩
    · rfl
    rintro m σ H5 ⟨n, os, r7, r8, r9, r10, r11, rfl, rfl, hn, hn2, s5, eO5, eP5, nd, lt, go⟩
    have los := reps_len nd lt
    refine ⟨.int (n : Int), rfl, .ref O, rfl, .ref O, _, rfl, .inl ⟨_, SqL.of eO5, rfl⟩, _, _, rfl, rfl, _, rfl, ?_⟩
    have li : (intsV os).length = os.length := by unfold intsV; rw [List.length_map]
    rw [li]
    by_cases hlt : n < os.length
    · rw [decide_eq_true (show (n : Int) < (os.length : Int) by omega)]
      refine iteT ⟨fun σ' H' => ∃ m', m' < c.length + 1 - n ∧ W m' σ' H', fun _ _ z => z, ?_⟩
      obtain ⟨o, ho⟩ : ∃ o, os[n]? = some o := ⟨_, List.getElem?_eq_getElem hlt⟩
      have lo := lt o (List.mem_of_getElem? ho)
      have tb5 := tb3.same s5
      obtain ⟨a, ob, r', pm, h1, h2, h30⟩ := tb3.row lo
      have h3 := s5 _ _ h30
      have a3 : ∃ u, H3 a = some u := ⟨_, h30⟩
      refine ⟨.ref L, rfl, .ref O, rfl, .int (n : Int), rfl, O, _, (n : Int), .int (o : Int), rfl, rfl, SqL.of eO5, atI_nat (by unfold intsV; rw [List.getElem?_map, ho]; rfl), L, _, (o : Int), .ref a, rfl, rfl, SqL.of tb5.e, h2, ?_⟩
      refine gN ?_
      let r := rowC c o
      have okr := (rowOk ok lo).1
      have nd_r := okR_nd okr
      have r4 := okR_len okr
      refine ⟨.ref a, rfl, a, rowK r', keysR r', rfl, .inr ⟨ob, h3⟩, rowK_keys _, by unfold keysR; rw [List.length_map, pm.length_eq]; exact Nat.lt_of_le_of_lt r4 (by decide), fun ys S pm2 st nS => ?_⟩
      obtain rfl := sorted_keys okr (pm2.trans (pm.map fun e : Str × Nat => e.1)) st
      have eS : (upd H5 S (.lst ((keysR r).map V.str))) S = some (.lst ((keysR r).map V.str)) := upd_same
      have s6 := Same.trans s5 (Same.new nS (o := .lst ((keysR r).map V.str)))
      have eO6 := Same.new nS (o := .lst ((keysR r).map V.str)) _ _ eO5
      have eP6 := Same.new nS (o := .lst ((keysR r).map V.str)) _ _ eP5
      have nSO : S ≠ O := fun z => by rw [z, eO5] at nS; cases nS
      have nSP : S ≠ Pl := fun z => by rw [z, eP5] at nS; cases nS
      generalize (upd H5 S (.lst ((keysR r).map V.str))) = H6 at s6 eO6 eP6 eS ⊢
      have lxs : ((keysR r).map V.str).length = r.length := by unfold keysR; rw [List.length_map, List.length_map]
      refine ⟨S, rfl, ⟨_, SqL.of eS⟩, ?_⟩
      refine for_it (w := walk_list (K := K) (a := S) (xs := (keysR r).map V.str)) (fun j σ H' => ∃ r8 r9, σ = [some (.ref F), some (.int (s0 : Int)), some (.ref L), some (.ref Kd), some (.ref O), some (.ref Pl), some (.int (n : Int)), some (.ref a), r8, r9, r10, r11] ∧ Same H3 H' ∧ H' S = some (.lst ((keysR r).map V.str)) ∧ H' O = some (.lst (intsV (addPs c os (r.take j)))) ∧ H' Pl = some (.dK (plc phI 0 ((addPs c os (r.take j)).map ksv)))) ⟨_, _, rfl, s6, eS, eO6, eP6⟩ (fun i σ H' _ ⟨_, _, _, _, z, _⟩ => SqL.of z) ?_ ?_
      · rintro j x σ H' H7 hj ⟨r8, r9, rfl, s7, eS7, eO7, eP7⟩ ⟨e0, hx⟩
        subst e0
        rw [lxs] at hj
        obtain ⟨e, he⟩ : ∃ e, r[j]? = some e := ⟨_, List.getElem?_eq_getElem hj⟩
        have ex : x = V.str e.1 := by
          unfold keysR at hx
          rw [List.getElem?_map, List.getElem?_map, he] at hx
          exact (Option.some.inj hx).symm
        subst ex
        have me : e ∈ rowC c o := List.mem_of_getElem? he
        have le := rowC_lt wf me
        have h3' : H7 a = some (.frz ob (.dK (rowK r'))) := s7 _ _ h30
        have dg : DGet H7 a (.str e.1) (some (.int (e.2 : Int))) := .inl ⟨rowK r', .inr e.1, .inr ⟨ob, h3'⟩, rfl, by rw [rowK_val, lkp_perm nd_r pm, lkp_at nd_r (List.mem_of_getElem? he)]; rfl⟩
        have nPO : Pl ≠ O := nOP.symm
        have naO : a ≠ O := let ⟨u, q⟩ := a3; nK3 q
        have naP : a ≠ Pl := let ⟨u, q⟩ := a3; nP3 q
        let os' := addPs c os (r.take j)
        have lt' : ∀ x ∈ os', x < c.length := addPs_lt _ _ lt fun e' h' => rowC_lt wf (List.mem_of_mem_take h')
        have nd' : (os'.map (rep c)).Nodup := addPs_nd _ nd
        have lo' : os'.length ≤ c.length := reps_len nd' lt'
        have mm : ksv e.2 ∈ os'.map ksv ↔ rep c e.2 ∈ os'.map (rep c) := mem_same fun x hx => krep (lt' x hx) le
        have nx := addPs_succ (c := c) (o := os) he
        have dp : DGet H7 Pl (.int ((ksv e.2 : Nat) : Int)) (valV (plc phI 0 (os'.map ksv)) (phI (ksv e.2))) := .inl ⟨_, phI (ksv e.2), .inl eP7, rfl, rfl⟩
        refine gN ?_
        refine ⟨.ref Kd, rfl, .ref a, rfl, .str e.1, rfl, a, .int (e.2 : Int), rfl, dg, Kd, _, (e.2 : Int), _, rfl, rfl, SqL.of (s7 _ _ eK), kat le, ?_⟩
        refine gN ?_
        refine ⟨.int ((ksv e.2 : Nat) : Int), rfl, .ref Pl, rfl, Pl, _, rfl, dp, _, rfl, ?_⟩
        rw [plc_val phI_inj]
        by_cases hm : ksv e.2 ∈ os'.map ksv
        · rw [if_pos hm]
          refine iteF ?_
          have e2 : addPs c os (r.take (j + 1)) = os' := by
            rw [nx]
            unfold addP
            rw [if_pos (mm.mp hm)]
          exact ⟨_, _, rfl, s7, eS7, by rw [e2]; exact eO7, by rw [e2]; exact eP7⟩
        · rw [if_neg hm]
          refine iteT ?_
          have e2 : addPs c os (r.take (j + 1)) = os' ++ [e.2] := by
            rw [nx]
            unfold addP
            rw [if_neg (fun z => hm (mm.mpr z))]
          refine ⟨.ref O, rfl, .ref O, _, rfl, .inl ⟨_, SqL.of eO7, rfl⟩, .ref Pl, rfl, .int ((ksv e.2 : Nat) : Int), rfl, Pl, _, rfl, .inl ⟨_, phI (ksv e.2), eP7, rfl, by rw [plc_len, List.length_map, sizeLine_eq]; exact Nat.lt_of_le_of_lt lo' (by omega), rfl⟩, ?_⟩
          rw [plc_put phI_inj hm (by unfold intsV; rw [List.length_map, List.length_map])]
          have eO8 : (upd H7 Pl (.dK (plc phI 0 (os'.map ksv ++ [ksv e.2])))) O = some (.lst (intsV os')) := by rw [upd_ne nOP]; exact eO7
          have dg8 : DGet (upd H7 Pl (.dK (plc phI 0 (os'.map ksv ++ [ksv e.2])))) a (.str e.1) (some (.int (e.2 : Int))) := .inl ⟨rowK r', .inr e.1, .inr ⟨ob, by rw [upd_ne naP]; exact h3'⟩, rfl, by rw [rowK_val, lkp_perm nd_r pm, lkp_at nd_r (List.mem_of_getElem? he)]; rfl⟩
          refine ⟨.ref O, rfl, .inl ⟨rfl, _, SqL.of eO8⟩, .ref a, rfl, .str e.1, rfl, a, .int (e.2 : Int), rfl, dg8, O, _, _, rfl, rfl, eO8, by unfold intsV; rw [List.length_map, sizeLine_eq]; exact Nat.lt_of_le_of_lt lo' (by omega), _, _, rfl, fun b u q => ?_, ?_, ?_, ?_⟩
          · rw [upd_ne (nK3 q), upd_ne (nP3 q)]; exact s7 _ _ q
          · rw [upd_ne nSO, upd_ne nSP]; exact eS7
          · rw [upd_same, e2]
            unfold intsV
            rw [List.map_append]; rfl
          · rw [upd_ne nPO, upd_same, e2, List.map_append]; rfl
      · rintro σ H' ⟨r8, r9, rfl, s7, eS7, eO7, eP7⟩
        rw [lxs, List.take_length] at eO7 eP7
        have mp : (addPs c os r).map (rep c) = addAll (os.map (rep c)) (quoR c r) := addPs_map c r os
        obtain ⟨t, ht⟩ := addAll_pre (r := quoR c r) (os.map (rep c))
        have ll : os.length ≤ (addPs c os r).length := by
          have := congrArg List.length mp
          rw [ht, List.length_map, List.length_append, List.length_map] at this
          omega
        have rr : rowC (quo c) (rep c o) = quoR c r := by
          rw [quo_row (rep_ok lo).1]
          exact quo_like wf ok (rep_ok lo).1 lo (rep_ok lo).2.1.symm
        have kl : n < (addPs c os r).length ∨ n = (addPs c os r).length := by omega
        refine ⟨.int (n : Int), rfl, (n : Int), 1, rfl, rfl, c.length + 1 - (n + 1), by omega, n + 1, addPs c os r, _, _, _, _, _, rfl, rfl, by omega, by omega, s7, eO7, eP7, addPs_nd _ nd, addPs_lt _ _ lt fun e' h' => rowC_lt wf h', ?_⟩
        rw [← go, show c.length + 1 - n = (c.length + 1 - (n + 1)) + 1 by omega]
        conv => rhs; unfold goR
        rw [List.getElem?_map, ho]
        show _ = goR (quo c) _ (n + 1) (addAll (os.map (rep c)) (rowC (quo c) (rep c o)))
        rw [rr, mp]
    · rw [decide_eq_false (show ¬ (n : Int) < (os.length : Int) by omega)]
      refine iteF ?_
      have en : n = os.length := by omega
      have go2 : os.map (rep c) = reachS c s0 := by
        rw [← go, show c.length + 1 - n = (c.length - n) + 1 by omega]
        unfold goR
        rw [List.getElem?_eq_none (by rw [List.length_map]; omega)]
      have tb5 := tb3.same s5
      have cl2 : (chartS c s0).length = os.length := by rw [chartS_len, ← go2, List.length_map]
      have sH5 := Same.trans s03 s5
      refine ⟨.ref O, rfl, O, rfl, ⟨_, SqL.of eO5⟩, fun D nD => ?_⟩
      refine lc_rel (w := walk_list (K := K) (a := O) (xs := intsV os)) (fun i v H' => ∃ d, v = .ref d ∧ d ≠ D ∧ H d = none ∧ H' d = some (.dK (rowK (rowC (chartS c s0) i)))) nD (by rw [li]; omega) (fun i H' _ s => SqL.of (s _ _ eO5)) (fun i v H' H6 up ⟨d, e1, e2, e3, e4⟩ => ⟨d, e1, e2, e3, up _ _ e2 e4⟩) (fun i x H' H6 hi s ⟨acc, eD⟩ ⟨e0, hx⟩ Nx hN => ?_) (mn_name _) (fun H6 zs s eD lz R => ?_)
      · subst e0
        rw [li] at hi
        obtain ⟨o, ho⟩ : ∃ o, os[i]? = some o := ⟨_, List.getElem?_eq_getElem hi⟩
        have ex : x = .int (o : Int) := by
          unfold intsV at hx
          rw [List.getElem?_map, ho] at hx
          exact (Option.some.inj hx).symm
        subst ex
        have lo := lt o (List.mem_of_getElem? ho)
        obtain ⟨a, ob, r', pm, h1, h2, h3⟩ := tb5.row lo
        have okr := (rowOk ok lo).1
        have nd_r := okR_nd okr
        have r4 := okR_len okr
        have s56 : Same H5 H6 := s
        obtain ⟨i', ei, er⟩ := chartS_row (c := c) (s := s0) (k := i) (by rw [cl2]; exact hi)
        have ei' : i' = rep c o := by
          rw [← go2, List.getElem?_map, ho] at ei
          exact (Option.some.inj ei).symm
        subst ei'
        have er2 : rowC (chartS c s0) i = (rowC c o).map fun e => (e.1, (reachS c s0).idxOf (rep c e.2)) := by
          have q := quo_like wf ok (rep_ok lo).1 lo (rep_ok lo).2.1.symm
          have f : ∀ r : List (Str × Nat), (r.map fun e => (e.1, (reachS c s0).idxOf (rep c e.2))) = (quoR c r).map fun e => (e.1, (reachS c s0).idxOf e.2) := fun r => by
            unfold quoR
            rw [List.map_map]; rfl
          rw [er, f, q, ← f]
        refine gN ⟨rfl, ?_⟩
        refine ⟨.ref L, rfl, .int (o : Int), rfl, L, _, (o : Int), .ref a, rfl, rfl, SqL.of (s56 _ _ tb5.e), h2, a, rowK r', keysR r', rfl, .inr ⟨ob, s56 _ _ h3⟩, rowK_keys _, by unfold keysR; rw [List.length_map, pm.length_eq]; exact Nat.lt_of_le_of_lt r4 (by decide), fun ys S pm2 st nS => ?_⟩
        obtain rfl := sorted_keys okr (pm2.trans (pm.map fun e : Str × Nat => e.1)) st
        have eS : (upd H6 S (.lst ((keysR (rowC c o)).map V.str))) S = some (.lst ((keysR (rowC c o)).map V.str)) := upd_same
        have s6S := Same.new nS (o := .lst ((keysR (rowC c o)).map V.str))
        generalize (upd H6 S (.lst ((keysR (rowC c o)).map V.str))) = H7 at eS s6S ⊢
        have s57 := Same.trans s56 s6S
        refine ⟨S, rfl, ⟨_, SqL.of eS⟩, fun Dd nDd => ?_⟩
        have nDR : Dd ≠ D := fun z => by rw [z, s6S _ _ eD] at nDd; cases nDd
        have nDH : H Dd = none := none_back (Same.trans sH5 s57) nDd
        have lxs : ((keysR (rowC c o)).map V.str).length = (rowC c o).length := by unfold keysR; rw [List.length_map, List.length_map]
        refine dc_it (w := walk_list (K := K) (a := S) (xs := (keysR (rowC c o)).map V.str)) (fun j H' => Same H7 H' ∧ H' Dd = some (.dK (rowK ((rowC (chartS c s0) i).take j)))) ⟨Same.new nDd, upd_same⟩ (fun j H' _ h => SqL.of (h.1 _ _ eS)) ?_ ?_
        · rintro j x H' H8 hj ⟨sj, eDd⟩ ⟨e0, hx⟩
          subst e0
          rw [lxs] at hj
          obtain ⟨e, he⟩ : ∃ e, (rowC c o)[j]? = some e := ⟨_, List.getElem?_eq_getElem hj⟩
          have ex : x = V.str e.1 := by
            unfold keysR at hx
            rw [List.getElem?_map, List.getElem?_map, he] at hx
            exact (Option.some.inj hx).symm
          subst ex
          have me : e ∈ rowC c o := List.mem_of_getElem? he
          have le := rowC_lt wf me
          have s58 := Same.trans s57 sj
          have rc : rep c e.2 ∈ os.map (rep c) := by
            rw [go2]
            have mq : (e.1, rep c e.2) ∈ quoR c (rowC c (rep c o)) := by
              rw [quo_like wf ok (rep_ok lo).1 lo (rep_ok lo).2.1.symm]
              exact List.mem_map.mpr ⟨e, me, rfl⟩
            obtain ⟨e9, h9, e10⟩ := List.mem_map.mp mq
            have := q3 (rep c o) (List.mem_of_getElem? ei) e9 h9
            rw [(Prod.mk.inj e10).2] at this
            exact this
          have mk' : ksv e.2 ∈ os.map ksv := (mem_same fun x hx => krep (lt x hx) le).mpr rc
          have ixe : ixM (os.map ksv) (ksv e.2) = (reachS c s0).idxOf (rep c e.2) := by
            rw [← go2]
            exact idx_same fun x hx => krep (lt x hx) le
          have er3 : (rowC (chartS c s0) i)[j]? = some (e.1, (reachS c s0).idxOf (rep c e.2)) := by
            rw [er2, List.getElem?_map, he]; rfl
          have ndc : (keysR (rowC (chartS c s0) i)).Nodup := by
            rw [er2, keys_map (f := fun e => (reachS c s0).idxOf (rep c e.2))]; exact nd_r
          refine gN ⟨rfl, yes_of (iteT ?_)⟩
          refine ⟨.str e.1, rfl, .ref Pl, rfl, .ref Kd, rfl, .ref L, rfl, .int (o : Int), rfl, L, _, (o : Int), .ref a, rfl, rfl, SqL.of (s58 _ _ tb5.e), h2, .str e.1, rfl, a, .int (e.2 : Int), rfl, .inl ⟨rowK r', .inr e.1, .inr ⟨ob, s58 _ _ h3⟩, rfl, by rw [rowK_val, lkp_perm nd_r pm, lkp_at nd_r me]; rfl⟩, Kd, _, (e.2 : Int), _, rfl, rfl, SqL.of (s58 _ _ (s5 _ _ eK)), kat le, Pl, .int ((0 + ixM (os.map ksv) (ksv e.2) : Nat) : Int), rfl, .inl ⟨_, phI (ksv e.2), .inl (s58 _ _ eP5), rfl, by rw [plc_val phI_inj, if_pos mk']⟩, ?_⟩
          refine ⟨_, .inr e.1, rfl, eDd, by rw [rowK_len, List.length_take, sizeLine_eq]; have := Nat.min_le_left j (rowC (chartS c s0) i).length; omega, fun b u q => ?_, ?_⟩
          · rw [upd_ne (ne_of_none q nDd)]; exact sj _ _ q
          · rw [upd_same, Nat.zero_add, ixe, rowK_put (lkp_take ndc er3)]
            have tk : (rowC (chartS c s0) i).take (j + 1) = (rowC (chartS c s0) i).take j ++ [(e.1, (reachS c s0).idxOf (rep c e.2))] := by rw [List.take_add_one, er3]; rfl
            rw [tk]
        · rintro H' ⟨sj, eDd⟩
          have : (rowC (chartS c s0) i).take ((keysR (rowC c o)).map V.str).length = rowC (chartS c s0) i := List.take_of_length_le (by rw [lxs, er2, List.length_map]; exact Nat.le_refl _)
          rw [this] at eDd
          exact hN _ _ (Same.trans s6S sj) ⟨Dd, rfl, nDR, nDH, eDd⟩
      · obtain ⟨ds, rfl, hds⟩ := refs_of (R := fun i d => H d = none ∧ H6 d = some (.dK (rowK (rowC (chartS c s0) i)))) fun i z hz => let ⟨d, e1, _, e3, e4⟩ := R i z hz; ⟨d, e1, e3, e4⟩
        exact k D H6 (Same.trans sH5 s) (none_back sH5 nD) ⟨ds, eD, by rw [← List.length_map (f := V.ref), lz, li, cl2], hds⟩
end
end K88
end

section
set_option maxHeartbeats 4000000
/-! own exceptions: isinstance, fields, as values -/
namespace K88
open PySem PySem.Spec PyProof.Rows L2
section
open PySem.W PySem.Calls
variable {prog : Program} {w : World} {A : Around} {E : Value → Shared → Prop} {s : Shared} {K : Frag} {x D : Addr} {ox : Obj} {od : Option Obj}
/-- what the class D says of its instances -/
structure EC (K : Frag) (D : Addr) : Prop where
  ga : findIn K (.ref D) "__getattribute__" = some (some (.builtin "BaseException.__getattribute__"))
  gg : findIn K (.ref D) "__getattr__" = some none
  be : subIn K (.ref D) (.type "BaseException") = some true
  hd : hasDictIn K D = true
  cl : findIn K (.ref D) "__class__" = some (some (.builtin "object.__class__"))
  gt : specialIn K (.builtin "object.__class__") "__get__" = some (some (.builtin "getset_descriptor.__get__"))
  tk : takesIn K (.builtin "object.__class__") = some true
  ob : mroIn K D (.type "object") = some true
theorem EC.is (F : EC K D) : (clsIn K D).isSome = true := by
  obtain ⟨cd, h, _⟩ := any_some F.hd
  rw [h]; rfl
theorem EC.kit (F : EC K D) : KitX K (.ref x) (.ref D) (fun h => InstAt h x ox D od) := kitx_exc F.is F.ga F.gg F.be F.cl F.gt F.tk F.ob
end
end K88
end

section
set_option maxHeartbeats 4000000
/-! own exceptions made by keywords, over any base -/
namespace K88
open PySem PySem.Spec PyProof.Rows L2
/-- own classes, then the base's own row -/
def refsTo (tail : List Value) : List Value → Bool
  | .ref _ :: r => refsTo tail r
  | l => l == tail
theorem refsTo_cases {tail : List Value} : ∀ l : List Value, refsTo tail l = true → (∃ c r, l = .ref c :: r ∧ refsTo tail r = true) ∨ l = tail := by
  intro l h
  match l, h with
  | [], h => exact .inr (beq_iff_eq.mp h)
  | .ref c :: r, h => exact .inl ⟨c, r, rfl, h⟩
  | .none :: _, h => exact .inr (beq_iff_eq.mp h)
  | .ellipsis :: _, h => exact .inr (beq_iff_eq.mp h)
  | .notImplemented :: _, h => exact .inr (beq_iff_eq.mp h)
  | .bool _ :: _, h => exact .inr (beq_iff_eq.mp h)
  | .int _ _ :: _, h => exact .inr (beq_iff_eq.mp h)
  | .float _ _ :: _, h => exact .inr (beq_iff_eq.mp h)
  | .str _ _ :: _, h => exact .inr (beq_iff_eq.mp h)
  | .bytes _ _ :: _, h => exact .inr (beq_iff_eq.mp h)
  | .type _ :: _, h => exact .inr (beq_iff_eq.mp h)
  | .builtin _ :: _, h => exact .inr (beq_iff_eq.mp h)
theorem refsTo_has {tail : List Value} (X : String) : ∀ l : List Value, refsTo tail l = true → l.contains (.type X) = tail.contains (.type X) := by
  intro l
  induction l with
  | nil => intro h; rw [show ([] : List Value) = tail from beq_iff_eq.mp h]
  | cons a r ih =>
    intro h
    rcases refsTo_cases (a :: r) h with ⟨c, r', e, h2⟩ | e
    · obtain ⟨rfl, rfl⟩ := List.cons.inj e
      rw [List.contains_cons, ih h2]; rfl
    · rw [e]
theorem refsTo_pass {tail : List Value} (self : Value) (hp : refuseLoop self "__setattr__" tail = pure ()) : ∀ l : List Value, refsTo tail l = true → refuseLoop self "__setattr__" l = pure () := by
  intro l
  induction l with
  | nil => intro h; rw [show ([] : List Value) = tail from beq_iff_eq.mp h]; exact hp
  | cons a r ih =>
    intro h
    rcases refsTo_cases (a :: r) h with ⟨c, r', e, h2⟩ | e
    · obtain ⟨rfl, rfl⟩ := List.cons.inj e
      rw [refuseLoop_ref]; exact ih h2
    · rw [e]; exact hp
section
open PySem.HandSPX
variable {M : Model} {prog : Program} {w : World} {A : Around} {E : Value → Shared → Prop} {R : Result → Shared → Prop} {h : Heap} {g : Array GenState} {d : Drawn} {t : Nat} {os : OsState}
variable {nm q : Str} {C N : Addr} {bs bm bmB : List Value} {hdct : Bool} {sn : List Str} {sub : List Value} {ab : Bool} {col : Option Bool} {dd : Option Addr} {k0 k1 k2 k3 k5 : Option Value} {B newId initId : String} {rest : List Value} {kw : List (Str × Value)}
theorem kw_check_new (F : ExcBaseFacts B newId initId bmB) (same : ∀ X : String, bm.contains (.type X) = bmB.contains (.type X)) {Q : Unit → Shared → Prop} (at_C : h.get? C = some (excClassObj nm q C N bs bm hdct sn sub ab col dd k0 k1 k2 k3 k5 newId)) (ok : Q () ⟨h, g, d, t, os⟩) :
    wpAny M A (checkBuiltinCall newId ⟨.ref C :: rest, kw⟩) Q E ⟨h, g, d, t, os⟩ := by
  have has : (Value.ref C :: bm).contains (.type B) = true := by rw [List.contains_cons, same, F.hasB, Bool.or_true]
  have ns := F.noStar
  simp only [checkBuiltinCall, F.newKind, F.newSplit, F.newRow]
  repeat (first | refine wpAny_loadPart_at at_C ?_ | (refine wpAny_isSubtype_exc at_C ?_; rw [has]) | refine wpAny_staticBase_exc at_C ?_ | refine wpAny_madeBy_exc at_C ?_ | simp only [bne_self_eq_false, Bool.false_eq_true, if_false] | wp_step)
  exact ok
/-- the object that is born: of the class C, its arguments a new tuple -/
theorem kw_born (F : ExcBaseFacts B newId initId bmB) (same : ∀ X : String, bm.contains (.type X) = bmB.contains (.type X)) (at_C : h.get? C = some (excClassObj nm q C N bs bm hdct sn sub ab col dd k0 k1 k2 k3 k5 newId)) (small : rest.length ≤ sizeLine)
    (ok : R (.ok (.ret (.ref (h.objs.size + 1)))) ⟨(h.push (W.kdv_tup rest)).push (excO C h.objs.size), g, d, t, os⟩) :
    codeAny (model prog w) A (.builtin newId ⟨.ref C :: rest, kw⟩) R ⟨h, g, d, t, os⟩ := by
  have fin := F.ends
  have b1 : (Value.ref C :: bm).contains (.type B) = true := by rw [List.contains_cons, same, F.hasB, Bool.or_true]
  have b2 : (Value.ref C :: bm).contains (.type "AttributeError") = false := by rw [List.contains_cons, same, F.noAttr]; rfl
  have b3 : (Value.ref C :: bm).contains (.type "NameError") = false := by rw [List.contains_cons, same, F.noName]; rfl
  refine codeAny_builtinAt F.entry ?_; unfold Builtin.«BaseException.__new__»
  refine PySem.wpAt_bind ?_; show PySem.wpAt _ _ _ (stack >>= _) _ _ _
  refine PySem.wpAt_bind (PySem.wpAt_stack fun p below => PySem.wpAt_of_wpAny ?_); wp_walk
  refine PySem.wpAt_of_wpAny ?_; rw [F.owner]
  repeat (first | with_reducible refine wpAny_madeHere_exc F.canon at_C ?_ | with_reducible refine wpAny_loadPart_at at_C ?_ | (with_reducible refine wpAny_isSubtype_exc at_C ?_; first | rw [b1] | rw [b2] | rw [b3]) | wp_step)
  show R _ _; rw [Heap.size_push]
  exact ok
theorem kw_typed (F : ExcBaseFacts B newId initId bmB) (same : ∀ X : String, bm.contains (.type X) = bmB.contains (.type X)) {fI : Addr} {Q : Fin → Shared → Prop} (at_C : h.get? C = some (excClassObj nm q C N bs bm hdct sn sub ab col dd k0 k1 k2 k3 k5 newId)) (small : rest.length ≤ sizeLine)
    (init : W.Looks (model prog w) h (typeLookup (.ref C) "__init__") (some (.ref fI))) (bound : ∀ self, W.Looks (model prog w) h (bindSpecial (.ref fI) self) (.ref fI, [self]))
    (ok : codeAny (model prog w) A (.call (.ref fI) ⟨.ref (h.objs.size + 1) :: rest, kw⟩) (fun r s' => match r with | .ok (.ret v) => v = .none ∧ Q (.done (.ret (.ref (h.objs.size + 1)))) s' | .ok _ => False | .error e => E e s') ⟨(h.push (W.kdv_tup rest)).push (excO C h.objs.size), g, d, t, os⟩) :
    wpAny (model prog w) A (Builtin.«type.__call__» ⟨.ref C :: rest, kw⟩) Q E ⟨h, g, d, t, os⟩ := by
  repeat (first | with_reducible refine wpAny_loadPart_at at_C ?_ | with_reducible refine wpAny_madeBy_exc at_C ?_ | wp_step)
  refine codeAny_call_builtin_code (Code.quiet_builtin _ F.quiet) (kw_check_new F same at_C (kw_born F same at_C small ?_))
  show wpAny _ _ _ _ _ _
  have old : ∀ b o, h.get? b = some o → ((h.push (W.kdv_tup rest)).push (excO C h.objs.size)).get? b = some o := fun b o e => Heap.get?_push_of_some _ (Heap.get?_push_of_some _ e)
  have new : ((h.push (W.kdv_tup rest)).push (excO C h.objs.size)).get? (h.objs.size + 1) = some (excO C h.objs.size) := by heap_get
  have at_C2 := old _ _ at_C
  have self_has : (Value.ref C :: bm).contains (.ref C) = true := by simp
  have bd := (bound (.ref (h.objs.size + 1))).keeps old
  unfold isInstance
  repeat (first | with_reducible refine wpAny_loadPart_at new ?_ | (with_reducible refine wpAny_isSubtype_exc at_C2 ?_; rw [self_has]) | wp_step)
  show wpAny _ _ (typeLookup (.ref C) _) _ _ _
  refine (init.keeps old).at (wpAny_holding (wpAny_bind (bd.at (wpAny_bind (wpAny_call (codeAny_mono ok fun r s' z => ?_))))))
  rcases r with e | (v | _ | _ | _) <;> first | exact z | exact z.elim | skip
  obtain ⟨rfl, z⟩ := z
  first
    | exact wpAny_pure (wpAny_pure z)
    | (wp_walk; exact z)
theorem kw_check_call {Q : Unit → Shared → Prop} (at_C : h.get? C = some (excClassObj nm q C N bs bm hdct sn sub ab col dd k0 k1 k2 k3 k5 newId)) (ok : Q () ⟨h, g, d, t, os⟩) : wpAny M A (checkBuiltinCall "type.__call__" ⟨.ref C :: rest, kw⟩) Q E ⟨h, g, d, t, os⟩ := by
  have f3 := tc_sub
  have ty : (⟨h, g, d, t, os⟩ : Shared).TypeIs (.ref C) "type" := ⟨_, at_C, rfl⟩
  simp only [checkBuiltinCall, tc_kind, tc_split]
  repeat (first | with_reducible assumption | with_reducible refine wpAny_loadPart_at at_C ?_ | wp_step)
theorem kw_called (F : ExcBaseFacts B newId initId bmB) (same : ∀ X : String, bm.contains (.type X) = bmB.contains (.type X)) {fI : Addr} (at_C : h.get? C = some (excClassObj nm q C N bs bm hdct sn sub ab col dd k0 k1 k2 k3 k5 newId)) (small : rest.length ≤ sizeLine)
    (init : W.Looks (model prog w) h (typeLookup (.ref C) "__init__") (some (.ref fI))) (bound : ∀ self, W.Looks (model prog w) h (bindSpecial (.ref fI) self) (.ref fI, [self]))
    (ok : codeAny (model prog w) (A.under (.builtin "type.__call__" ⟨.ref C :: rest, kw⟩)) (.call (.ref fI) ⟨.ref (h.objs.size + 1) :: rest, kw⟩) (W.InitBack (h.objs.size + 1) R) ⟨(h.push (W.kdv_tup rest)).push (excO C h.objs.size), g, d, t, os⟩) :
    codeAny (model prog w) A (.call (.ref C) ⟨rest, kw⟩) R ⟨h, g, d, t, os⟩ := by
  have f1 := tc_lookup
  have f2 := tc_bind (.ref C)
  have ty : (⟨h, g, d, t, os⟩ : Shared).TypeIs (.ref C) "type" := ⟨_, at_C, rfl⟩
  refine codeAny_of_tree ?_; show wpAny _ _ (callAny (.ref C) _) _ _ _
  repeat (any_goals (first | assumption | with_reducible refine wpAny_loadPart_at at_C ?_ | wp_step))
  refine ⟨rfl, codeAny_call_builtin_at (Code.quiet_builtin _ (by decide +kernel)) entry_typeCall (kw_check_call at_C (kw_typed F same at_C small init bound (codeAny_mono ok fun r s' z => ?_)))⟩
  rcases r with e | (v | _ | _ | _) <;> exact z
end
end K88
end

section
set_option maxHeartbeats 4000000
/-! own exceptions: fields stored, made, held as values -/
namespace K88
open PySem PySem.Spec PyProof.Rows L2
section
open PySem.W PySem.Calls PySem.HandSPX Builtin Builtin.ObjectAttr
variable {prog : Program} {w : World} {A : Around} {E : Value → Shared → Prop} {R : Result → Shared → Prop} {hp : Heap} {g : Array GenState} {d : Drawn} {t : Nat} {os : OsState} {K : Frag} {name : Str} {tk : Tok} {v : Value} {x C dx : Addr} {fv : Array Value} {cd : ClassData} {ox : Obj} {od : Option Obj}
theorem own_store (X : K.In hp) (I : InstAt hp x ox C od) (hcd : clsIn K C = some cd) (pass : refuseLoop (.ref x) "__setattr__" cd.mro = pure ()) (obj : mroIn K C (.type "object") = some true) (ha : findIn K (.ref C) name = some none)
    (ok : wpAny (model prog w) A.in1 (storeInOwnDict (.ref x) (.ref C) (.str name tk) name v false) (fun fin s' => match fin with | .done f => R (.ok f) s' | .again c' => c'.quiet = true ∧ codeAny (model prog w) A c' R s') (fun e s' => R (.error e) s') ⟨hp, g, d, t, os⟩) :
    codeAny (model prog w) A (.call (.builtin "object.__setattr__") ⟨[.ref x, .str name tk, v], []⟩) R ⟨hp, g, d, t, os⟩ := by
  have S := F.store_object
  have isobj : Looks (model prog w) hp (isInstance (.ref x) (.type "object")) true := I.type.andThen (looks_mroIn X obj)
  have row : Looks (model prog w) hp (mroOf (.ref C)) cd.mro := (looks_clsIn X hcd).andThen .now
  have takes : Looks (model prog w) hp (storeTaker? none) none := .now
  refine codeAny_call_builtin S.slot.plain S.entry (@check_slot (model prog w) _ _ ⟨hp, g, d, t, os⟩ "object.__setattr__" "object" "__setattr__" (.ref x) [.str name tk, v] [] _ S.kind S.split isobj (S.args (.ref x) (.str name tk) v) ?_)
  rw [osa_eq, refuse_eq]; refine wpAny_bind (wpAny_bind (I.type.at (wpAny_bind (row.at ?_)))); rw [pass]
  exact wpAny_pure (wpAny_bind (I.type.at (wpAny_bind ((looks_findIn X ha).at (wpAny_bind (takes.at ok))))))
/-- the first field -/
theorem own_new (X : K.In hp) (at_x : hp.get? x = some { cls := .ref C, data := .fields fv }) (hcd : clsIn K C = some cd) (pass : refuseLoop (.ref x) "__setattr__" cd.mro = pure ()) (obj : mroIn K C (.type "object") = some true) (hh : cd.hasDict = true) (ha : findIn K (.ref C) name = some none)
    (ok : ∀ h' tk' dx, (∀ b o, b ≠ x → hp.get? b = some o → h'.get? b = some o) → hp.objs.size ≤ dx → dx ≠ x → h'.get? x = some { cls := .ref C, dict := some dx, data := .fields fv } → h'.Ns1 dx (fun y => if y = name then some v else none) → R (.ok (.ret .none)) ⟨h', g, d, tk', os⟩) :
    codeAny (model prog w) A (.call (.builtin "object.__setattr__") ⟨[.ref x, .str name tk, v], []⟩) R ⟨hp, g, d, t, os⟩ := by
  have big : x ≠ hp.objs.size := Nat.ne_of_lt (Heap.lt_size at_x)
  have cl : Looks (model prog w) hp (classData C) cd := looks_clsIn X hcd
  refine own_store (od := none) X ⟨at_x, rfl, rfl, trivial⟩ hcd pass obj ha ?_
  obtain ⟨nm, bs, mro, ns, qn, hd, sn, sb, ab, col, del⟩ := cd
  dsimp only at hh; subst hh; unfold storeInOwnDict ownDictForStores
  repeat (first | with_reducible refine store_in_new ?_ ?_ | with_reducible refine wpAny_loadPart_at at_x ?_ | with_reducible refine cl.at ?_ | wp_step)
  · refine ⟨_, #[], _, (Heap.get?_update_ne _ _ _ _ big.symm).trans (Heap.get?_push_at rfl rfl), rfl, ?_, fun _ => rfl⟩
    exact fun e he => absurd he (by simp)
  · intro h' tk' names but
    have at_x2 : (hp.push { cls := .type "dict", data := .dict #[] }).get? x = some { cls := .ref C, data := .fields fv } := Heap.get?_push_of_some _ at_x
    exact ok h' tk' hp.objs.size (fun b o hb ho => (but.2 b (Nat.ne_of_lt (Heap.lt_size ho))).trans ((Heap.get?_update_ne _ _ _ _ hb).trans (Heap.get?_push_of_some _ ho))) (Nat.le_refl _) big.symm ((but.2 x big).trans (Heap.get?_update_self _ at_x2 rfl)) names
/-- a further field -/
theorem own_old {m0 : Str → Option Value} {nl : List Str} (X : K.In hp) (at_x : hp.get? x = some { cls := .ref C, dict := some dx, data := .fields fv }) (ns : hp.Ns1 dx m0) (wi : Within m0 nl) (few : nl.length ≤ 1000) (hcd : clsIn K C = some cd) (pass : refuseLoop (.ref x) "__setattr__" cd.mro = pure ())
    (obj : mroIn K C (.type "object") = some true) (hh : cd.hasDict = true) (ha : findIn K (.ref C) name = some none)
    (ok : ∀ h' tk', (∀ b o, b ≠ dx → hp.get? b = some o → h'.get? b = some o) → h'.Ns1 dx (fun y => if y = name then some v else m0 y) → R (.ok (.ret .none)) ⟨h', g, d, tk', os⟩) :
    codeAny (model prog w) A (.call (.builtin "object.__setattr__") ⟨[.ref x, .str name tk, v], []⟩) R ⟨hp, g, d, t, os⟩ := by
  obtain ⟨oD, _, _, at_d, _, _⟩ := ns.count wi
  have cl : Looks (model prog w) hp (classData C) cd := looks_clsIn X hcd
  refine own_store (od := some oD) X ⟨at_x, rfl, rfl, at_d⟩ hcd pass obj ha ?_
  obtain ⟨nm, bs, mro, ns', qn, hd, sn, sb, ab, col, del⟩ := cd
  dsimp only at hh; subst hh; unfold storeInOwnDict ownDictForStores
  repeat (first | with_reducible refine PySem.OEX.store_in_old ns wi few ?_ | with_reducible refine wpAny_loadPart_at at_x ?_ | with_reducible refine cl.at ?_ | wp_step)
  exact fun h' tk' names but => ok h' tk' (fun b o hb ho => (but.2 b hb).trans ho) names
end
end K88
end

section
set_option maxHeartbeats 4000000
/-! the makers of own exceptions: self.f = f -/
namespace K88
open PySem PySem.Spec PyProof.Rows L2
section
open PySem.W PySem.Calls PySem.HandSPX
/-- what the written part says of an own exception class at C, over a built-in base -/
structure XB (K : Frag) (C : Addr) (bmB : List Value) (newId : String) : Prop where
  cls : ∃ nm q N bs bm sn sub ab col dd k0 k1 k2 k3 k5, K.lookup C = some (excClassObj nm q C N bs bm true sn sub ab col dd k0 k1 k2 k3 k5 newId) ∧ refsTo bmB bm = true
  ec : EC K C
  sa : findIn K (.ref C) "__setattr__" = some (some (.builtin "object.__setattr__"))
  ty : typeIn K (.ref C) = some (.type "type")
  kp : keepIn K (.ref C) = true
/-- .. and of the def at fI that makes it -/
structure XI (K : Frag) (C fI : Addr) : Prop where
  ini : findIn K (.ref C) "__init__" = some (some (.ref fI))
  fty : typeIn K (.ref fI) = some (.type "function")
/-- the base -/
structure Bs (B newId initId : String) (bmB : List Value) : Prop where
  F : ExcBaseFacts B newId initId bmB
  pass : ∀ self, refuseLoop self "__setattr__" bmB = pure ()
/-- an exception as it is made: its own dict at d holds the fields m -/
structure Born (h h' : Heap) (e C d : Addr) (m : Str → Option Value) : Prop where
  keep : ∀ b o, h.get? b = some o → h'.get? b = some o
  new : h.objs.size ≤ e
  obj : ∃ t1 : Addr, h'.get? e = some ({ cls := .ref C, dict := some d, data := .fields #[.ref t1, .none, .none, .none, .bool false, .none] } : Obj)
  big : h.objs.size ≤ d
  ne : d ≠ e
  ns : h'.Ns1 d m
structure Made (h h' : Heap) (x C dx t1 : Addr) (m : Str → Option Value) : Prop where
  keep : ∀ b o, b ≠ x → h.get? b = some o → h'.get? b = some o
  obj : h'.get? x = some ({ cls := .ref C, dict := some dx, data := .fields #[.ref t1, .none, .none, .none, .bool false, .none] } : Obj)
  big : h.objs.size ≤ dx
  ne : dx ≠ x
  ns : h'.Ns1 dx m
variable {prog : Program} {w : World} {A : Around} {R : Result → Shared → Prop} {s : Shared} {K : Frag} {C fI : Addr} {bmB : List Value} {B newId initId : String}
theorem XB.data (T : XB K C bmB newId) (b : Bs B newId initId bmB) : ∃ cd, clsIn K C = some cd ∧ (∀ self, refuseLoop self "__setattr__" cd.mro = pure ()) ∧ cd.hasDict = true := by
  obtain ⟨nm, q, N, bs, bm, sn, sub, ab, col, dd, k0, k1, k2, k3, k5, hC, hbm⟩ := T.cls
  refine ⟨{ name := nm, bases := bs, mro := .ref C :: bm, ns := N, qualname := q, hasDict := true, slotNames := sn, subclasses := sub, abstract := ab, collection := col, hasDel := false }, by unfold clsIn; rw [hC] <;> rfl, fun self => ?_, rfl⟩
  exact refsTo_pass self (b.pass self) (.ref C :: bm) hbm
theorem ldN {M : Model} {s : Shared} {name : Str} {scope : Scope} {L a : Addr} {cd : Value} {m : Str → Option Value} {x : Str} {pos : Pos} {v : Value} {Q : Value → Shared → Prop} {A : Around} {E : Value → Shared → Prop} (hn : s.heap.Ns L m) (hv : m x = some v) (h : Q v s)
    (hk : scope.kind = .function := by rfl) (hl : (envOfC name scope L a cd).kindOf x = some .local := by rfl) (hd : (x == ("__debug__" : Str)) = false := by decide) : wpAny M A (eval (.Name x pos) (envOfC name scope L a cd)) Q E s := wpAny_Name (wpAny_loadName_local hk hl hn hv h) hd
/-- from the maker's run to the made exception; kw: how it is called -/
theorem born_of (T : XB K C bmB newId) (b : Bs B newId initId bmB) (I : XI K C fI) {rest : List Value} {kw : List (Str × Value)} {m : Str → Option Value} (X : K.In s.heap) (few : rest.length ≤ sizeLine)
    (run : ∀ (A' : Around) (R' : Result → Shared → Prop) (s1 : Shared) (x t1 : Addr), K.In s1.heap → s1.heap.NoLimit → s1.heap.get? x = some (excO C t1) → K.lookup x = none → A'.depth < recursionLimit → (∀ h' tk dx, Made s1.heap h' x C dx t1 m → R' (.ok (.ret .none)) { s1 with heap := h', toks := tk }) →
      codeAny (model prog w) A' (.call (.ref fI) ⟨.ref x :: rest, kw⟩) R' s1)
    (nl : s.heap.NoLimit) (room : A.depth + 1 < recursionLimit) (ok : ∀ h' tk e d, Born s.heap h' e C d m → R (.ok (.ret (.ref e))) { s with heap := h', toks := tk }) : codeAny (model prog w) A (.call (.ref C) ⟨rest, kw⟩) R s := by
  obtain ⟨nm, q, N, bs, bm, sn, sub, ab, col, dd, k0, k1, k2, k3, k5, hC, hbm⟩ := T.cls
  obtain ⟨hp, g, dr, tk, os⟩ := s
  have old : ∀ b o, hp.get? b = some o → ((hp.push (kdv_tup rest)).push (excO C hp.objs.size)).get? b = some o := fun b o e => Heap.get?_push_of_some _ (Heap.get?_push_of_some _ e)
  have got : ((hp.push (kdv_tup rest)).push (excO C hp.objs.size)).get? (hp.objs.size + 1) = some (excO C hp.objs.size) := by heap_get
  have none : K.lookup (hp.objs.size + 1) = none := by
    cases e : K.lookup (hp.objs.size + 1) with
    | none => rfl
    | some o =>
      have z : hp.get? (hp.objs.size + 1) = some o := X _ _ e
      exact absurd (Nat.lt_of_succ_lt (Heap.lt_size z)) (Nat.lt_irrefl _)
  refine kw_called b.F (fun Y => refsTo_has Y bm hbm) (X _ _ hC) few (looks_findIn X I.ini) (fun self => bind_fn X self I.fty) ?_
  refine run _ _ ⟨(hp.push (kdv_tup rest)).push (excO C hp.objs.size), g, dr, tk, os⟩ (hp.objs.size + 1) hp.objs.size (X.keeps old) (nl.keeps old) got none ?_ fun h' tk' dx M => ?_
  · first
      | exact room
      | (show (A.under (.builtin "type.__call__" ⟨.ref C :: rest, kw⟩)).depth < recursionLimit
         rw [make_depth]; exact room)
  · have grown : hp.objs.size + 1 + 1 ≤ dx := by
      have z := M.big
      rw [Heap.size_push, Heap.size_push] at z; exact z
    exact ⟨rfl, ok h' tk' (hp.objs.size + 1) dx ⟨fun b o e => M.keep b o (Nat.ne_of_lt (Nat.lt_succ_of_lt (Heap.lt_size e))) (old b o e), Nat.le_succ _, ⟨_, M.obj⟩, Nat.le_trans (Nat.le_trans (Nat.le_succ _) (Nat.le_succ _)) grown, M.ne, M.ns⟩⟩

def aI_value (p1 p2 : Pos) : Arguments := { posonlyargs := [], args := [{ arg := "self", annotation := none, pos := p1 }, { arg := "value", annotation := none, pos := p2 }], vararg := none, kwonlyargs := [], kw_defaults := [], kwarg := none, defaults := [] }
def bI_value (q1 q2 q3 q4 : Pos) : List Stmt := [.Assign [.Attribute (.Name "self" q1) "value" q2] (.Name "value" q3) q4]
def sI_value : Scope := { kind := .function, names := [(PySem.Str.ofString "self", .local), (PySem.Str.ofString "value", .local)], isGenerator := false, isCoroutine := false, more := [] }
structure XF_value (K : Frag) (C fI : Addr) : Prop where
  no : findIn K (.ref C) "value" = some none
  fn : ∃ (oc : Value) (od : Option Addr) (doc pm : Value) (an : Option Addr) (cdv ct : Value) (osl : Array (Option Value)) (qual : Str) (p1 p2 q1 q2 q3 q4 : Pos),
    K.lookup fI = some ⟨oc, od, .func (fnOf "__init__" qual (aI_value p1 p2) (bI_value q1 q2 q3 q4) sI_value .none .none doc pm an cdv ct), osl⟩ ∧ codeIn K cdv qual = true
theorem run_value (T : XB K C bmB newId) (b : Bs B newId initId bmB) (F : XF_value K C fI) {x t0 : Addr} {v : Value} {pos : List Value} {kw : List (Str × Value)} (form : (pos = [v] ∧ kw = []) ∨ (pos = [] ∧ kw = [(("value" : Str), v)])) (X : K.In s.heap) (nl : s.heap.NoLimit) (at_x : s.heap.get? x = some (excO C t0)) (out : K.lookup x = none) (room : A.depth < recursionLimit)
    (ok : ∀ h' tk dx, Made s.heap h' x C dx t0 (fun y => if y = "value" then some v else none) → R (.ok (.ret .none)) { s with heap := h', toks := tk }) : codeAny (model prog w) A (.call (.ref fI) ⟨.ref x :: pos, kw⟩) R s := by
  obtain ⟨oc, od, doc, pm, an, cdv, ct, osl, qual, p1, p2, q1, q2, q3, q4, ho, hcd⟩ := F.fn
  obtain ⟨cd, hcl, pass, hh⟩ := T.data b
  have bd : BindsTo s (fnOf "__init__" qual (aI_value p1 p2) (bI_value q1 q2 q3 q4) sI_value .none .none doc pm an cdv ct) ⟨.ref x :: pos, kw⟩ [("self", .ref x), ("value", v)] := by
    rcases form with ⟨rfl, rfl⟩ | ⟨rfl, rfl⟩
    · exact BindsTo.of_eq (by first | rfl | with_unfolding_all rfl)
    · exact BindsTo.of_eq (by first | rfl | with_unfolding_all rfl)
  refine Att.call_fn (binds := [("self", .ref x), ("value", v)]) X nl ho hcd room bd (by first | rfl | decide | with_unfolding_all rfl) (fun s₁ IC => ?_) rfl rfl rfl
  obtain ⟨h₁, tk₁, rfl⟩ := IC.toInCall.same
  have old : ∀ b o, s.heap.get? b = some o → h₁.get? b = some o := IC.toInCall.keep
  have nsL := IC.toInCall.ns
  have Y : K.In h₁ := X.keeps old
  show wpAny _ _ (execs _ _) _ _ _
  refine wpAny_execs_cons (plainObj_wpAny_Assign_Attribute (ldN (v := v) nsL (by first | rfl | with_unfolding_all rfl | kernel_rfl) (ldN (v := .ref x) nsL (by first | rfl | with_unfolding_all rfl | kernel_rfl) ?_)))
  refine set_plain Y (ox := excO C t0) (od := none) ⟨old _ _ at_x, rfl, rfl, trivial⟩ T.sa (own_new Y (old _ _ at_x) hcl (pass _) T.ec.ob hh F.no fun h₃ tk₃ dx k₃ dn dne at3 ns3 => ?_)
  show wpAny _ _ (execs _ _) _ _ _
  exact wpAny_execs_nil (ok h₃ tk₃ dx ⟨fun b o hb e => k₃ b o hb (old b o e), at3, Nat.le_of_lt (Nat.lt_of_lt_of_le nsL.lt dn), dne, ns3⟩)

def aI_position (p1 p2 : Pos) : Arguments := { posonlyargs := [], args := [{ arg := "self", annotation := none, pos := p1 }, { arg := "position", annotation := none, pos := p2 }], vararg := none, kwonlyargs := [], kw_defaults := [], kwarg := none, defaults := [] }
def bI_position (q1 q2 q3 q4 : Pos) : List Stmt := [.Assign [.Attribute (.Name "self" q1) "position" q2] (.Name "position" q3) q4]
def sI_position : Scope := { kind := .function, names := [(PySem.Str.ofString "self", .local), (PySem.Str.ofString "position", .local)], isGenerator := false, isCoroutine := false, more := [] }
structure XF_position (K : Frag) (C fI : Addr) : Prop where
  no : findIn K (.ref C) "position" = some none
  fn : ∃ (oc : Value) (od : Option Addr) (doc pm : Value) (an : Option Addr) (cdv ct : Value) (osl : Array (Option Value)) (qual : Str) (p1 p2 q1 q2 q3 q4 : Pos),
    K.lookup fI = some ⟨oc, od, .func (fnOf "__init__" qual (aI_position p1 p2) (bI_position q1 q2 q3 q4) sI_position .none .none doc pm an cdv ct), osl⟩ ∧ codeIn K cdv qual = true
theorem run_position (T : XB K C bmB newId) (b : Bs B newId initId bmB) (F : XF_position K C fI) {x t0 : Addr} {v : Value} {pos : List Value} {kw : List (Str × Value)} (form : (pos = [v] ∧ kw = []) ∨ (pos = [] ∧ kw = [(("position" : Str), v)])) (X : K.In s.heap) (nl : s.heap.NoLimit) (at_x : s.heap.get? x = some (excO C t0)) (out : K.lookup x = none) (room : A.depth < recursionLimit)
    (ok : ∀ h' tk dx, Made s.heap h' x C dx t0 (fun y => if y = "position" then some v else none) → R (.ok (.ret .none)) { s with heap := h', toks := tk }) : codeAny (model prog w) A (.call (.ref fI) ⟨.ref x :: pos, kw⟩) R s := by
  obtain ⟨oc, od, doc, pm, an, cdv, ct, osl, qual, p1, p2, q1, q2, q3, q4, ho, hcd⟩ := F.fn
  obtain ⟨cd, hcl, pass, hh⟩ := T.data b
  have bd : BindsTo s (fnOf "__init__" qual (aI_position p1 p2) (bI_position q1 q2 q3 q4) sI_position .none .none doc pm an cdv ct) ⟨.ref x :: pos, kw⟩ [("self", .ref x), ("position", v)] := by
    rcases form with ⟨rfl, rfl⟩ | ⟨rfl, rfl⟩
    · exact BindsTo.of_eq (by first | rfl | with_unfolding_all rfl)
    · exact BindsTo.of_eq (by first | rfl | with_unfolding_all rfl)
  refine Att.call_fn (binds := [("self", .ref x), ("position", v)]) X nl ho hcd room bd (by first | rfl | decide | with_unfolding_all rfl) (fun s₁ IC => ?_) rfl rfl rfl
  obtain ⟨h₁, tk₁, rfl⟩ := IC.toInCall.same
  have old : ∀ b o, s.heap.get? b = some o → h₁.get? b = some o := IC.toInCall.keep
  have nsL := IC.toInCall.ns
  have Y : K.In h₁ := X.keeps old
  show wpAny _ _ (execs _ _) _ _ _
  refine wpAny_execs_cons (plainObj_wpAny_Assign_Attribute (ldN (v := v) nsL (by first | rfl | with_unfolding_all rfl | kernel_rfl) (ldN (v := .ref x) nsL (by first | rfl | with_unfolding_all rfl | kernel_rfl) ?_)))
  refine set_plain Y (ox := excO C t0) (od := none) ⟨old _ _ at_x, rfl, rfl, trivial⟩ T.sa (own_new Y (old _ _ at_x) hcl (pass _) T.ec.ob hh F.no fun h₃ tk₃ dx k₃ dn dne at3 ns3 => ?_)
  show wpAny _ _ (execs _ _) _ _ _
  exact wpAny_execs_nil (ok h₃ tk₃ dx ⟨fun b o hb e => k₃ b o hb (old b o e), at3, Nat.le_of_lt (Nat.lt_of_lt_of_le nsL.lt dn), dne, ns3⟩)

def aJ_what_limit (p1 p2 p3 : Pos) : Arguments := { posonlyargs := [], args := [{ arg := "self", annotation := none, pos := p1 }, { arg := "what", annotation := none, pos := p2 }, { arg := "limit", annotation := none, pos := p3 }], vararg := none, kwonlyargs := [], kw_defaults := [], kwarg := none, defaults := [] }
def bJ_what_limit (q1 q2 q3 q4 r1 r2 r3 r4 : Pos) : List Stmt := [.Assign [.Attribute (.Name "self" q1) "what" q2] (.Name "what" q3) q4, .Assign [.Attribute (.Name "self" r1) "limit" r2] (.Name "limit" r3) r4]
def sJ_what_limit : Scope := { kind := .function, names := [(PySem.Str.ofString "self", .local), (PySem.Str.ofString "what", .local), (PySem.Str.ofString "limit", .local)], isGenerator := false, isCoroutine := false, more := [] }
structure XF_what_limit (K : Frag) (C fI : Addr) : Prop where
  noA : findIn K (.ref C) "what" = some none
  noB : findIn K (.ref C) "limit" = some none
  fn : ∃ (oc : Value) (od : Option Addr) (doc pm : Value) (an : Option Addr) (cdv ct : Value) (osl : Array (Option Value)) (qual : Str) (p1 p2 p3 q1 q2 q3 q4 r1 r2 r3 r4 : Pos),
    K.lookup fI = some ⟨oc, od, .func (fnOf "__init__" qual (aJ_what_limit p1 p2 p3) (bJ_what_limit q1 q2 q3 q4 r1 r2 r3 r4) sJ_what_limit .none .none doc pm an cdv ct), osl⟩ ∧ codeIn K cdv qual = true
def mJ_what_limit (u v : Value) : Str → Option Value := fun y => if y = "limit" then some v else if y = "what" then some u else none
theorem run_what_limit (T : XB K C bmB newId) (b : Bs B newId initId bmB) (F : XF_what_limit K C fI) {x t0 : Addr} {u v : Value} (X : K.In s.heap) (nl : s.heap.NoLimit) (at_x : s.heap.get? x = some (excO C t0)) (out : K.lookup x = none) (room : A.depth < recursionLimit)
    (ok : ∀ h' tk dx, Made s.heap h' x C dx t0 (mJ_what_limit u v) → R (.ok (.ret .none)) { s with heap := h', toks := tk }) : codeAny (model prog w) A (.call (.ref fI) ⟨[.ref x, u, v], []⟩) R s := by
  obtain ⟨oc, od, doc, pm, an, cdv, ct, osl, qual, p1, p2, p3, q1, q2, q3, q4, r1, r2, r3, r4, ho, hcd⟩ := F.fn
  obtain ⟨cd, hcl, pass, hh⟩ := T.data b
  have bd : BindsTo s (fnOf "__init__" qual (aJ_what_limit p1 p2 p3) (bJ_what_limit q1 q2 q3 q4 r1 r2 r3 r4) sJ_what_limit .none .none doc pm an cdv ct) ⟨[.ref x, u, v], []⟩ [("self", .ref x), ("what", u), ("limit", v)] := BindsTo.of_eq (by first | rfl | with_unfolding_all rfl)
  refine Att.call_fn (binds := [("self", .ref x), ("what", u), ("limit", v)]) X nl ho hcd room bd (by first | rfl | decide | with_unfolding_all rfl) (fun s₁ IC => ?_) rfl rfl rfl
  obtain ⟨h₁, tk₁, rfl⟩ := IC.toInCall.same
  have old : ∀ b o, s.heap.get? b = some o → h₁.get? b = some o := IC.toInCall.keep
  have nsL := IC.toInCall.ns
  have Y : K.In h₁ := X.keeps old
  show wpAny _ _ (execs _ _) _ _ _
  refine wpAny_execs_cons (plainObj_wpAny_Assign_Attribute (ldN (v := u) nsL (by first | rfl | with_unfolding_all rfl | kernel_rfl) (ldN (v := .ref x) nsL (by first | rfl | with_unfolding_all rfl | kernel_rfl) ?_)))
  refine set_plain Y (ox := excO C t0) (od := none) ⟨old _ _ at_x, rfl, rfl, trivial⟩ T.sa (own_new Y (old _ _ at_x) hcl (pass _) T.ec.ob hh F.noA fun h₃ tk₃ dx k₃ dn dne at3 ns3 => ?_)
  have neL : s.heap.objs.size ≠ x := Nat.ne_of_gt (Heap.lt_size at_x)
  have nsL3 := nsL.at fun o e => k₃ _ o neL e
  have Z : K.In h₃ := fun b o e => k₃ b o (fun z => by rw [z] at e; rw [out] at e; cases e) (Y b o e)
  have wi : Within (fun y => if y = ("what" : Str) then some u else none) ["what"] := fun y hy => by
    by_cases c : y = ("what" : Str)
    · rw [c]; exact List.mem_cons_self
    · exact absurd (if_neg c) hy
  obtain ⟨oD, _, _, at_d, _, _⟩ := ns3.count wi
  refine wpAny_execs_cons (plainObj_wpAny_Assign_Attribute (ldN (v := v) nsL3 (by first | rfl | with_unfolding_all rfl | kernel_rfl) (ldN (v := .ref x) nsL3 (by first | rfl | with_unfolding_all rfl | kernel_rfl) ?_)))
  refine set_plain Z (ox := { cls := .ref C, dict := some dx, data := .fields #[.ref t0, .none, .none, .none, .bool false, .none] }) (od := some oD) ⟨at3, rfl, rfl, at_d⟩ T.sa (own_old Z at3 ns3 wi (by decide) hcl (pass _) T.ec.ob hh F.noB fun h₄ tk₄ k₄ ns4 => ?_)
  show wpAny _ _ (execs _ _) _ _ _
  have low : s.heap.objs.size ≤ dx := Nat.le_of_lt (Nat.lt_of_lt_of_le nsL.lt dn)
  refine wpAny_execs_nil (ok h₄ tk₄ dx ⟨fun b o hb e => k₄ b o ?_ (k₃ b o hb (old b o e)), k₄ _ _ dne.symm at3, low, dne, ns4⟩)
  exact Nat.ne_of_lt (Nat.lt_of_lt_of_le (Heap.lt_size e) low)
end
end K88
end

section
set_option maxHeartbeats 4000000
/-! own exceptions raised with fields, and asked in an except suite -/
namespace K88
open PySem PySem.Spec PyProof.Rows L2
/-- the exception at a of the class C, its fields at d -/
def put2 (H : Hp) (a C d : Addr) (fs : List (Str × V)) : Hp := upd (upd H d (exd d fs)) a (exo a C (some d))
section
variable {X : Cx} {C fI : Addr} {bmB : List Value} {B newId initId : String} {x : Str} {p pos : Pos}
theorem held {pins : List (Addr × Obj)} {σ : L2.St} {H : Hp} {s : Shared} {h' : Heap} {e d : Addr} {m : Str → Option Value} {fs : List (Str × V)} {tk : Nat} (I : L2.Inv X pins σ H s) (M : Born s.heap h' e C d m) (rel : ∀ f, RelO (fs.lookup f) (m f)) :
    L2.Inv X pins σ (put2 H e C d fs) { s with heap := h', toks := tk } ∧ H e = none ∧ H d = none := by
  obtain ⟨G, g1, g2⟩ := restrict h' fun b => decide (b ≠ e)
  have gk : ∀ b, b ≠ e → G.get? b = h'.get? b := fun b hb => g1 b (decide_eq_true hb)
  have ge : G.get? e = none := g2 e (by simp)
  have old : ∀ b o, s.heap.get? b = some o → G.get? b = some o := fun b o q => (gk b (Nat.ne_of_lt (Nat.lt_of_lt_of_le (Heap.lt_size q) M.new))).trans (M.keep b o q)
  have up : ∀ b o, G.get? b = some o → h'.get? b = some o := fun b o q => by
    by_cases hb : b = e
    · rw [hb, ge] at q; cases q
    · exact (gk b hb).symm.trans q
  have he := I.hok.fresh M.new
  have hd := I.hok.fresh M.big
  obtain ⟨t1, ho⟩ := M.obj
  have I1 : L2.Inv X pins σ (upd H d (exd d fs)) { s with heap := G, toks := tk } := I.laid old M.big (exd_ok (M.ns.at fun o q => (gk d M.ne).trans q) rel)
  have n2 : upd H d (exd d fs) e = none := by rw [upd_ne M.ne.symm]; exact he
  exact ⟨I1.laidN (t' := tk) up ge n2 (exo_ok ho), he, hd⟩
theorem rel1 {f : Str} {y : V} {v : Value} (r : RelV y v) (g : Str) : RelO (List.lookup g [(f, y)]) (if g = f then some v else none) := by
  have := relO_put (fs := []) (mA := fun _ => none) r (fun _ => True.intro) (f := f) g
  exact this
theorem rel2 {a b : Str} {y z : V} {u v : Value} (r : RelV y u) (q : RelV z v) (g : Str) : RelO (List.lookup g [(b, z), (a, y)]) (if g = b then some v else if g = a then some u else none) := relO_put q (fun g => rel1 r g) g
end
section
variable {X : Cx} {C fI : Addr} {bmB : List Value} {B newId initId : String} {x : Str} {p pos : Pos}
/-- raise C(e): the error's own dict d holds the value -/
def tRv (C : Addr) (ta : TA) : L2.St → Hp → XK → Prop := fun σ H Q => ta σ H fun vs H1 => ∃ y, vs = [y] ∧ ∀ d, H1 d = none → Q (.ref C) (some d) (upd H1 d (.xd [(("value" : Str), y)]))
theorem pmk_value {e : Expr} {ta : TA} {k : Nat} (T : XB X.K C bmB newId) (b : Bs B newId initId bmB) (J : XI X.K C fI) (F : XF_value X.K C fI) (hr : Room k X.A) (hg : Gl X x) (hm : X.mg x = some (.ref C)) (he : PA X [e] ta) (hdb : (x == ("__debug__" : Str)) = false := by decide)
    (hs : starEach [e] X.env = (false, eval e X.env) :: starEach [] X.env := by rfl) (hpl : (backTo pos (starEach [] X.env)).any (·.1) = false := by rfl) : PMk X (.Call (.Name x p) [e] [] pos) (tRv C ta) := by
  intro pins s σ H Q I h
  refine wpAny_Call_Name_kw (ld_glob I hg hm (PySem.W.callWith_K (h₀ := X.base) I.ok.mod.kin T.kp (thn (he.run pos pins s σ H _ I h) fun us s1 hh => ?_) hs hpl) hdb)
  obtain ⟨vs, H1, I1, r, y, rfl, q⟩ := hh
  cases r with
  | @cons _ v0 _ ur rv rr =>
    cases rr
    refine ⟨I1.kIn, wpAny_call (born_of (rest := [v0]) (kw := []) T b J I1.kIn (by show 1 ≤ sizeLine; decide) (fun A' R' s1 x t1 h1 h2 h3 h4 h5 h6 => run_value T b F (.inl ⟨rfl, rfl⟩) h1 h2 h3 h4 h5 h6) I1.nolimit (by have := hr.dp; omega) fun h' tk e d M => ?_)⟩
    obtain ⟨G, g1, g2⟩ := restrict h' fun b => decide (b ≠ e)
    have gk : ∀ b, b ≠ e → G.get? b = h'.get? b := fun b hb => g1 b (decide_eq_true hb)
    have ge : G.get? e = none := g2 e (by simp)
    have old : ∀ b o, s1.heap.get? b = some o → G.get? b = some o := fun b o z => (gk b (Nat.ne_of_lt (Nat.lt_of_lt_of_le (Heap.lt_size z) M.new))).trans (M.keep b o z)
    have up : ∀ b o, G.get? b = some o → h'.get? b = some o := fun b o z => by
      by_cases hb : b = e
      · rw [hb, ge] at z; cases z
      · exact (gk b hb).symm.trans z
    have ob : ObjOk X.prog X.w (upd H1 d (.xd [(("value" : Str), y)])) G d (.xd [(("value" : Str), y)]) := ⟨_, M.ns.at (fun o z => (gk d M.ne).trans z), fun f => rel1 rv f⟩
    have I2 : L2.Inv X pins σ (upd H1 d (.xd [(("value" : Str), y)])) { s1 with heap := G, toks := tk } := I1.laid (t' := tk) old M.big ob
    obtain ⟨t1, ho⟩ := M.obj
    have ne : (upd H1 d (.xd [(("value" : Str), y)])) e = none := by rw [upd_ne M.ne.symm]; exact I1.hok.fresh M.new
    exact ⟨e, _, _, { s1 with heap := G, toks := tk }, _, .ref C, some d, rfl, I2, up, ge, ho, ⟨rfl, rfl⟩, rfl, rfl, ne, rfl, I1.bare, raises_own T.ec.be T.ty, q d (I1.hok.fresh M.big)⟩
/-- raise C(e): the error's own dict d holds the value -/
def tRp (C : Addr) (ta : TA) : L2.St → Hp → XK → Prop := fun σ H Q => ta σ H fun vs H1 => ∃ y, vs = [y] ∧ ∀ d, H1 d = none → Q (.ref C) (some d) (upd H1 d (.xd [(("position" : Str), y)]))
theorem pmk_position {e : Expr} {ta : TA} {k : Nat} (T : XB X.K C bmB newId) (b : Bs B newId initId bmB) (J : XI X.K C fI) (F : XF_position X.K C fI) (hr : Room k X.A) (hg : Gl X x) (hm : X.mg x = some (.ref C)) (he : PA X [e] ta) (hdb : (x == ("__debug__" : Str)) = false := by decide)
    (hs : starEach [e] X.env = (false, eval e X.env) :: starEach [] X.env := by rfl) (hpl : (backTo pos (starEach [] X.env)).any (·.1) = false := by rfl) : PMk X (.Call (.Name x p) [e] [] pos) (tRp C ta) := by
  intro pins s σ H Q I h
  refine wpAny_Call_Name_kw (ld_glob I hg hm (PySem.W.callWith_K (h₀ := X.base) I.ok.mod.kin T.kp (thn (he.run pos pins s σ H _ I h) fun us s1 hh => ?_) hs hpl) hdb)
  obtain ⟨vs, H1, I1, r, y, rfl, q⟩ := hh
  cases r with
  | @cons _ v0 _ ur rv rr =>
    cases rr
    refine ⟨I1.kIn, wpAny_call (born_of (rest := [v0]) (kw := []) T b J I1.kIn (by show 1 ≤ sizeLine; decide) (fun A' R' s1 x t1 h1 h2 h3 h4 h5 h6 => run_position T b F (.inl ⟨rfl, rfl⟩) h1 h2 h3 h4 h5 h6) I1.nolimit (by have := hr.dp; omega) fun h' tk e d M => ?_)⟩
    obtain ⟨G, g1, g2⟩ := restrict h' fun b => decide (b ≠ e)
    have gk : ∀ b, b ≠ e → G.get? b = h'.get? b := fun b hb => g1 b (decide_eq_true hb)
    have ge : G.get? e = none := g2 e (by simp)
    have old : ∀ b o, s1.heap.get? b = some o → G.get? b = some o := fun b o z => (gk b (Nat.ne_of_lt (Nat.lt_of_lt_of_le (Heap.lt_size z) M.new))).trans (M.keep b o z)
    have up : ∀ b o, G.get? b = some o → h'.get? b = some o := fun b o z => by
      by_cases hb : b = e
      · rw [hb, ge] at z; cases z
      · exact (gk b hb).symm.trans z
    have ob : ObjOk X.prog X.w (upd H1 d (.xd [(("position" : Str), y)])) G d (.xd [(("position" : Str), y)]) := ⟨_, M.ns.at (fun o z => (gk d M.ne).trans z), fun f => rel1 rv f⟩
    have I2 : L2.Inv X pins σ (upd H1 d (.xd [(("position" : Str), y)])) { s1 with heap := G, toks := tk } := I1.laid (t' := tk) old M.big ob
    obtain ⟨t1, ho⟩ := M.obj
    have ne : (upd H1 d (.xd [(("position" : Str), y)])) e = none := by rw [upd_ne M.ne.symm]; exact I1.hok.fresh M.new
    exact ⟨e, _, _, { s1 with heap := G, toks := tk }, _, .ref C, some d, rfl, I2, up, ge, ho, ⟨rfl, rfl⟩, rfl, rfl, ne, rfl, I1.bare, raises_own T.ec.be T.ty, q d (I1.hok.fresh M.big)⟩
/-- raise C(e, f) -/
def tRw (C : Addr) (ta : TA) : L2.St → Hp → XK → Prop := fun σ H Q => ta σ H fun vs H1 => ∃ y z, vs = [y, z] ∧ ∀ d, H1 d = none → Q (.ref C) (some d) (upd H1 d (.xd [(("limit" : Str), z), (("what" : Str), y)]))
theorem pmk_what {e e2 : Expr} {ta : TA} {k : Nat} (T : XB X.K C bmB newId) (b : Bs B newId initId bmB) (J : XI X.K C fI) (F : XF_what_limit X.K C fI) (hr : Room k X.A) (hg : Gl X x) (hm : X.mg x = some (.ref C)) (he : PA X [e, e2] ta) (hdb : (x == ("__debug__" : Str)) = false := by decide)
    (hs : starEach [e, e2] X.env = (false, eval e X.env) :: starEach [e2] X.env := by rfl) (hpl : (backTo pos (starEach [e2] X.env)).any (·.1) = false := by rfl) : PMk X (.Call (.Name x p) [e, e2] [] pos) (tRw C ta) := by
  intro pins s σ H Q I h
  refine wpAny_Call_Name_kw (ld_glob I hg hm (PySem.W.callWith_K (h₀ := X.base) I.ok.mod.kin T.kp (thn (he.run pos pins s σ H _ I h) fun us s1 hh => ?_) hs hpl) hdb)
  obtain ⟨vs, H1, I1, r, y, z, rfl, q⟩ := hh
  cases r with
  | @cons _ v0 _ ur rv rr =>
    cases rr with
    | @cons _ v1 _ ur2 rw rr =>
    cases rr
    refine ⟨I1.kIn, wpAny_call (born_of (rest := [v0, v1]) (kw := []) T b J I1.kIn (by show 2 ≤ sizeLine; decide) (fun A' R' s1 x t1 h1 h2 h3 h4 h5 h6 => run_what_limit T b F h1 h2 h3 h4 h5 h6) I1.nolimit (by have := hr.dp; omega) fun h' tk e d M => ?_)⟩
    obtain ⟨G, g1, g2⟩ := restrict h' fun b => decide (b ≠ e)
    have gk : ∀ b, b ≠ e → G.get? b = h'.get? b := fun b hb => g1 b (decide_eq_true hb)
    have ge : G.get? e = none := g2 e (by simp)
    have old : ∀ b o, s1.heap.get? b = some o → G.get? b = some o := fun b o z => (gk b (Nat.ne_of_lt (Nat.lt_of_lt_of_le (Heap.lt_size z) M.new))).trans (M.keep b o z)
    have up : ∀ b o, G.get? b = some o → h'.get? b = some o := fun b o z => by
      by_cases hb : b = e
      · rw [hb, ge] at z; cases z
      · exact (gk b hb).symm.trans z
    have ob : ObjOk X.prog X.w (upd H1 d (.xd [(("limit" : Str), z), (("what" : Str), y)])) G d (.xd [(("limit" : Str), z), (("what" : Str), y)]) := ⟨_, M.ns.at (fun o z => (gk d M.ne).trans z), fun f => rel2 rv rw f⟩
    have I2 : L2.Inv X pins σ (upd H1 d (.xd [(("limit" : Str), z), (("what" : Str), y)])) { s1 with heap := G, toks := tk } := I1.laid (t' := tk) old M.big ob
    obtain ⟨t1, ho⟩ := M.obj
    have ne : (upd H1 d (.xd [(("limit" : Str), z), (("what" : Str), y)])) e = none := by rw [upd_ne M.ne.symm]; exact I1.hok.fresh M.new
    exact ⟨e, _, _, { s1 with heap := G, toks := tk }, _, .ref C, some d, rfl, I2, up, ge, ho, ⟨rfl, rfl⟩, rfl, rfl, ne, rfl, I1.bare, raises_own T.ec.be T.ty, q d (I1.hok.fresh M.big)⟩
end
section
variable {X : Cx} {a C : Addr} {oe : Obj} {d : Option Addr} {pn : List (Addr × Obj)}
theorem inst_pin {pins : List (Addr × Obj)} {σ : L2.St} {H : Hp} {s : Shared} {dd : Addr} {fs : List (Str × V)} (I : L2.Inv (X.suite a ((a, oe) :: pn)) pins σ H s) (hz : Zc (.ref C) (some dd) oe) (hf : ∃ vs, oe.data = .fields vs) (hd : H dd = some (.xd fs)) : ∃ od, PySem.W.InstAt s.heap a oe C od := by
  obtain ⟨ha, _⟩ := I.pin (a, oe) (List.mem_append_left _ List.mem_cons_self)
  obtain ⟨vs, hv⟩ := hf
  have hx : ObjOk X.prog X.w H s.heap dd (.xd fs) := I.hok dd _ hd
  obtain ⟨mA, ⟨o, es, ep, e, _⟩, _⟩ := hx
  refine ⟨some o, ha, hz.1, ?_, ?_⟩
  · unfold PySem.W.notCls
    rw [hv] <;> rfl
  · rw [hz.2]; exact e
/-- isinstance(e, c), e the caught error, with a dict of its own -/
def rIsC (K : PySem.W.Frag) (cls : Value) (C a : Addr) (d : Option Addr) : List V → Hp → VK → Prop := fun xs H Q => ∃ (dd : Addr) (fs : List (Str × V)) (c : V) (u : Value) (b : Bool), xs = [.ref a, c] ∧ cls = .ref C ∧ d = some dd ∧ H dd = some (.xd fs) ∧ EC K C ∧ ClsV c u ∧ PySem.W.kitOne K (.ref C) u = some b ∧ Q (.bl b) H
theorem call_isC {cls : Value} (hz : Zc cls d oe) (hf : ∃ vs, oe.data = .fields vs) : CallR (X.suite a ((a, oe) :: pn)) (.builtin "isinstance") (rIsC X.K cls C a d) := by
  intro pins s σ H xs us Q I r h
  obtain ⟨dd, fs, c, u, b, rfl, rfl, rfl, hd, ec, cv, e, q⟩ := h
  obtain ⟨u1, u2, rfl, r1, r2⟩ := vals2 r
  obtain rfl : u1 = Value.ref a := r1
  have e2 := cv.eq r2
  subst e2
  obtain ⟨od, J⟩ := inst_pin I hz hf hd
  exact PySem.W.kia_one (ec.kit (x := a) (od := od) (ox := oe)) I.kIn J e (fun z => nomatch z) fun tk => ⟨.bl b, H, I.tok tk, rfl, q⟩
def rIsCT (K : PySem.W.Frag) (cls : Value) (C a : Addr) (d : Option Addr) : List V → Hp → VK → Prop := fun xs H Q => ∃ (dd : Addr) (fs : List (Str × V)) (tp : Addr) (cs : List V) (us : List Value) (b : Bool), xs = [.ref a, .ref tp] ∧ cls = .ref C ∧ d = some dd ∧ H dd = some (.xd fs) ∧ EC K C ∧ H tp = some (.tup cs) ∧ Paired ClsV cs us ∧ PySem.W.kitAny K (.ref C) us = some b ∧ Q (.bl b) H
theorem call_isCT {cls : Value} (hz : Zc cls d oe) (hf : ∃ vs, oe.data = .fields vs) : CallR (X.suite a ((a, oe) :: pn)) (.builtin "isinstance") (rIsCT X.K cls C a d) := by
  intro pins s σ H xs us Q I r h
  obtain ⟨dd, fs, tp, cs, ws, b, rfl, rfl, rfl, hd, ec, hT, k, e, q⟩ := h
  obtain ⟨u1, u2, rfl, r1, r2⟩ := vals2 r
  obtain rfl : u1 = Value.ref a := r1
  obtain rfl : u2 = Value.ref tp := r2
  obtain ⟨od, J⟩ := inst_pin I hz hf hd
  obtain ⟨_, its, rv, o, h1, h2, n, h3⟩ := (show ObjOk X.prog X.w H s.heap tp (.tup cs) from I.hok tp _ hT)
  obtain rfl := ClsV.all k rv
  obtain ⟨oc, od2, dt, sl⟩ := o
  simp only at h2 h3
  subst h2 h3
  exact PySem.W.kia_tup (ec.kit (x := a) (od := od) (ox := oe)) I.kIn J h1 e (fun z => nomatch z) fun tk => ⟨.bl b, H, I.tok tk, rfl, q⟩
end
end K88
end

section
set_option maxHeartbeats 4000000
/-! several except clauses, each with the same name -/
namespace K88
open PySem PySem.Spec PyProof.Rows L2
def wManyAs (K : PySem.W.Frag) (i : Nat) (Wout : WX) (D : Ends) : List (Value × (Addr → Value → Option Addr → TS)) → WX
  | [] => Wout
  | (c, ts) :: r => wAs K c i ts (wManyAs K i Wout D r) D
inductive HdsAs (X : Cx) (n : Str) : List ExceptHandler → List (Value × (Addr → Value → Option Addr → TS)) → Prop
  | nil : HdsAs X n [] []
  | cons {x : Str} {c : Value} {ts : Addr → Value → Option Addr → TS} {b₀ : Stmt} {suite : List Stmt} {np pos' : Pos} {hds : List ExceptHandler} {l : List (Value × (Addr → Value → Option Addr → TS))} (hc : Names X x c)
      (hsu : ∀ (a : Addr) (oe : Obj) (cls : Value) (d : Option Addr) (pn : List (Addr × Obj)), Zc cls d oe → (∃ vs, oe.data = .fields vs) → PSs (X.suite a ((a, oe) :: pn)) (b₀ :: suite) (ts a cls d)) (r : HdsAs X n hds l) :
      HdsAs X n (.ExceptHandler (some (.Name x np)) (some n) (b₀ :: suite) pos' :: hds) ((c, ts) :: l)
section
variable {X : Cx} {n : Str} {i : Nat} {body : List Stmt} {h₀ : ExceptHandler} {hds : List ExceptHandler} {l : List (Value × (Addr → Value → Option Addr → TS))} {pos : Pos} {tb : WX → TS} {Wout : WX}
theorem ps_try_many_as (hs : X.stack = X.env :: X.outer) (hf : X.env.frame = some X.env.locals) (hN : X.N.Nodup) (hi : X.N[i]? = some n) (hln : X.env.kindOf n = some .local) (tk : Takes X Wout)
    (hb : ∀ (W : WX) (pn : List (Addr × Obj)) (xe : Value → Shared → Prop), Takes (X.tr pn xe) W → PassesOwn (model X.prog X.w) X.A X.env xe → PSs (X.tr pn xe) body (tb W))
    (hh : HdsAs X n (h₀ :: hds) l) : PS X (.Try body (h₀ :: hds) [] [] pos) (fun D σ H => tb (wManyAs X.K i Wout D l) D σ H) := by
  refine ⟨fun pins s σ H D I h => ?_⟩
  have ok := I.ok
  have hfr : X.A.frames = some (X.env :: X.outer) := by rw [ok.frames, hs]
  have hloc : Loc X.env.scope n := .inl hln
  refine wpAny_Try_except ?_
  refine wpAny_mono ((hb (wManyAs X.K i Wout D l) (X.pn ++ pins) (fun e s₁ => wpAny (model X.prog X.w) X.A (noteFrame e X.env) (fun _ s₂ => wpAny (model X.prog X.w) X.A (setFlight e none) (fun _ s₃ =>
    wpAny (model X.prog X.w) X.A (handleBy e X.env (h₀ :: hds)) (SP X pins D) X.xe s₃) X.xe s₂) X.xe s₁) (fun u s' xx => ?_) PassesOwn.looking).run [] s σ H D (I.toTry _) h) (fun f s1 hsp => ?_) (fun e s1 he => he)
  · -- the catch
    obtain ⟨a, B, sI, pins', σ', H', cls, d, rfl, J', nb, up, sky, na, os, ag, w⟩ := xx
    have J : Inv X pins σ' H' sI := J'.ofTry ok
    have sky' : Sky B (X.env :: X.outer) a (Zc cls d) X.env.locals s'.heap := by rw [← hs]; exact sky
    show wpAny (model X.prog X.w) X.A (noteFrame (.ref a) X.env) _ _ _
    refine Sky.land Zc.steady hfr hf sky' fun h3 fl3 up3 => ?_
    have J3 : Inv X pins σ' H' { s' with heap := h3 } := J.landed nb fl3.1 (up.trans up3) os ag
    obtain ⟨oe3, vs3, he3, hz3, hd3⟩ := fl3.there
    have notFr : ∀ {h : Heap} {o : Obj} {vs : Array Value}, h.FunFrames B (X.env :: X.outer) → h.get? a = some o → o.data = .fields vs → a ∉ frs (X.env :: X.outer) := fun {h o vs} ff e dd hm => by
      obtain ⟨_, o', e', hnf⟩ := ff.mem hm
      rw [e] at e'; cases e'
      exact hnf _ dd
    have nfr := notFr fl3.2.2.1 he3 hd3
    have nL : a ≠ X.env.locals := fun z => nfr (List.mem_filterMap.mpr ⟨X.env, List.mem_cons_self, by rw [hf, z]⟩)
    have nF : a ∉ X.fs := fun hm => by
      obtain ⟨e, he, q⟩ := List.mem_filterMap.mp hm
      exact nfr (List.mem_filterMap.mpr ⟨e, List.mem_cons_of_mem _ he, q⟩)
    have S3 := J3.suite he3 hd3 na nL nF
    have go : ∀ {hds' : List ExceptHandler} {l' : List (Value × (Addr → Value → Option Addr → TS))}, HdsAs X n hds' l' → wManyAs X.K i Wout D l' cls d σ' H' →
        wpAny (model X.prog X.w) X.A (handleBy (.ref a) X.env hds') (SP X pins D) X.xe { s' with heap := h3 } := by
      intro hds' l' hk
      induction hk with
      | nil =>
        intro w
        refine wpAny_handleBy_nil ?_
        obtain ⟨k1, k2, k3, oe, vs, T, oT, ts', he, hz, hd, h1, hr⟩ := id fl3
        unfold PySem.passOn
        refine wpAny_bind (wpAny_field he hd h1 ?_)
        rw [if_neg (show ¬ ((Value.ref T == Value.none) = true) from by simp)]
        have fin : wpAny (model X.prog X.w) X.A (setFlight (.ref a) X.env.frame) (fun _ s4 => wpAny (model X.prog X.w) X.A (throw (.ref a) : Sem Flow) (SP X pins D) X.xe s4) X.xe { s' with heap := h3 } := by
          rw [hf]
          refine HandSPX.setFlight_upZ fl3 fun h4 hh4 up4 => wpAny_throw (tk _ _ ?_)
          exact ⟨a, B, sI, pins, σ', H', cls, d, rfl, J, nb, (up.trans up3).trans up4, .inr (.inr (by rw [hs]; exact hh4)), na, os, ag, w⟩
        first
          | exact wpAny_bind (wpAny_pure (wpAny_bind fin))
          | exact wpAny_bind fin
      | @cons x c ts b₀ suite np pos' hds2 l2 hc hsu r ih =>
        intro w
        obtain ⟨b, hb1, hyes, hno⟩ := w
        refine wpAny_handleBy_cons (codeAny_handlers_test ?_) (by intro q; cases q)
        have LT : PySem.W.Looks (model X.prog X.w) h3 (typeOf (.ref a)) cls := fun A Q E s k q => wpAny_typeOf_ref (k _ _ he3) (by rw [hz3.1]; exact q)
        have LM := PySem.W.exm_one (M := model X.prog X.w) (J3.kIn) LT hb1
        have test : ∀ {Q : Value → Shared → Prop} {E : Value → Shared → Prop}, Q c { s' with heap := h3 } → wpAny (model X.prog X.w) (X.A.mark (some (.ref a))) (eval (.Name x np) X.env) Q E { s' with heap := h3 } := fun {Q E} q => by
          obtain ⟨hg, hdbg, hm | ⟨hm, hv, hnn⟩⟩ := hc
          · exact ld_glob (X := X.suite a ((a, oe3) :: (X.pn ++ pins))) S3 hg hm q hdbg
          · exact ld_blt (X := X.suite a ((a, oe3) :: (X.pn ++ pins))) S3 hg hm hv q hnn hdbg
        refine test (LM.here ?_)
        cases b with
        | true =>
          refine codeAny_handlers_suite_as ?_
          refine HandSPX.lands_againZ fl3 fun h4 fl4 up4 => ?_
          have J4 : Inv X pins σ' H' { s' with heap := h4 } := J.landed nb fl4.1 ((up.trans up3).trans up4) os ag
          obtain ⟨oe4, vs4, he4, hz4, hd4⟩ := fl4.there
          have S4 := J4.suite he4 hd4 na nL nF
          refine store_ok (X := X.suite a ((a, oe4) :: (X.pn ++ pins))) (v := .ref a) S4 hN hi hloc rfl (fun s5 S5 => ?_) (.inr hln)
          refine wpAny_mono ((hsu a oe4 cls d (X.pn ++ pins) hz4 ⟨_, hd4⟩).run [] s5 _ H' _ S5 (hyes rfl a na)) (fun f s6 hsp => ?_) (fun _ _ z => False.elim z)
          have end_ : ∀ {σ6 : L2.St} {H6 : Hp} {Q : Shared → Prop}, Inv (X.suite a ((a, oe4) :: (X.pn ++ pins))) [] σ6 H6 s6 → (∀ s7, Inv X pins (σ6.set i none) H6 s7 → Q s7) →
              wpAny (model X.prog X.w) X.A (do bindName X.env n .none; unbindBehindTheSuite X.env n pos') (fun _ s7 => Q s7) X.xe s6 := fun {σ6 H6 Q} S6 hq => gone_ok (S6.unsuite ok) hN hi hln hq
          cases f with
          | next =>
            obtain ⟨σ6, H6, S6, q6⟩ := hsp
            exact end_ S6 fun s7 J7 => ⟨_, _, J7, q6⟩
          | brk =>
            obtain ⟨σ6, H6, S6, q6⟩ := hsp
            exact end_ S6 fun s7 J7 => ⟨_, _, J7, q6⟩
          | cont =>
            obtain ⟨σ6, H6, S6, q6⟩ := hsp
            exact end_ S6 fun s7 J7 => ⟨_, _, J7, q6⟩
          | ret u =>
            obtain ⟨v6, σ6, H6, S6, r6, q6⟩ := hsp
            exact end_ S6 fun s7 J7 => ⟨_, _, _, J7, r6, q6⟩
        | false =>
          show wpAny _ X.A (handleBy (.ref a) X.env hds2) _ _ _
          exact ih (hno rfl)
    exact go hh w
  · cases f with
    | next =>
      obtain ⟨σ', H', J', q⟩ := hsp
      exact wpAny_execs_nil ⟨σ', H', J'.ofTry ok, q⟩
    | brk =>
      obtain ⟨σ', H', J', q⟩ := hsp
      exact ⟨σ', H', J'.ofTry ok, q⟩
    | cont =>
      obtain ⟨σ', H', J', q⟩ := hsp
      exact ⟨σ', H', J'.ofTry ok, q⟩
    | ret u =>
      obtain ⟨v, σ', H', J', r, q⟩ := hsp
      exact ⟨v, σ', H', J'.ofTry ok, r, q⟩
end
end K88
end

section
set_option maxHeartbeats 4000000
/-! an own class without its own maker, made of nothing; tables locked for the time of an expression -/
namespace K88
open PySem PySem.Spec PyProof.Rows L2
theorem bs_value : Bs "ValueError" "ValueError.__new__" "ValueError.__init__" [.type "ValueError", .type "Exception", .type "BaseException", .type "object"] := ⟨F.excBase_ValueError, fun self => F.store_ValueError.passes self⟩
theorem bs_arith : Bs "ArithmeticError" "ArithmeticError.__new__" "ArithmeticError.__init__" [.type "ArithmeticError", .type "Exception", .type "BaseException", .type "object"] := ⟨F.excBase_ArithmeticError, fun self => F.store_ArithmeticError.passes self⟩
structure ErrW (K : PySem.W.Frag) (mg : Str → Option Value) (n : Str) (C fI : Addr) : Prop where
  T : XB K C [.type "ArithmeticError", .type "Exception", .type "BaseException", .type "object"] "ArithmeticError.__new__"
  J : XI K C fI
  F : XF_what_limit K C fI
  G : mg n = some (.ref C)
/-- an own class over RuntimeError without its own maker -/
structure ErrN (K : PySem.W.Frag) (mg : Str → Option Value) (n : Str) (C : Addr) : Prop where
  q : PySem.W.excIn K C [.type "RuntimeError", .type "Exception", .type "BaseException", .type "object"] "RuntimeError.__new__" = true
  G : mg n = some (.ref C)
  kp : PySem.W.keepIn K (.ref C) = true
  be : PySem.W.subIn K (.ref C) (.type "BaseException") = some true
  ty : PySem.W.typeIn K (.ref C) = some (.type "type")
  ec : ExcC K C
section
variable {X : Cx} {C : Addr} {bmB : List Value} {B newId initId : String}
/-- C() -/
theorem pmk_own0 {x : Str} {p pos : Pos} (F : ExcBaseFacts B newId initId bmB) (q : PySem.W.excIn X.K C bmB newId = true) (gC : X.mg x = some (.ref C)) (kC : PySem.W.keepIn X.K (.ref C) = true) (r : Raises X (.ref C)) (hg : Gl X x)
    (hdb : (x == ("__debug__" : Str)) = false := by decide) : PMk X (.Call (.Name x p) [] [] pos) (fun _ H Q => Q (.ref C) none H) := by
  intro pins s σ H Q I h
  refine wpAny_Call_Name_kw (ld_glob I hg gC ?_ hdb)
  refine PySem.W.callWith_K0 I.kIn kC ?_
  show wpAny _ _ (call (.ref C) []) _ _ _
  obtain ⟨bm, N, nm, qn, bs, hdct, sn, sub, ab, col, dd, k0, k1, k2, k3, k5, mN, hC, hN, hni, T⟩ := exc_obj I.kIn q
  refine wpAny_call_exc_subT F T hC hN hni (fun h' e hm => ?_) (Nat.zero_le _)
  exact mk_of I hm r h (I.hok.gone hm.new)
theorem pmk_none {x : Str} {p pos : Pos} (N : ErrN X.K X.mg x C) (hg : Gl X x) (hdb : (x == ("__debug__" : Str)) = false := by decide) : PMk X (.Call (.Name x p) [] [] pos) (fun _ H Q => Q (.ref C) none H) := pmk_own0 F.excBase_RuntimeError N.q N.G N.kp (raises_own N.be N.ty) hg hdb
end
/-! ### locked for the time of an expression -/
def UnlP (D : List Addr) (H H' : Hp) : Prop := ∀ b, (b ∈ D → ∀ o u, H b = some (.frz o u) → H' b = some u) ∧ (b ∉ D → H' b = H b)
theorem unlock_list {X : Cx} {pins : List (Addr × Obj)} {σ : L2.St} {s : Shared} : ∀ (D : List Addr) (H : Hp), Inv X pins σ H s → (∀ a ∈ D, ∃ o kvs, H a = some (.frz o (.dK kvs))) → (∀ a ∈ D, ∀ o' u', X.H_0 a ≠ some (.frz o' u')) → ∃ H', Inv X pins σ H' s ∧ UnlP D H H'
  | [], H, I, _, _ => ⟨H, I, fun b => ⟨(fun h => by cases h), fun _ => rfl⟩⟩
  | d :: D, H, I, h, n => by
    obtain ⟨H1, I1, L⟩ := unlock_list D H I (fun a ha => h a (List.mem_cons_of_mem _ ha)) fun a ha => n a (List.mem_cons_of_mem _ ha)
    by_cases z : d ∈ D
    · refine ⟨H1, I1, fun b => ⟨fun hb o u e => ?_, fun hb => (L b).2 fun y => hb (List.mem_cons_of_mem _ y)⟩⟩
      rcases List.mem_cons.mp hb with y | y
      · subst y; exact (L b).1 z o u e
      · exact (L b).1 y o u e
    · obtain ⟨o, kvs, e⟩ := h d List.mem_cons_self
      have e1 : H1 d = some (.frz o (.dK kvs)) := by rw [(L d).2 z]; exact e
      refine ⟨_, I1.unlock e1 (n d List.mem_cons_self), fun b => ⟨fun hb o' u' e' => ?_, fun hb => ?_⟩⟩
      · by_cases y : b = d
        · subst y
          rw [e] at e'
          cases e'
          exact upd_same
        · rw [upd_ne y]
          exact (L b).1 ((List.mem_cons.mp hb).resolve_left y) o' u' e'
      · have y : b ≠ d := fun y => hb (by rw [y]; exact List.mem_cons_self)
        rw [upd_ne y]
        exact (L b).2 fun q => hb (List.mem_cons_of_mem _ q)
/-- the dicts of D are locked ahead of an expression, and not behind it -/
def tLkd (t : TE) : TE := fun σ H Q => ∃ D : List Addr, (∀ a ∈ D, ∃ kvs, H a = some (.dK kvs)) ∧ ∀ H1, LockP (fun b => b ∈ D) H H1 → t σ H1 fun x H2 => (∀ a ∈ D, H2 a = H1 a) ∧ ∀ H3, UnlP D H2 H3 → Q x H3
theorem pe_locked {X : Cx} {e : Expr} {t : TE} (he : PE X e t) : PE X e (tLkd t) := by
  refine ⟨fun pins s σ H Q I h => ?_⟩
  obtain ⟨D, hD, k⟩ := h
  obtain ⟨H1, I1, L⟩ := lock_list D H I
  refine thn (he.run pins s σ H1 _ I1 (k H1 L)) fun v s1 ⟨x, H2, I2, r, e2, q⟩ => ?_
  obtain ⟨H3, I3, U⟩ := unlock_list D H2 I2 (fun a ha => by
    obtain ⟨kvs, e⟩ := hD a ha
    obtain ⟨o, e1⟩ := (L a).1 ha kvs e
    exact ⟨o, kvs, by rw [e2 a ha]; exact e1⟩) fun a ha => by
    obtain ⟨kvs, e⟩ := hD a ha
    exact I.nofrz e True.intro
  exact ⟨x, H3, I3, r, q H3 U⟩
/-- what stands behind it: what stood ahead of it, and nothing of D has changed -/
theorem unl_same {D : List Addr} {H H1 H2 H3 : Hp} (hD : ∀ a ∈ D, ∃ kvs, H a = some (.dK kvs)) (L : LockP (fun b => b ∈ D) H H1) (s : Same H1 H2) (U : UnlP D H2 H3) : Same H H3 := fun b o e => by
  by_cases y : b ∈ D
  · obtain ⟨kvs, e'⟩ := hD b y
    rw [e'] at e
    cases e
    obtain ⟨o', e1⟩ := (L b).1 y kvs e'
    exact (U b).1 y o' _ (s _ _ e1)
  · rw [(U b).2 y]
    refine s _ _ ?_
    rw [(L b).2 (.inl y)]; exact e
end K88
end

section
set_option maxHeartbeats 4000000
/-! media -/
namespace K88
open PySem PySem.Spec PyProof.Rows L2
theorem vals_nth {xs : List V} {us : List Value} (r : Vals xs us) : ∀ {i : Nat} {x : V}, xs[i]? = some x → ∃ u, us[i]? = some u ∧ RelV x u := by
  induction r with
  | nil => exact fun h => by cases h
  | cons a _ ih =>
    intro i x h
    cases i with
    | zero => cases h; exact ⟨_, rfl, a⟩
    | succ i => exact ih (i := i) (by simpa using h)
/-- what the top has written of the class Medium -/
structure MedC (K : PySem.W.Frag) (mg : Str → Option Value) (ad : Str → Addr) (fd : Str → FuncData) : Prop where
  G : mg "Medium" = some (.ref (ad "Medium"))
  cl : Cls K (ad "Medium")
  mks : Mk K (ad "Medium") (ad "Medium.__init__")
  nm : NoAttr K (ad "Medium") "_many"
  nt : NoAttr K (ad "Medium") "_table"
  nl : NoAttr K (ad "Medium") "_leads"
  lets : ∃ u, Con K (ad "Medium") "LETTERS" (.str "abcd") u
  most : ∃ mc u, ClX.CRead K (ad "Medium") mc ∧ ClX.CVal K (ad "Medium") mc "MOST_STATES" (.int 16) u
  F_init : Fun K "__init__" "Medium.__init__" sM_init (ad "Medium.__init__") (fd "Medium.__init__")
  b_init : Binds K (fd "Medium.__init__") ["self", "many", "table"] []
  F_table : Fun K "table" "Medium.table" sM_table (ad "Medium.table") (fd "Medium.table")
  b_table : Binds K (fd "Medium.table") ["self"] []
  m_table : Meth K (ad "Medium") "table" (ad "Medium.table")
  F_leads : Fun K "leads" "Medium.leads" sM_leads (ad "Medium.leads") (fd "Medium.leads")
  b_leads : Binds K (fd "Medium.leads") ["self"] []
  m_leads : Meth K (ad "Medium") "leads" (ad "Medium.leads")
  F_len : Fun K "__len__" "Medium.__len__" sM_len (ad "Medium.__len__") (fd "Medium.__len__")
  b_len : Binds K (fd "Medium.__len__") ["self"] []
  ln : PySem.W.findIn K (.ref (ad "Medium")) "__len__" = some (some (.ref (ad "Medium.__len__")))
  lnf : PySem.W.isFn K (.ref (ad "Medium.__len__")) = true
  F_eq : Fun K "__eq__" "Medium.__eq__" sM_eq (ad "Medium.__eq__") (fd "Medium.__eq__")
  b_eq : Binds K (fd "Medium.__eq__") ["self", "other"] []
  eq : PySem.W.findIn K (.ref (ad "Medium")) "__eq__" = some (some (.ref (ad "Medium.__eq__")))
  eqf : PySem.W.isFn K (.ref (ad "Medium.__eq__")) = true
  ca : PySem.W.findIn K (.ref (ad "Medium")) "__class__" = some (some (.builtin "object.__class__"))
  ob : PySem.W.mroIn K (ad "Medium") (.type "object") = some true
  cn : PySem.W.specialIn K (.builtin "object.__class__") "__get__" = some (some (.builtin "getset_descriptor.__get__"))
  ct : PySem.W.takesIn K (.builtin "object.__class__") = some true
/-- a Medium stands at a: w letters, the table c -/
def MedO (C : Addr) (H : Hp) (a : Addr) (w : Nat) (c : Ch) : Prop :=
  ∃ dx F ls L ts, H a = some (.ins C dx [(("_many" : Str), .int (w : Int)), (("_table" : Str), .ref F), (("_leads" : Str), .ref L)]) ∧ TbF H F ls c ∧ LdAt H L w c ts
theorem MedO.same {C : Addr} {H H' : Hp} {a : Addr} {w : Nat} {c : Ch} (h : MedO C H a w c) (s : Same H H') : MedO C H' a w c := by
  obtain ⟨dx, F, ls, L, ts, e, tb, ld⟩ := h
  exact ⟨dx, F, ls, L, ts, s _ _ e, tb.same s, ld.same s⟩
theorem TbF.butI {x : Addr} {H H' : Hp} {F : Addr} {ls : List Addr} {c : Ch} (h : TbF H F ls c) (n : ∀ b o, b ≠ x → H b = some o → H' b = some o) (hx : ∃ C dx fs, H x = some (.ins C dx fs)) : TbF H' F ls c := by
  obtain ⟨C, dx, fs, q⟩ := hx
  refine ⟨n _ _ (fun z => ?_) h.e, h.l, fun i a e => ?_⟩
  · have := h.e
    rw [z, q] at this
    cases this
  · obtain ⟨o, k⟩ := h.k i a e
    exact ⟨o, n _ _ (fun z => by rw [z, q] at k; cases k) k⟩
theorem TbP.butI {x : Addr} {H H' : Hp} {F : Addr} {ls : List Addr} {c : Ch} (h : TbP H F ls c) (n : ∀ b o, b ≠ x → H b = some o → H' b = some o) (hx : ∃ C dx fs, H x = some (.ins C dx fs)) : TbP H' F ls c := by
  obtain ⟨C, dx, fs, q⟩ := hx
  refine ⟨n _ _ (fun z => ?_) h.e, h.l, fun i a e => ?_⟩
  · have := h.e
    rw [z, q] at this
    cases this
  · obtain ⟨o, r, p, k⟩ := h.k i a e
    exact ⟨o, r, p, n _ _ (fun z => by rw [z, q] at k; cases k) k⟩
section
variable {X : Cx} {P : Program} {w : World}
theorem passes_own {E : XK} (hs : X.stack = X.env :: X.outer) (hf : X.env.frame = some X.env.locals) (hex : X.ex = []) {E₁ : Value → Shared → Prop}
    (hx : X.xe = fun e s' => wpAny (model X.prog X.w) X.A (leaving X.env e) (fun _ s'' => L2.CX X.prog X.w X.outer X.H_0 X.s_0 E e s'') E₁ s') : Passes (L2.CX X.prog X.w) X E := passes_call (takes_of hs hf hex hx) fun _ _ _ _ h => h
end
theorem LdAt.butI {x : Addr} {H H' : Hp} {T : Addr} {w : Nat} {c : Ch} {ts : List Addr} (h : LdAt H T w c ts) (n : ∀ b o, b ≠ x → H b = some o → H' b = some o) (hx : ∃ C dx fs, H x = some (.ins C dx fs)) : LdAt H' T w c ts := by
  obtain ⟨C, dx, fs, q⟩ := hx
  refine ⟨n _ _ (fun z => ?_) h.e, h.l, fun i a e => ?_⟩
  · have := h.e
    rw [z, q] at this
    cases this
  · have k := h.k i a e
    exact n _ _ (fun z => by rw [z, q] at k; cases k) k
theorem cut_let {w : Nat} (h1 : 2 ≤ w) (h2 : w ≤ 4) : okSg w (cutS "abcd" none (some (w : Int))) := by
  obtain rfl | rfl | rfl : w = 2 ∨ w = 3 ∨ w = 4 := by omega
  · unfold okSg; decide +kernel
  · unfold okSg; decide +kernel
  · unfold okSg; decide +kernel
theorem abcd_len : ("abcd" : Str).length ≤ sizeLine := by rw [sizeLine_eq]; decide +kernel
noncomputable def leastC (c : Ch) : Ch := chartS (living c) 0
def tooM : HO := .xd [(("limit" : Str), .int 16), (("what" : Str), .str "states")]
/-- N: nothing is left; W: too many states -/
def spMTab (N W : Addr) : Sp := fun vs H Q E => ∃ (F : Addr) (ls : List Addr) (c : Ch) (w s0 : Nat), vs = [.ref F, .int (s0 : Int)] ∧ TbP H F ls c ∧ WfC c ∧ okT w c ∧ c.length ≤ 64 ∧ s0 < c.length ∧
  (liveB c s0 = false → ∀ H', Same H H' → E (.ref N) none H') ∧
  (liveB c s0 = true → 16 < (chartS (living c) s0).length → ∀ (H' : Hp) (d : Addr), Same H H' → H' d = none → E (.ref W) (some d) (upd H' d tooM)) ∧
  (liveB c s0 = true → (chartS (living c) s0).length ≤ 16 → ∀ (D : Addr) (H' : Hp), Same H H' → H D = none → NewT H H' D (chartS (living c) s0) → Q (.ref D) H')
def spMInit (C N W : Addr) : Sp := fun vs H Q E => ∃ (x dx F : Addr) (ls : List Addr) (c : Ch) (w : Nat), vs = [.ref x, .int (w : Int), .ref F] ∧ H x = some (.ins C dx []) ∧ 2 ≤ w ∧ w ≤ 4 ∧ TbP H F ls c ∧ WfC c ∧ okT w c ∧ c.length ≤ 64 ∧
  (liveB c 0 = false → ∀ H', But x H H' → E (.ref N) none H') ∧
  (liveB c 0 = true → 16 < (leastC c).length → ∀ (H' : Hp) (d : Addr), But x H H' → H d = none → H' d = some tooM → E (.ref W) (some d) H') ∧
  (liveB c 0 = true → (leastC c).length ≤ 16 → ∀ H' : Hp, But x H H' → MedO C H' x w (leastC c) → Q .non H')
def spMTable (C : Addr) : Sp := fun vs H Q _ => ∃ (a : Addr) (w : Nat) (c : Ch), vs = [.ref a] ∧ MedO C H a w c ∧ c.length ≤ 64 ∧ ∀ (D : Addr) (H' : Hp), Same H H' → H D = none → NewT H H' D c → Q (.ref D) H'
def spMLeads (C : Addr) : Sp := fun vs H Q _ => ∃ (a : Addr) (w : Nat) (c : Ch), vs = [.ref a] ∧ MedO C H a w c ∧ ∀ (T : Addr) (ts : List Addr), LdAt H T w c ts → Q (.ref T) H
def spMLen (C : Addr) : Sp := fun vs H Q _ => ∃ (a : Addr) (w : Nat) (c : Ch), vs = [.ref a] ∧ MedO C H a w c ∧ Q (.int (c.length : Int)) H
def spMEq (C : Addr) : Sp := fun vs H Q _ => ∃ (a b : Addr) (w : Nat) (c : Ch), vs = [.ref a, .ref b] ∧ MedO C H a w c ∧ MedO C H b w c ∧ okT w c ∧ c.length ≤ 64 ∧ Q (.bl true) H
def spCMed (C : Addr) : Sp := fun vs H Q _ => ∃ (a : Addr) (w : Nat) (c : Ch), vs = [.ref a] ∧ MedO C H a w c ∧ Q .non H
/-! ### == of locked tables that read alike -/
def rEqTb (K : PySem.W.Frag) : R2 := fun x y H Q => ∃ F G ls ls' c w, x = .ref F ∧ y = .ref G ∧ TbF H F ls c ∧ TbF H G ls' c ∧ okT w c ∧ c.length ≤ 64 ∧ Q (.bl true) H
theorem op_eqTb {X : Cx} (hu : X.A.units + 64 < cLine) : OpR X (compareOp .Eq) (rEqTb X.K) := by
  intro pins s σ H x y v u Q I rx ry h
  obtain ⟨F, G, ls, ls', c, w, rfl, rfl, ta, tb, ok, cl, q⟩ := h
  cases (show v = Value.ref F from rx)
  cases (show u = Value.ref G from ry)
  obtain ⟨us, r1, p1, _⟩ := I.list (SqL.of ta.e)
  obtain ⟨ws, r2, p2, _⟩ := I.list (SqL.of tb.e)
  have l1 : us.length = c.length := by rw [← r1.length, List.length_map, ta.l]
  have l2 : ws.length = c.length := by rw [← r2.length, List.length_map, tb.l]
  have hsz : us.toArray.size = ws.toArray.size := by rw [List.size_toArray, List.size_toArray, l1, l2]
  refine SeqAt.rcP_lists (e := fun _ => true) p1.isList p2.isList hsz (by show X.A.units < cLine; omega) (fun j h1 h2 => ?_) _ _ ?_
  · rw [List.size_toArray] at h1 h2
    have hj : j < c.length := by omega
    obtain ⟨a, o, e1, e2, e3⟩ := ta.row hj
    obtain ⟨b, o', f1, f2, f3⟩ := tb.row hj
    have g1 : us[j] = Value.ref a := by
      obtain ⟨z, hz, rz⟩ := vals_nth r1 (i := j) (x := .ref a) (by rw [List.getElem?_map, e1]; rfl)
      rw [List.getElem?_eq_getElem h1] at hz
      cases hz
      exact rz
    have g2 : ws[j] = Value.ref b := by
      obtain ⟨z, hz, rz⟩ := vals_nth r2 (i := j) (x := .ref b) (by rw [List.getElem?_map, f1]; rfl)
      rw [List.getElem?_eq_getElem h2] at hz
      cases hz
      exact rz
    have nd := okR_nd (rowOk ok hj).1
    obtain ⟨_, ya, va, ra, da⟩ := dk_rd I.hok (.inr ⟨o, e3⟩)
    obtain ⟨_, yb, vb, rb, db⟩ := dk_rd I.hok (.inr ⟨o', f3⟩)
    have hit := hits_run (P := X.prog) (w := X.w) (A := X.A.in1.in1) (s := s) (F := fun x y => x = y ∧ flatB x = true) (fun x y v u h rx ry => by
      obtain ⟨rfl, f⟩ := h
      exact (eqAt_same rx ry f).eqP) rb ra (fun p hp => by
        obtain ⟨e, he, rfl⟩ := List.mem_map.mp hp
        exact ⟨.int (e.2 : Int), by rw [rowK_val, lkp_at nd he]; rfl, rfl, rfl⟩)
    have el : va.length = vb.length := by rw [← ra.length, ← rb.length]
    show SeqAt.EqP X.prog X.w X.A.in1 s us[j] ws[j] true
    rw [g1, g2]
    by_cases e : a = b
    · subst e
      exact (SeqAt.EqAt.same _).eqP
    · refine SeqAt.eqP_refs e fun E Q q => ?_
      refine PySem.W.rcP_dicts (knd := mixKind X.prog X.w) (r := true) ya yb da db (by show X.A.units + 1 < cLine; omega) (fun _ => hit) E Q ?_
      rw [show (va.length == vb.length && true) = true from by rw [el]; simp]
      exact q
  · rw [show ((List.range us.toArray.size).all fun _ => true) = true from List.all_eq_true.mpr fun _ _ => rfl]
    exact ⟨.bl true, H, I, rfl, q⟩
section
variable {P : Program} {w : World} {K : PySem.W.Frag} {mg : Str → Option Value} {base : Heap} {ad : Str → Addr} {fd : Str → FuncData}
theorem b_medium_table (X : Tx K mg ad fd) : ∃ ds, Vals [.int 0] ds ∧ Binds K (fd "medium_table") ["table", "start"] ds := X.F_medium_table.binds1 (ps := ["table", "start"]) 1 0 (by decide) rfl fun T kV doc pm an cdv ct us its hl hi => by
  match us, its, hl, hi with
  | [_], [_], _, _ => first | exact ⟨_, rfl, rfl⟩ | exact ⟨_, by with_unfolding_all rfl, rfl⟩
theorem ty_med (M : MedC K mg ad fd) {H : Hp} {a : Addr} {w : Nat} {c : Ch} (h : MedO (ad "Medium") H a w c) : TyX K H (.ref a) (.ref (ad "Medium")) := by
  obtain ⟨dx, F, ls, L, ts, e, _⟩ := h
  exact .base (.ins e M.cl M.ca M.cn M.ct M.ob)
theorem scMediumTable : FnScope ["table", "start", "least"] ["table", "start"] (defScope sMediumTable) := ⟨rfl, rfl, rfl, by decide +kernel, rfl, by decide +kernel, by decide +kernel⟩
theorem ok_medium_table (X : Tx K mg ad fd) (M : MedC K mg ad fd) {N W fW : Addr} (L_N : ErrN K mg "NothingLeft" N) (L_W : ErrW K mg "TooMany" W fW) : FnOk P w K mg base (L2.CX P w) 4 (ad "medium_table") (fd "medium_table") ["table", "start"] (spMTab N W) := by
  have G_least_table := ok_least_table (P := P) (w := w) (base := base) X
  refine X.F_medium_table.ok (CX := L2.CX P w) scMediumTable (fun vs H Q E h => ?_) (fun cdv A outer s H vs Q E hr h => ?_)
  · obtain ⟨F, ls, c, w, s0, rfl, tb, wf, ok, cl, hs0, k0, k1, k⟩ := h
    rfl
  · obtain ⟨F, ls, c, w, s0, rfl, tb, wf, ok, cl, hs0, k0, k1, k⟩ := h
    have HR_least_table : Room 3 _ := hr
    have HRX := hr
    obtain ⟨mc, um, rd, cv⟩ := M.most
    refine ⟨_, (pss_cons (ps_set (i := 2) scMediumTable.nd rfl (.inl rfl) (by exact (pe_call G_least_table HR_least_table (by rfl) X.g_least_table X.F_least_table.kp (b_least_table X) .nil pass0 (pa_cons (pv 0) (pa_cons (pv 1) pa_nil)))))
  (pss_cons (ps_if (pt_not (pt_truth (pv 2) (by intro _; rfl)))
  (pss_one (ps_raise rfl (takes_of rfl rfl rfl rfl) (pmk_none L_N (by rfl))))
  pss_nil)
  (pss_cons (ps_if (pt_cmpR op_gt (pe_callB (call_lenK (K := K) rfl) (by rfl) X.m_len (by decide +kernel) (pa_cons (pv 2) pa_nil)) (ClX.pe_cval (pe_glob (v := .ref (ad "Medium")) (by rfl) M.G rfl)) (nomark _))
  (pss_one (ps_raise rfl (takes_of rfl rfl rfl rfl) (pmk_what L_W.T bs_arith L_W.J L_W.F HRX (by rfl) L_W.G (by exact (pa_cons pe_str (pa_cons (ClX.pe_cval (pe_glob (v := .ref (ad "Medium")) (by rfl) M.G rfl)) pa_nil))))))
  pss_nil)
  (pss_one (ps_ret (by exact (pv 2))))))), ?_⟩
    refine ⟨.ref F, rfl, .int (s0 : Int), rfl, F, ls, c, w, s0, rfl, tb, wf, ok, cl, hs0, fun lv D H1 s1 nD eD => ?_, fun lv D H1 s1 nD nt => ?_⟩
    · refine gN ?_
      refine ⟨.ref D, rfl, _, .inl ⟨_, SqL.of eD, rfl⟩, iteT ?_⟩
      exact k0 lv _ s1
    refine gN ?_
    obtain ⟨ds, eD, lds, kds⟩ := id nt
    have hs1 : s0 < (living c).length := by rw [living_len]; exact hs0
    have ne0 : (ds.map V.ref).isEmpty = false := by
      cases e : ds with
      | nil => rw [e] at lds; have := (chartS_wf (living_wf wf) hs1).1; rw [← lds] at this; cases this
      | cons d r => rfl
    refine ⟨.ref D, rfl, _, .inl ⟨_, SqL.of eD, rfl⟩, ?_⟩
    rw [ne0]
    refine iteF ?_
    refine ⟨.ref D, rfl, .ref D, _, rfl, .inl ⟨_, SqL.of eD, rfl⟩, ad "Medium", mc, .int 16, um, rfl, rd, cv, _, _, rfl, rfl, _, rfl, ?_⟩
    by_cases c16 : (chartS (living c) s0).length ≤ 16
    · rw [decide_eq_false (show ¬ (16 : Int) < ((ds.map V.ref).length : Int) by rw [List.length_map, lds]; omega)]
      exact iteF ⟨.ref D, rfl, k lv c16 D H1 s1 nD nt⟩
    · rw [decide_eq_true (show (16 : Int) < ((ds.map V.ref).length : Int) by rw [List.length_map, lds]; omega)]
      refine iteT ?_
      exact ⟨ad "Medium", mc, .int 16, um, rfl, rd, cv, _, _, rfl, fun d nd => k1 lv (by omega) H1 d s1 nd⟩
theorem scM_init : FnScope ["self", "many", "table"] ["self", "many", "table"] (defScope sM_init) := ⟨rfl, rfl, rfl, by decide +kernel, rfl, by decide +kernel, by decide +kernel⟩
theorem ok_minit (X : Tx K mg ad fd) (M : MedC K mg ad fd) {N W fW : Addr} (L_N : ErrN K mg "NothingLeft" N) (L_W : ErrW K mg "TooMany" W fW) : FnOk P w K mg base (L2.CX P w) 5 (ad "Medium.__init__") (fd "Medium.__init__") ["self", "many", "table"] (spMInit (ad "Medium") N W) := by
  have G_check_many := ok_check_many (P := P) (w := w) (base := base) X
  have G_check_table := ok_check_table (P := P) (w := w) (base := base) X
  have G_medium_table := ok_medium_table (P := P) (w := w) (base := base) X M L_N L_W
  have G_leads_of := ok_leads_of (P := P) (w := w) (base := base) X
  refine M.F_init.okX scM_init (fun vs H Q E h => ?_) (fun cdv A outer s H vs Q E hr h => ?_)
  · obtain ⟨x, dx, F, ls, c, wd, rfl, hx, w2, w4, tb, wf, ok, cl, k0, k1, k⟩ := h
    rfl
  · obtain ⟨x, dx, F, ls, c, wd, rfl, hx, w2, w4, tb, wf, ok, cl, k0, k1, k⟩ := h
    have PASS := passes_own (X := cxOf (L2.CX P w) P w K mg base ["self", "many", "table"] "Medium.__init__" (defScope sM_init) (ad "Medium.__init__") cdv A outer s H E) (E := E) rfl rfl rfl rfl
    have HR_check_many : Room 3 _ := hr.mono (by decide)
    have HR_check_table : Room 4 _ := hr
    have HR_medium_table : Room 4 _ := hr
    have HR_leads_of : Room 1 _ := hr.mono (by decide)
    obtain ⟨ul, cl_⟩ := M.lets
    obtain ⟨bd, vbd, bmt⟩ := b_medium_table X
    refine ⟨_, (pss_cons (ps_expr (by exact (pe_call G_check_many HR_check_many (by rfl) X.g_check_many X.F_check_many.kp X.b_check_many .nil pass0 (pa_cons (pv 1) pa_nil))))
  (pss_cons (ps_expr (by exact (pe_call G_check_table HR_check_table (by rfl) X.g_check_table X.F_check_table.kp X.b_check_table .nil pass0 (pa_cons (pv 2) (pa_cons (pe_slice sl_str (pe_con (pv 0) rfl) po_none (po_some (pv 1))) pa_nil)))))
  (pss_cons (ps_fld (pv 0) (by exact (pv 1)) rfl)
  (pss_cons (ps_fld (pv 0) (by exact (pe_lock (pe_call G_medium_table HR_medium_table (by rfl) X.g_medium_table X.F_medium_table.kp bmt vbd PASS (pa_cons (pv 2) pa_nil)))) rfl)
  (pss_one (ps_fld (pv 0) (by exact (pe_call G_leads_of HR_leads_of (by rfl) X.g_leads_of X.F_leads_of.kp X.b_leads_of .nil pass0 (pa_cons (pe_fld (pv 0) rfl) (pa_cons (pe_slice sl_str (pe_con (pv 0) rfl) po_none (po_some (pv 1))) pa_nil)))) rfl)))))), ?_⟩
    refine ⟨.int (wd : Int), rfl, (wd : Int), rfl, by omega, by omega, ?_⟩
    have sg := cut_let w2 w4
    refine ⟨.ref F, rfl, .ref x, rfl, x, ad "Medium", dx, [], .str "abcd", ul, rfl, hx, M.cl, cl_, rfl, .int (wd : Int), rfl, (wd : Int), rfl, "abcd", rfl, abcd_len, F, ls, c, wd, _, rfl, tb, wf, ok, cl, sg, fun H1 s1 => ?_⟩
    have hx1 := s1 _ _ hx
    refine ⟨.int (wd : Int), rfl, .ref x, rfl, x, ad "Medium", dx, [], rfl, hx1, M.cl, M.nm, by decide, ?_⟩
    have b1 : But x H (upd H1 x (.ins (ad "Medium") dx (putF "_many" (.int (wd : Int)) []))) := (But.same s1).trans But.upd
    have f1 : ∀ b, b ≠ x → (upd H1 x (.ins (ad "Medium") dx (putF "_many" (.int (wd : Int)) []))) b = none → H b = none := fun b n e => by
      rw [upd_ne n] at e
      exact none_back s1 e
    have e1 : (upd H1 x (.ins (ad "Medium") dx (putF "_many" (.int (wd : Int)) []))) x = some (.ins (ad "Medium") dx [(("_many" : Str), .int (wd : Int))]) := upd_same
    generalize (upd H1 x (.ins (ad "Medium") dx (putF "_many" (.int (wd : Int)) []))) = H2 at b1 e1 f1 ⊢
    have tb2 := tb.butI b1 ⟨_, _, _, hx⟩
    refine ⟨.ref F, rfl, F, ls, c, wd, 0, rfl, tb2, wf, ok, cl, wf.1, fun lv H' s' => k0 lv H' (b1.trans (But.same s')), fun lv c16 H' d s' nd => ?_, fun lv c16 D H3 s3 nD nt => ⟨fun b => H2 b = none, fun H4 LP => ?_⟩⟩
    · have dx' : d ≠ x := fun z => by rw [z, s' _ _ e1] at nd; cases nd
      exact k1 lv c16 _ d ((b1.trans (But.same s')).trans fun b o n e => by rw [upd_ne (fun z => by rw [z, nd] at e; cases e)]; exact e) (f1 d dx' (none_back s' nd)) upd_same
    obtain ⟨ls', tb4⟩ := nt.lock LP
    have s4 := LP.same s3
    have e4 := s4 _ _ e1
    refine ⟨.ref x, rfl, x, ad "Medium", dx, _, rfl, e4, M.cl, M.nt, (by show 1 < 1000; decide), ?_⟩
    have b5 : But x H (upd H4 x (.ins (ad "Medium") dx (putF "_table" (.ref D) [(("_many" : Str), .int (wd : Int))]))) := (b1.trans (But.same s4)).trans But.upd
    have b45 : But x H4 (upd H4 x (.ins (ad "Medium") dx (putF "_table" (.ref D) [(("_many" : Str), .int (wd : Int))]))) := But.upd
    have e5 : (upd H4 x (.ins (ad "Medium") dx (putF "_table" (.ref D) [(("_many" : Str), .int (wd : Int))]))) x = some (.ins (ad "Medium") dx [(("_many" : Str), .int (wd : Int)), (("_table" : Str), .ref D)]) := upd_same
    generalize (upd H4 x (.ins (ad "Medium") dx (putF "_table" (.ref D) [(("_many" : Str), .int (wd : Int))]))) = H5 at b5 b45 e5 ⊢
    have tb5 := tb4.butI b45 ⟨_, _, _, e4⟩
    have hs1 : 0 < (living c).length := by rw [living_len]; exact wf.1
    refine ⟨.ref x, rfl, x, _, dx, _, _, rfl, e5, M.cl, M.nt, rfl, .ref x, rfl, x, ad "Medium", dx, _, .str "abcd", ul, rfl, e5, M.cl, cl_, rfl, .int (wd : Int), rfl, (wd : Int), rfl, "abcd", rfl, abcd_len, D, ls', leastC c, wd, _, rfl, tb5.toP, okT_nd (chartS_ok (living_wf wf) (living_ok ok) hs1), Nat.le_trans c16 (by decide), sg, fun T ts H6 s6 nT ld => ?_⟩
    have e6 := s6 _ _ e5
    refine ⟨.ref x, rfl, x, ad "Medium", dx, _, rfl, e6, M.cl, M.nl, (by show 2 < 1000; decide), ?_⟩
    refine k lv c16 _ ((b5.trans (But.same s6)).trans But.upd) ⟨dx, D, ls', T, ts, upd_same, ?_, ?_⟩
    · exact (tb5.same s6).butI But.upd ⟨_, _, _, e6⟩
    · exact ld.butI But.upd ⟨_, _, _, e6⟩
theorem scM_table : FnScope ["self", "leading"] ["self"] (defScope sM_table) := ⟨rfl, rfl, rfl, by decide +kernel, rfl, by decide +kernel, by decide +kernel⟩
theorem ok_mtable (X : Tx K mg ad fd) (M : MedC K mg ad fd) : FnOk P w K mg base CX0 1 (ad "Medium.table") (fd "Medium.table") ["self"] (spMTable (ad "Medium")) := by
  refine M.F_table.ok scM_table (fun vs H Q E h => ?_) (fun cdv A outer s H vs Q E hr h => ?_)
  · obtain ⟨a, w, c, rfl, ⟨dx, F, ls, L, ts, e, tb, ld⟩, cl, k⟩ := h
    rfl
  · obtain ⟨a, w, c, rfl, ⟨dx, F, ls, L, ts, e, tb, ld⟩, cl, k⟩ := h
    refine ⟨_, (pss_one (ps_ret (by exact (pe_lc (own := [("leading", 1)]) (g := gName 1) rfl scM_table.nd (pi_listK (K := K) rfl (pe_fld (pv 0) rfl)) (blkOk_by (own := [("leading", 1)]) (N := ["self", "leading"]) (sc := defScope sM_table) (by decide +kernel)) (fun _ _ _ _ _ => pg_name (i := 1) scM_table.nd rfl (Or.inl rfl)) (fun _ _ _ _ _ => pts_nil) (fun _ _ _ _ _ => (pe_callTy call_dictD (by rfl) X.m_dict (by decide +kernel) (pa_cons (pv 1) pa_nil))))))), ?_⟩
    have hl : (ls.map V.ref).length = c.length := by rw [List.length_map, tb.l]
    refine ⟨.ref a, rfl, a, _, dx, _, _, rfl, e, M.cl, M.nt, rfl, F, rfl, ⟨_, SqL.of tb.e⟩, fun D nD => ?_⟩
    refine lc_rel (w := walk_list (K := K) (a := F) (xs := ls.map V.ref)) (fun i v H' => ∃ d, v = .ref d ∧ d ≠ D ∧ H d = none ∧ H' d = some (.dK (rowK (rowC c i)))) nD (by rw [hl]; omega) (fun i H' _ s => SqL.of (s _ _ tb.e)) (fun i v H' H6 up ⟨d, e1, e2, e3, e4⟩ => ⟨d, e1, e2, e3, up _ _ e2 e4⟩) (fun i x H' H6 hi s ⟨acc, eD⟩ ⟨e0, hx⟩ Nx hN => ?_) (mn_name _) (fun H6 zs s eD lz R => ?_)
    · subst e0
      rw [hl] at hi
      obtain ⟨b, o, h1, _, h3⟩ := tb.row hi
      rw [List.getElem?_map, h1] at hx
      cases hx
      refine gN ⟨rfl, ?_⟩
      refine ⟨.ref b, rfl, b, _, rfl, .inr ⟨o, s _ _ h3⟩, fun d nd => hN _ _ (Same.new nd) ⟨d, rfl, fun z => ?_, none_back s nd, upd_same⟩⟩
      rw [z, eD] at nd
      cases nd
    · obtain ⟨ds, rfl, hds⟩ := refs_of (R := fun i d => H d = none ∧ H6 d = some (.dK (rowK (rowC c i)))) fun i z hz => let ⟨d, e1, _, e3, e4⟩ := R i z hz; ⟨d, e1, e3, e4⟩
      exact k D H6 s nD ⟨ds, eD, by rw [← List.length_map (f := V.ref), lz, hl], hds⟩
theorem scM_leads : FnScope ["self"] ["self"] (defScope sM_leads) := ⟨rfl, rfl, rfl, by decide +kernel, rfl, by decide +kernel, by decide +kernel⟩
theorem ok_mleads (X : Tx K mg ad fd) (M : MedC K mg ad fd) : FnOk P w K mg base CX0 1 (ad "Medium.leads") (fd "Medium.leads") ["self"] (spMLeads (ad "Medium")) := by
  refine M.F_leads.ok scM_leads (fun vs H Q E h => ?_) (fun cdv A outer s H vs Q E hr h => ?_)
  · obtain ⟨a, w, c, rfl, ⟨dx, F, ls, L, ts, e, tb, ld⟩, k⟩ := h
    rfl
  · obtain ⟨a, w, c, rfl, ⟨dx, F, ls, L, ts, e, tb, ld⟩, k⟩ := h
    refine ⟨_, (pss_one (ps_ret (by exact (pe_fld (pv 0) rfl)))), ?_⟩
    exact ⟨.ref a, rfl, a, _, dx, _, _, rfl, e, M.cl, M.nl, rfl, k L ts ld⟩
theorem scM_len : FnScope ["self"] ["self"] (defScope sM_len) := ⟨rfl, rfl, rfl, by decide +kernel, rfl, by decide +kernel, by decide +kernel⟩
theorem ok_mlen (X : Tx K mg ad fd) (M : MedC K mg ad fd) : FnOk P w K mg base CX0 1 (ad "Medium.__len__") (fd "Medium.__len__") ["self"] (spMLen (ad "Medium")) := by
  refine M.F_len.ok scM_len (fun vs H Q E h => ?_) (fun cdv A outer s H vs Q E hr h => ?_)
  · obtain ⟨a, w, c, rfl, ⟨dx, F, ls, L, ts, e, tb, ld⟩, k⟩ := h
    rfl
  · obtain ⟨a, w, c, rfl, ⟨dx, F, ls, L, ts, e, tb, ld⟩, k⟩ := h
    refine ⟨_, (pss_one (ps_ret (by exact (pe_callB (call_lenK (K := K) rfl) (by rfl) X.m_len (by decide +kernel) (pa_cons (pe_fld (pv 0) rfl) pa_nil))))), ?_⟩
    refine ⟨.ref a, rfl, a, _, dx, _, _, rfl, e, M.cl, M.nt, rfl, .ref F, _, rfl, .inl ⟨_, SqL.of tb.e, rfl⟩, ?_⟩
    rw [List.length_map, tb.l]
    exact k
theorem scM_eq : FnScope ["self", "other"] ["self", "other"] (defScope sM_eq) := ⟨rfl, rfl, rfl, by decide +kernel, rfl, by decide +kernel, by decide +kernel⟩
theorem ok_meq (X : Tx K mg ad fd) (M : MedC K mg ad fd) : FnOk P w K mg base CX0 1 (ad "Medium.__eq__") (fd "Medium.__eq__") ["self", "other"] (spMEq (ad "Medium")) := by
  refine M.F_eq.ok scM_eq (fun vs H Q E h => ?_) (fun cdv A outer s H vs Q E hr h => ?_)
  · obtain ⟨a, b, w, c, rfl, ma, mb, ok, cl, k⟩ := h
    rfl
  · obtain ⟨a, b, w, c, rfl, ma, mb, ok, cl, k⟩ := h
    have hu64 : (A.deeper (envOfC "Medium.__eq__" (defScope sM_eq) s.heap.objs.size (ad "Medium.__eq__") cdv)).units + 64 < cLine := by have := hr.un; omega
    refine ⟨_, (pss_one (ps_ret (by exact (pe_and (pe_callB call_isi (by rfl) X.m_isinstance (by decide +kernel) (pa_cons (pv 1) (pa_cons (pe_glob (v := .ref (ad "Medium")) (by rfl) M.G rfl) pa_nil))) (pe_and (pe_cmpR op_eq (pe_fld (pv 0) rfl) (pe_fld (pv 1) rfl) (nomark _)) (pe_one (pe_cmpR (op_eqTb hu64) (pe_fld (pv 0) rfl) (pe_fld (pv 1) rfl) (nomark _)))))))), ?_⟩
    have tyb := ty_med M mb
    obtain ⟨dx, F, ls, L, ts, e, tb, ld⟩ := ma
    obtain ⟨dx', F', ls', L', ts', e', tb', ld'⟩ := mb
    refine ⟨.ref b, rfl, .ref b, .ref (ad "Medium"), _, _, true, rfl, .own _, tyb, (by unfold PySem.W.kitOne; rw [if_pos (by simp)]), _, rfl, iteT ?_⟩
    refine ⟨.ref a, rfl, a, _, dx, _, _, rfl, e, M.cl, M.nm, rfl, .ref b, rfl, b, _, dx', _, _, rfl, e', M.cl, M.nm, rfl, rfl, _, rfl, ?_⟩
    rw [decide_eq_true (show V.int (w : Int) = V.int (w : Int) from rfl)]
    refine iteT ?_
    exact ⟨.ref a, rfl, a, _, dx, _, _, rfl, e, M.cl, M.nt, rfl, .ref b, rfl, b, _, dx', _, _, rfl, e', M.cl, M.nt, rfl, F, F', ls, ls', c, w, rfl, rfl, tb, tb', ok, cl, k⟩
theorem scCheckMedium : FnScope ["medium"] ["medium"] (defScope sCheckMedium) := ⟨rfl, rfl, rfl, by decide +kernel, rfl, by decide +kernel, by decide +kernel⟩
theorem ok_check_medium (X : Tx K mg ad fd) (M : MedC K mg ad fd) : FnOk P w K mg base CX0 1 (ad "check_medium") (fd "check_medium") ["medium"] (spCMed (ad "Medium")) := by
  refine X.F_check_medium.ok scCheckMedium (fun vs H Q E h => ?_) (fun cdv A outer s H vs Q E hr h => ?_)
  · obtain ⟨a, w, c, rfl, ma, k⟩ := h
    rfl
  · obtain ⟨a, w, c, rfl, ma, k⟩ := h
    refine ⟨_, (pss_one (ps_if (pt_not (pt_val (pe_callB call_isi (by rfl) X.m_isinstance (by decide +kernel) (pa_cons (pv 0) (pa_cons (pe_glob (v := .ref (ad "Medium")) (by rfl) M.G rfl) pa_nil)))))
  (pss_one ps_never)
  pss_nil)), ?_⟩
    exact ⟨.ref a, rfl, .ref a, .ref (ad "Medium"), _, _, true, rfl, .own _, ty_med M ma, (by unfold PySem.W.kitOne; rw [if_pos (by simp)]), _, rfl, iteF k⟩
end
end K88
end

section
/-! a table spread: what it leads to is the table that was spread -/
namespace K88
open PySem PySem.Spec PyProof.Rows L2
/-- a state of c tells one of d, dead ends of c aside -/
structure Tells (c d : Ch) (R : Nat → Nat → Prop) : Prop where
  lt : ∀ a b, R a b → a < c.length ∧ b < d.length
  go : ∀ a b z b', R a b → lkp (rowC d b) z = some b' → ∃ a', lkp (rowC c a) z = some a' ∧ R a' b'
  no : ∀ a b z a', R a b → lkp (rowC d b) z = none → lkp (rowC c a) z = some a' → liveB c a' = false
theorem Tells.alive {c d : Ch} {R : Nat → Nat → Prop} (T : Tells c d R) (f : Full d) : ∀ (k : Nat) {a b : Nat}, R a b → aliveF c k a = true
  | 0, a, b, r => decide_eq_true (T.lt a b r).1
  | k + 1, a, b, r => by
    have lb := (T.lt a b r).2
    have hr : rowC d b ∈ d := by
      unfold rowC
      rw [List.getD_eq_getElem?_getD, List.getElem?_eq_getElem lb]
      exact List.getElem_mem lb
    have ne := f _ hr
    obtain ⟨e, es, he⟩ : ∃ e es, rowC d b = e :: es := by
      cases q : rowC d b with
      | nil => exact absurd q ne
      | cons e es => exact ⟨e, es, rfl⟩
    obtain ⟨b', hb⟩ : ∃ b', lkp (rowC d b) e.1 = some b' := lkp_has (by rw [he]; exact List.mem_cons_self)
    obtain ⟨a', ha, r'⟩ := T.go a b e.1 b' r hb
    unfold aliveF
    exact List.any_eq_true.mpr ⟨(e.1, a'), lkp_mem ha, T.alive f k r'⟩
theorem Tells.live {c d : Ch} {R : Nat → Nat → Prop} (T : Tells c d R) (f : Full d) {a b : Nat} (r : R a b) : liveB c a = true := by
  obtain ⟨k, q⟩ := still_ex c
  rw [← q.live]
  exact T.alive f k r
theorem Tells.leads {c d : Ch} {R : Nat → Nat → Prop} {w : Nat} (T : Tells c d R) (f : Full d) (okc : okT w c) (okd : okT w d) : Leads (living c) d R := by
  intro a b r
  obtain ⟨la, lb⟩ := T.lt a b r
  have oka := (rowOk okc la).1
  have ol := okR_filter oka fun e => liveB c e.2
  have nda := okR_nd oka
  have ndl := okR_nd ol
  have to : ∀ z a', lkp (rowC (living c) a) z = some a' → lkp (rowC c a) z = some a' ∧ liveB c a' = true := fun z a' h => by
    rw [living_row] at h
    obtain ⟨h1, h2⟩ := List.mem_filter.mp (lkp_mem h)
    exact ⟨lkp_at nda h1, h2⟩
  constructor
  · refine okR_eq (w := w) (by rw [living_row]; exact ol) (rowOk okd lb).1 fun z hz => ?_
    cases h1 : lkp (rowC d b) z with
    | none =>
      cases h2 : lkp (rowC (living c) a) z with
      | none => rfl
      | some a' =>
        obtain ⟨g1, g2⟩ := to z a' h2
        rw [T.no a b z a' r h1 g1] at g2
        cases g2
    | some b' =>
      obtain ⟨a', ha, r'⟩ := T.go a b z b' r h1
      have m : (z, a') ∈ (rowC c a).filter fun e => liveB c e.2 := List.mem_filter.mpr ⟨lkp_mem ha, T.live f r'⟩
      rw [living_row, lkp_at ndl m]; rfl
  · intro z a' b' h1 h2
    obtain ⟨g1, _⟩ := to z a' h1
    obtain ⟨a2, h3, r2⟩ := T.go a b z b' r h2
    rw [g1] at h3
    cases h3
    exact r2
theorem least_via {c d : Ch} {R : Nat → Nat → Prop} {q : Nat → Nat} {w : Nat} (T : Tells c d R) (wc : WfC c) (wd : WfC d) (okc : okT w c) (okd : okT w d) (f : Full d)
    (q0 : q 0 = 0) (hq : ∀ i, i < d.length → R (q i) i) (mn : ∀ x y, x < d.length → y < d.length → Lw d x y → x = y) (rg : reached d = List.range d.length) : leastC c = d ∧ liveB c 0 = true := by
  have okl := living_ok okc
  refine ⟨?_, by have := T.live f (hq 0 wd.1); rwa [q0] at this⟩
  unfold leastC
  rw [chartS_zero (living_wf wc)]
  exact chart_via (living_wf wc) wd (fun i hi => okR_nd (rowOk okl hi).1) (T.leads f okc okd) (fun a b r => by rw [living_len]; exact (T.lt a b r).1) q0 hq mn rg
end K88
end

section
set_option maxHeartbeats 4000000
/-! tables against each other, of whatever rows -/
namespace K88
open PySem PySem.Spec PyProof.Rows L2
/-- a table that is read: its dicts hold the rows of c in some order, locked or not -/
structure TbR (H : Hp) (F : Addr) (ls : List Addr) (c : Ch) : Prop where
  e : H F = some (.lst (ls.map V.ref))
  l : ls.length = c.length
  k : ∀ (i : Nat) (a : Addr), ls[i]? = some a → ∃ r, r.Perm (rowC c i) ∧ Rd H a (.dK (rowK r))
theorem TbR.same {H H' : Hp} {F : Addr} {ls : List Addr} {c : Ch} (h : TbR H F ls c) (s : Same H H') : TbR H' F ls c := ⟨s _ _ h.e, h.l, fun i a q => let ⟨r, p, e⟩ := h.k i a q; ⟨r, p, Rd.same s e⟩⟩
theorem TbP.toR {H : Hp} {F : Addr} {ls : List Addr} {c : Ch} (h : TbP H F ls c) : TbR H F ls c := ⟨h.e, h.l, fun i a q => let ⟨o, r, p, e⟩ := h.k i a q; ⟨r, p, .inr ⟨o, e⟩⟩⟩
theorem TbF.toR {H : Hp} {F : Addr} {ls : List Addr} {c : Ch} (h : TbF H F ls c) : TbR H F ls c := h.toP.toR
theorem NewP.toR {H0 H : Hp} {D : Addr} {c : Ch} (h : NewP H0 H D c) : ∃ ls, TbR H D ls c := by
  obtain ⟨ds, e, l, k⟩ := h
  exact ⟨ds, e, l, fun i a q => let ⟨_, r, p, e⟩ := k i a q; ⟨r, p, .inl e⟩⟩
theorem NewT.toR {H0 H : Hp} {D : Addr} {c : Ch} (h : NewT H0 H D c) : ∃ ls, TbR H D ls c := by
  obtain ⟨ds, e, l, k⟩ := h
  exact ⟨ds, e, l, fun i a q => ⟨_, .refl _, .inl (k i a q).2⟩⟩
theorem TbR.row {H : Hp} {F : Addr} {ls : List Addr} {c : Ch} (h : TbR H F ls c) {i : Nat} (hi : i < c.length) : ∃ a r, r.Perm (rowC c i) ∧ ls[i]? = some a ∧ atI (ls.map V.ref) (i : Int) = some (.ref a) ∧ Rd H a (.dK (rowK r)) := by
  have e := List.getElem?_eq_getElem (show i < ls.length by rw [h.l]; exact hi)
  obtain ⟨r, p, k⟩ := h.k i _ e
  exact ⟨_, r, p, e, atI_nat (by rw [List.getElem?_map, e]; rfl), k⟩
def rowEqB (r r' : List (Str × Nat)) : Bool := decide (r.length = r'.length) && r.all fun e => decide (lkp r' e.1 = some e.2)
def eqTB (c c' : Ch) : Bool := decide (c.length = c'.length) && (List.range c.length).all fun i => rowEqB (rowC c i) (rowC c' i)
theorem rowEqB_same {r : List (Str × Nat)} (nd : (keysR r).Nodup) : rowEqB r r = true := by
  unfold rowEqB
  rw [decide_eq_true rfl, Bool.true_and, List.all_eq_true]
  exact fun e he => decide_eq_true (lkp_at nd he)
theorem sub_len {α : Type} [DecidableEq α] : ∀ {xs ys : List α}, xs.Nodup → (∀ z ∈ xs, z ∈ ys) → xs.length ≤ ys.length
  | [], _, _, _ => Nat.zero_le _
  | x :: xs, ys, nd, h => by
    obtain ⟨n1, n2⟩ := List.nodup_cons.mp nd
    have hx := h x List.mem_cons_self
    have ih := sub_len (xs := xs) (ys := ys.erase x) n2 fun z hz => (List.mem_erase_of_ne fun e => n1 (by rw [← e]; exact hz)).mpr (h z (List.mem_cons_of_mem _ hz))
    rw [List.length_erase_of_mem hx] at ih
    have := List.length_pos_of_mem hx
    rw [List.length_cons]
    omega
theorem okR_row {w w' : Nat} {r r' : List (Str × Nat)} (ok : okR w r) (ok' : okR w' r') (h : rowEqB r r' = true) : r = r' := by
  unfold rowEqB at h
  obtain ⟨h1, h2⟩ := Bool.and_eq_true_iff.mp h
  have hl := of_decide_eq_true h1
  have hm : ∀ e ∈ r, lkp r' e.1 = some e.2 := fun e he => of_decide_eq_true (List.all_eq_true.mp h2 e he)
  have nd := okR_nd ok
  have nd' := okR_nd ok'
  have sub : ∀ z ∈ keysR r, z ∈ keysR r' := fun z hz => by
    obtain ⟨e, he, rfl⟩ := List.mem_map.mp hz
    exact lkp_keys (hm e he)
  have lk : (keysR r).length = (keysR r').length := by unfold keysR; rw [List.length_map, List.length_map, hl]
  have back : ∀ z ∈ keysR r', z ∈ keysR r := fun z hz => Classical.byContradiction fun no => by
    have := sub_len (xs := keysR r) (ys := (keysR r').erase z) nd fun y hy => (List.mem_erase_of_ne fun e => no (by rw [← e]; exact hy)).mpr (sub y hy)
    rw [List.length_erase_of_mem hz] at this
    have := List.length_pos_of_mem hz
    omega
  have pm : (keysR r).Perm (keysR r') := (List.perm_ext_iff_of_nodup nd nd').mpr fun z => ⟨sub z, back z⟩
  have in' : ∀ z ∈ keysR r', z ∈ sgs := fun z hz => List.mem_of_mem_take (okR_in ok' hz)
  have pw : ∀ {w : Nat} {r : List (Str × Nat)}, okR w r → (keysR r).Pairwise fun a b => sgs.idxOf a ≤ sgs.idxOf b := fun {w r} ok => by
    rw [show keysR r = (sgs.take w).filter _ from ok]
    exact (sgs_pw.sublist (List.take_sublist w sgs)).filter _
  have ke : keysR r = keysR r' := by
    refine List.Perm.eq_of_pairwise (fun a b ha hb h1 h2 => ?_) (pw ok) (pw ok') pm
    have ha' := in' a (sub a ha)
    have hb' := in' b hb
    have e : sgs.idxOf a = sgs.idxOf b := Nat.le_antisymm h1 h2
    rw [← List.getElem_idxOf (List.idxOf_lt_length_of_mem ha'), ← List.getElem_idxOf (List.idxOf_lt_length_of_mem hb')]
    congr 1
  refine List.ext_getElem hl fun i h1 h2 => ?_
  have m1 := List.getElem_mem h1
  have k1 := hm _ m1
  have kk : (r[i]).1 = (r'[i]).1 := by
    have := congrArg (fun l => l[i]?) ke
    unfold keysR at this
    rw [List.getElem?_map, List.getElem?_map, List.getElem?_eq_getElem h1, List.getElem?_eq_getElem h2] at this
    exact Option.some.inj this
  rw [kk, lkp_at nd' (List.getElem_mem h2)] at k1
  exact Prod.ext kk (Option.some.inj k1).symm
theorem eqTB_ok {w w' : Nat} {c c' : Ch} (ok : okT w c) (ok' : okT w' c') : eqTB c c' = decide (c = c') := by
  rw [Bool.eq_iff_iff, decide_eq_true_iff]
  unfold eqTB
  rw [Bool.and_eq_true, decide_eq_true_iff, List.all_eq_true]
  constructor
  · rintro ⟨hl, h⟩
    refine List.ext_getElem hl fun i h1 h2 => ?_
    have q := okR_row (rowOk ok h1).1 (rowOk ok' h2).1 (h i (List.mem_range.mpr h1))
    unfold rowC at q
    rw [List.getD_eq_getElem?_getD, List.getD_eq_getElem?_getD, List.getElem?_eq_getElem h1, List.getElem?_eq_getElem h2] at q
    exact q
  · rintro rfl
    exact ⟨rfl, fun i hi => rowEqB_same (okR_nd (rowOk ok (List.mem_range.mp hi)).1)⟩
theorem hits_gen {P : Program} {w : World} {A : Around} {s : Shared} {r' : List (Str × Nat)} {vb : List (Key × Value)} (rb : KV (rowK r') vb) : ∀ {r : List (Str × Nat)} {va : List (Key × Value)}, KV (rowK r) va →
    PySem.W.KeqHitsP P w A s vb va (r.all fun e => decide (lkp r' e.1 = some e.2))
  | [], _, .nil => .nil
  | e :: r, _, @Paired.cons _ _ _ _ (key, v) _ _ h t => by
    obtain ⟨h1, h2⟩ := h
    have ih := hits_gen (P := P) (w := w) (A := A) (s := s) rb (r := r) t
    have h1' : (Sum.inr e.1 : Key) = key := h1
    obtain ⟨tk, rfl⟩ : ∃ tk, v = Value.int (e.2 : Int) tk := h2
    have rr : RelO (valV (rowK r') (.inr e.1)) (valueAt vb (.inr e.1)) := rb.val _
    rw [rowK_val] at rr
    subst h1'
    rw [List.all_cons]
    cases q : lkp r' e.1 with
    | none =>
      rw [q] at rr
      cases z : valueAt vb (Sum.inr e.1 : Key) with
      | none =>
        rw [show decide ((none : Option Nat) = some e.2) = false from decide_eq_false (fun y => by cases y), Bool.false_and]
        exact .miss z
      | some y => rw [z] at rr; exact rr.elim
    | some g =>
      rw [q] at rr
      obtain ⟨y, hy, ry⟩ := rr.some_of
      obtain ⟨tk', rfl⟩ : ∃ tk, y = Value.int (g : Int) tk := ry
      refine .hit hy ?_ ih
      have := (SeqAt.EqAt.int_int (A := A) (s := s) (e.2 : Int) tk (g : Int) tk').eqP (prog := P) (w := w)
      rw [show ((e.2 : Int) == (g : Int)) = decide (some g = some e.2) by
        rw [Bool.eq_iff_iff, beq_iff_eq, decide_eq_true_iff]
        constructor
        · intro h; rw [Int.ofNat.inj h]
        · intro h; rw [Option.some.inj h]] at this
      exact this
theorem rowEqB_perm {r s r' s' : List (Str × Nat)} (nd : (keysR r').Nodup) (p : s.Perm r) (p' : s'.Perm r') : rowEqB s s' = rowEqB r r' := by
  unfold rowEqB
  rw [p.length_eq, p'.length_eq]
  congr 1
  rw [Bool.eq_iff_iff, List.all_eq_true, List.all_eq_true]
  constructor
  · intro h e he
    have := h e (p.mem_iff.mpr he)
    rwa [lkp_perm nd p'] at this
  · intro h e he
    have := h e (p.mem_iff.mp he)
    rwa [← lkp_perm nd p'] at this
/-- == of tables -/
def rEqTT : R2 := fun x y H Q => ∃ F G ls ls' c c', x = .ref F ∧ y = .ref G ∧ TbR H F ls c ∧ TbR H G ls' c' ∧ NdT c ∧ NdT c' ∧ c.length ≤ 64 ∧ Q (.bl (eqTB c c')) H
theorem op_eqTT {X : Cx} (hu : X.A.units + 64 < cLine) : OpR X (compareOp .Eq) rEqTT := by
  intro pins s σ H x y v u Q I rx ry h
  obtain ⟨F, G, ls, ls', c, c', rfl, rfl, ta, tb, nd, nd', cl, q⟩ := h
  cases (show v = Value.ref F from rx)
  cases (show u = Value.ref G from ry)
  obtain ⟨us, r1, p1, _⟩ := I.list (SqL.of ta.e)
  obtain ⟨ws, r2, p2, _⟩ := I.list (SqL.of tb.e)
  have l1 : us.length = c.length := by rw [← r1.length, List.length_map, ta.l]
  have l2 : ws.length = c'.length := by rw [← r2.length, List.length_map, tb.l]
  by_cases hl : c.length = c'.length
  · have hsz : us.toArray.size = ws.toArray.size := by rw [List.size_toArray, List.size_toArray, l1, l2, hl]
    refine SeqAt.rcP_lists (e := fun i => rowEqB (rowC c i) (rowC c' i)) p1.isList p2.isList hsz (by show X.A.units < cLine; omega) (fun j h1 h2 => ?_) _ _ ?_
    · rw [List.size_toArray] at h1 h2
      have hj : j < c.length := by omega
      have hj' : j < c'.length := by omega
      obtain ⟨a, r, pa, e1, e2, e3⟩ := ta.row hj
      obtain ⟨b, r', pb, f1, f2, f3⟩ := tb.row hj'
      have g1 : us[j] = Value.ref a := by
        obtain ⟨z, hz, rz⟩ := vals_nth r1 (i := j) (x := .ref a) (by rw [List.getElem?_map, e1]; rfl)
        rw [List.getElem?_eq_getElem h1] at hz
        cases hz
        exact rz
      have g2 : ws[j] = Value.ref b := by
        obtain ⟨z, hz, rz⟩ := vals_nth r2 (i := j) (x := .ref b) (by rw [List.getElem?_map, f1]; rfl)
        rw [List.getElem?_eq_getElem h2] at hz
        cases hz
        exact rz
      show SeqAt.EqP X.prog X.w X.A.in1 s us[j] ws[j] (rowEqB (rowC c j) (rowC c' j))
      rw [g1, g2, ← rowEqB_perm (nd' j hj') pa pb]
      obtain ⟨_, ya, va, ra, da⟩ := dk_rd I.hok e3
      obtain ⟨_, yb, vb, rb, db⟩ := dk_rd I.hok f3
      by_cases e : a = b
      · subst e
        have er : rowK r = rowK r' := by
          rcases e3 with z | ⟨o, z⟩ <;> rcases f3 with z' | ⟨o', z'⟩ <;> rw [z] at z'
          · exact HO.dK.inj (Option.some.inj z')
          · cases Option.some.inj z'
          · cases Option.some.inj z'
          · exact HO.dK.inj (HO.frz.inj (Option.some.inj z')).2
        have er : r = r' := by
          have inj : ∀ {x y : Str × Nat}, ((Sum.inr x.1 : Key), V.int (x.2 : Int)) = ((Sum.inr y.1 : Key), V.int (y.2 : Int)) → x = y := fun {x y} h => by
            have h1 := Sum.inr.inj (congrArg Prod.fst h)
            have h2 := V.int.inj (congrArg Prod.snd h)
            exact Prod.ext h1 (Int.ofNat.inj h2)
          exact (List.map_inj_right fun x y h => inj h).mp er
        subst er
        have ndr : (keysR r).Nodup := (pa.map (fun e : Str × Nat => e.1)).nodup_iff.mpr (nd j hj)
        rw [rowEqB_same ndr]
        exact (SeqAt.EqAt.same _).eqP
      · refine SeqAt.eqP_refs e fun E Q q => ?_
        have hit := hits_gen (P := X.prog) (w := X.w) (A := X.A.in1.in1) (s := s) rb ra
        refine PySem.W.rcP_dicts (knd := mixKind X.prog X.w) ya yb da db (by show X.A.units + 1 < cLine; omega) (fun _ => hit) E Q ?_
        rw [show (va.length == vb.length && r.all fun e => decide (lkp r' e.1 = some e.2)) = rowEqB r r' by
          unfold rowEqB
          rw [← ra.length, ← rb.length, rowK_len, rowK_len]
          congr 1]
        exact q
    · rw [List.size_toArray, l1]
      refine ⟨.bl _, H, I, rfl, ?_⟩
      unfold eqTB at q
      rw [decide_eq_true hl, Bool.true_and] at q
      exact q
  · have hsz : (us.toArray.size != ws.toArray.size) = true := by rw [List.size_toArray, List.size_toArray, l1, l2]; simpa using hl
    refine SeqAt.RcAt.lists_lengths p1.isList p2.isList hsz (by show X.A.units < cLine; omega) _ _ _ _ ?_
    refine ⟨.bl _, H, I, rfl, ?_⟩
    unfold eqTB at q
    rw [decide_eq_false hl, Bool.false_and] at q
    exact q
end K88
end

section
set_option maxHeartbeats 4000000
/-! != of lists whose items are compared within one program -/
namespace PySem.SeqAt
open AutoSeq1 (wpAny_loadPart')
open MeetsSeq MeetsSeq2 MeetsSeq3 SeqRoads2
section
variable {prog : Program} {w : World}
theorem neLoopP (l b : Addr) (xs ys : Array Value) (n m : Nat) (dx dy : Option Addr) (sx sy : Array (Option Value)) (hs : xs.size = ys.size) (e : Nat → Bool) : ∀ (k i : Nat), xs.size - i = k →
    MeetsIn prog w (Builtin.«list.__eq__.loop» ⟨[.ref l, .ref b, rawInt i, rawInt 3], []⟩)
      (fun A R s => (s.heap.get? l = some { cls := .type "list", dict := dx, data := .seq xs n, slots := sx } ∧ s.heap.get? b = some { cls := .type "list", dict := dy, data := .seq ys m, slots := sy }) ∧
        (∀ j (h1 : j < xs.size) (h2 : j < ys.size), EqP prog w A.in1 s xs[j] ys[j] (e j)) ∧ R (.ok (.ret (.bool (!((List.range xs.size).drop i).all e)))) s)
  | 0, i, hk => by
    rintro A R ⟨hp, g, d, tk, os⟩ ⟨⟨hl, hb⟩, he, h⟩
    wp_walk using wpAny_loadPart' hl, wpAny_loadPart' hb
    rw [show (List.range xs.size).drop i = [] by simp; omega] at h
    rw [show xs[((i : Nat) : Int).toNat]? = none by simp; omega, show ys[((i : Nat) : Int).toNat]? = none by simp; omega]
    wp_walk using wpAny_loadPart' hl, wpAny_loadPart' hb
    show R (.ok (.ret (.bool (xs.size != ys.size)))) _
    rw [hs]
    simpa using h
  | k + 1, i, hk => by
    rintro A R ⟨hp, g, d, tk, os⟩ ⟨⟨hl, hb⟩, he, h⟩
    have lx : i < xs.size := by omega
    have ly : i < ys.size := by omega
    have gx : xs[((i : Nat) : Int).toNat]? = some xs[i] := by simp [lx]
    have gy : ys[((i : Nat) : Int).toNat]? = some ys[i] := by simp [ly]
    wp_walk using wpAny_loadPart' hl, wpAny_loadPart' hb
    rw [show (List.range xs.size).drop i = i :: (List.range xs.size).drop (i + 1) by simp [List.drop_eq_getElem_cons, lx], List.all_cons] at h
    rw [gx, gy]
    refine wpAny_bind (he i lx ly _ _ ?_)
    cases q : e i with
    | false =>
      rw [q] at h
      wp_walk using wpAny_loadPart' hl, wpAny_loadPart' hb
      rw [gx, gy]
      wp_walk
      simpa using h
    | true =>
      rw [q] at h
      wp_walk
      rw [show ((i : Int) + 1) = ((i + 1 : Nat) : Int) by push_cast; rfl]
      exact ⟨plainId_quiet plain_eq_loop _, codeAny_builtin entry_eq_loop (by
        rw [Around.under_plainId plain_eq_loop _]
        exact neLoopP l b xs ys n m dx dy sx sy hs e k (i + 1) (by omega) A R _ ⟨⟨hl, hb⟩, he, by simpa using h⟩)⟩
theorem neP (l b : Addr) (xs ys : Array Value) (n m : Nat) (dx dy : Option Addr) (sx sy : Array (Option Value)) (hs : xs.size = ys.size) (e : Nat → Bool) : MeetsIn prog w (Builtin.«list.__ne__» ⟨[.ref l, .ref b], []⟩)
      (fun A R s => (s.heap.get? l = some { cls := .type "list", dict := dx, data := .seq xs n, slots := sx } ∧ s.heap.get? b = some { cls := .type "list", dict := dy, data := .seq ys m, slots := sy }) ∧
        (∀ j (h1 : j < xs.size) (h2 : j < ys.size), EqP prog w A.in1 s xs[j] ys[j] (e j)) ∧ R (.ok (.ret (.bool (!(List.range xs.size).all e)))) s) := by
  rintro A R ⟨hp, g, d, tk, os⟩ ⟨⟨hl, hb⟩, he, h⟩
  have f3 := AutoSeq1.sub_list_list
  have hne : ¬ (xs.size != ys.size) = true := by simp [hs]
  wp_walk using wpAny_loadPart' hl, wpAny_loadPart' hb
  exact ⟨plainId_quiet plain_eq_loop _, codeAny_builtin entry_eq_loop (by
    rw [Around.under_plainId plain_eq_loop _]
    exact neLoopP l b xs ys n m dx dy sx sy hs e _ 0 rfl A R _ ⟨⟨hl, hb⟩, he, by simpa using h⟩)⟩
theorem rcNeP_lists {A : Around} {s : Shared} {l b : Addr} {xs ys : Array Value} {e : Nat → Bool} (hl : s.heap.IsList l xs) (hb : s.heap.IsList b ys) (hs : xs.size = ys.size) (hu : A.units < cLine)
    (he : ∀ j (h1 : j < xs.size) (h2 : j < ys.size), EqP prog w A.in1 s xs[j] ys[j] (e j)) (E Q : Value → Shared → Prop) (h : Q (.bool (!(List.range xs.size).all e)) s) : wpAny (model prog w) A (richCompare .NotEq (.ref l) (.ref b)) Q E s := by
  obtain ⟨⟨c1, d1, t1, s1⟩, o1, k1, n1, f1⟩ := id hl
  obtain ⟨⟨c2, d2, t2, s2⟩, o2, k2, n2, f2⟩ := id hb
  simp only at k1 f1 k2 f2
  subst k1 f1 k2 f2
  have ta : s.TypeIs (.ref l) "list" := ⟨_, o1, rfl⟩
  exact wpAny_richCompare_same_room (op := .NotEq) ta ⟨_, o2, rfl⟩ F.slot_list_ne (call_meetsIn F.slot_list_ne ta F.entry_list_ne (F.args_list_ne_2 _ _) (neP l b xs ys n1 n2 d1 d2 s1 s2 hs e)
    ⟨⟨o1, o2⟩, he, show Value.bool (!(List.range xs.size).all e) ≠ Value.notImplemented ∧ Q (.bool (!(List.range xs.size).all e)) s from ⟨(fun x => nomatch x), h⟩⟩) hu
end
end PySem.SeqAt
end

section
set_option maxHeartbeats 4000000
/-! != of tables -/
namespace K88
open PySem PySem.Spec PyProof.Rows L2
/-- != of tables -/
def rNeTT : R2 := fun x y H Q => ∃ F G ls ls' c c', x = .ref F ∧ y = .ref G ∧ TbR H F ls c ∧ TbR H G ls' c' ∧ NdT c ∧ NdT c' ∧ c.length ≤ 64 ∧ Q (.bl (!eqTB c c')) H
theorem op_neTT {X : Cx} (hu : X.A.units + 64 < cLine) : OpR X (compareOp .NotEq) rNeTT := by
  intro pins s σ H x y v u Q I rx ry h
  obtain ⟨F, G, ls, ls', c, c', rfl, rfl, ta, tb, nd, nd', cl, q⟩ := h
  cases (show v = Value.ref F from rx)
  cases (show u = Value.ref G from ry)
  obtain ⟨us, r1, p1, _⟩ := I.list (SqL.of ta.e)
  obtain ⟨ws, r2, p2, _⟩ := I.list (SqL.of tb.e)
  have l1 : us.length = c.length := by rw [← r1.length, List.length_map, ta.l]
  have l2 : ws.length = c'.length := by rw [← r2.length, List.length_map, tb.l]
  by_cases hl : c.length = c'.length
  · have hsz : us.toArray.size = ws.toArray.size := by rw [List.size_toArray, List.size_toArray, l1, l2, hl]
    refine SeqAt.rcNeP_lists (e := fun i => rowEqB (rowC c i) (rowC c' i)) p1.isList p2.isList hsz (by show X.A.units < cLine; omega) (fun j h1 h2 => ?_) _ _ ?_
    · rw [List.size_toArray] at h1 h2
      have hj : j < c.length := by omega
      have hj' : j < c'.length := by omega
      obtain ⟨a, r, pa, e1, e2, e3⟩ := ta.row hj
      obtain ⟨b, r', pb, f1, f2, f3⟩ := tb.row hj'
      have g1 : us[j] = Value.ref a := by
        obtain ⟨z, hz, rz⟩ := vals_nth r1 (i := j) (x := .ref a) (by rw [List.getElem?_map, e1]; rfl)
        rw [List.getElem?_eq_getElem h1] at hz
        cases hz
        exact rz
      have g2 : ws[j] = Value.ref b := by
        obtain ⟨z, hz, rz⟩ := vals_nth r2 (i := j) (x := .ref b) (by rw [List.getElem?_map, f1]; rfl)
        rw [List.getElem?_eq_getElem h2] at hz
        cases hz
        exact rz
      show SeqAt.EqP X.prog X.w X.A.in1 s us[j] ws[j] (rowEqB (rowC c j) (rowC c' j))
      rw [g1, g2, ← rowEqB_perm (nd' j hj') pa pb]
      obtain ⟨_, ya, va, ra, da⟩ := dk_rd I.hok e3
      obtain ⟨_, yb, vb, rb, db⟩ := dk_rd I.hok f3
      by_cases e : a = b
      · subst e
        have er : rowK r = rowK r' := by
          rcases e3 with z | ⟨o, z⟩ <;> rcases f3 with z' | ⟨o', z'⟩ <;> rw [z] at z'
          · exact HO.dK.inj (Option.some.inj z')
          · cases Option.some.inj z'
          · cases Option.some.inj z'
          · exact HO.dK.inj (HO.frz.inj (Option.some.inj z')).2
        have er : r = r' := by
          have inj : ∀ {x y : Str × Nat}, ((Sum.inr x.1 : Key), V.int (x.2 : Int)) = ((Sum.inr y.1 : Key), V.int (y.2 : Int)) → x = y := fun {x y} h => by
            have h1 := Sum.inr.inj (congrArg Prod.fst h)
            have h2 := V.int.inj (congrArg Prod.snd h)
            exact Prod.ext h1 (Int.ofNat.inj h2)
          exact (List.map_inj_right fun x y h => inj h).mp er
        subst er
        have ndr : (keysR r).Nodup := (pa.map (fun e : Str × Nat => e.1)).nodup_iff.mpr (nd j hj)
        rw [rowEqB_same ndr]
        exact (SeqAt.EqAt.same _).eqP
      · refine SeqAt.eqP_refs e fun E Q q => ?_
        have hit := hits_gen (P := X.prog) (w := X.w) (A := X.A.in1.in1) (s := s) rb ra
        refine PySem.W.rcP_dicts (knd := mixKind X.prog X.w) ya yb da db (by show X.A.units + 1 < cLine; omega) (fun _ => hit) E Q ?_
        rw [show (va.length == vb.length && r.all fun e => decide (lkp r' e.1 = some e.2)) = rowEqB r r' by
          unfold rowEqB
          rw [← ra.length, ← rb.length, rowK_len, rowK_len]
          congr 1]
        exact q
    · rw [List.size_toArray, l1]
      refine ⟨.bl _, H, I, rfl, ?_⟩
      unfold eqTB at q
      rw [decide_eq_true hl, Bool.true_and] at q
      exact q
  · have hsz : (us.toArray.size != ws.toArray.size) = true := by rw [List.size_toArray, List.size_toArray, l1, l2]; simpa using hl
    refine SeqAt.RcNeAt.lists_lengths p1.isList p2.isList hsz (by show X.A.units < cLine; omega) _ _ _ _ ?_
    refine ⟨.bl _, H, I, rfl, ?_⟩
    unfold eqTB at q
    rw [decide_eq_false hl, Bool.false_and] at q
    exact q
end K88
end

section
set_option maxHeartbeats 4000000
/-! rows walked in a table -/
namespace K88
open PySem PySem.Spec PyProof.Rows L2
def ledL (c : Ch) : Nat → List Str → Option Nat
  | s, [] => some s
  | s, z :: w => (lkp (rowC c s) z).bind fun g => ledL c g w
def cz (z : Str) : Nat := z.cps.toList.headD 0
def codesL (w : List Str) : List Nat := w.map cz
/-- the text of signs -/
def catL : List Str → Str
  | [] => ""
  | z :: w => z ++ catL w
theorem sgs_code : ∀ z ∈ sgs, z = (⟨#[cz z]⟩ : Str) := by decide +kernel
theorem cat_codes : ∀ {w : List Str}, (∀ z ∈ w, z ∈ sgs) → (catL w).cps.toList = codesL w
  | [], _ => rfl
  | z :: w, h => by
    have e := sgs_code z (h z List.mem_cons_self)
    have ih := cat_codes fun y hy => h y (List.mem_cons_of_mem _ hy)
    show (z ++ catL w).cps.toList = cz z :: codesL w
    rw [← ih]
    conv => lhs; rw [e]
    show ((#[cz z] : Array Nat) ++ (catL w).cps).toList = _
    simp
def okRow (z : Str) : Prop := wordD (.str z) = true ∧ z.length ≤ 2000
def spRow : Sp := fun vs H Q _ => ∃ z : Str, vs = [.str z] ∧ okRow z ∧ ∀ H', Same H H' → Q (.bl true) H'
def spCheckRow : Sp := fun vs H Q _ => ∃ z : Str, vs = [.str z] ∧ okRow z ∧ ∀ H', Same H H' → Q .non H'
theorem cat_len {w : List Str} (h : ∀ z ∈ w, z ∈ sgs) : (catL w).length = w.length := by
  have := cat_codes h
  show (catL w).cps.size = _
  rw [← Array.length_toList, this]
  unfold codesL
  rw [List.length_map]
theorem sgs_sgn : ∀ z ∈ sgs, sgn (cz z) = true := by decide +kernel
theorem cat_ok {w : List Str} (h : ∀ z ∈ w, z ∈ sgs) (l : w.length ≤ 2000) : okRow (catL w) := by
  refine ⟨?_, by rw [cat_len h]; exact l⟩
  show ((catL w).cps.toList.all sgn) = true
  rw [cat_codes h]
  unfold codesL
  rw [List.all_map, List.all_eq_true]
  intro z hz
  exact sgs_sgn z (h z hz)
theorem cat_at {w : List Str} (h : ∀ z ∈ w, z ∈ sgs) {i : Nat} {c : Nat} (e : (catL w).cps[i]? = some c) : ∃ z, w[i]? = some z ∧ z = (⟨#[c]⟩ : Str) := by
  rw [← Array.getElem?_toList, cat_codes h] at e
  unfold codesL at e
  rw [List.getElem?_map] at e
  cases q : w[i]? with
  | none => rw [q] at e; cases e
  | some z =>
    rw [q] at e
    have e : cz z = c := Option.some.inj e
    exact ⟨z, rfl, by rw [← e]; exact sgs_code z (h z (List.mem_of_getElem? q))⟩
theorem cat_size {w : List Str} (h : ∀ z ∈ w, z ∈ sgs) : (catL w).cps.size = w.length := cat_len h
theorem cat_snoc (w : List Str) (z : Str) : catL (w ++ [z]) = catL w ++ z := by
  induction w with
  | nil =>
    show z ++ "" = "" ++ z
    rw [show z ++ ("" : Str) = z from Str.append_empty z, show ("" : Str) ++ z = z from Str.empty_append z]
  | cons y w ih =>
    show y ++ catL (w ++ [z]) = (y ++ catL w) ++ z
    rw [ih, Str.append_assoc]
theorem led_snoc {c : Ch} : ∀ {u : List Str} {z : Str} {s t : Nat}, ledL c s u = some t → ledL c s (u ++ [z]) = lkp (rowC c t) z
  | [], z, s, t, h => by
    cases h
    show (lkp (rowC c s) z).bind (fun g => some g) = _
    cases lkp (rowC c s) z <;> rfl
  | y :: u, z, s, t, h => by
    have h : (lkp (rowC c s) y).bind (fun g => ledL c g u) = some t := h
    show (lkp (rowC c s) y).bind (fun g => ledL c g (u ++ [z])) = _
    cases e : lkp (rowC c s) y with
    | none => rw [e] at h; cases h
    | some g =>
      rw [e] at h
      exact led_snoc (show ledL c g u = some t from h)
theorem led_take {c : Ch} : ∀ {u : List Str} {s g : Nat}, ledL c s u = some g → ∀ i, ∃ t, ledL c s (u.take i) = some t
  | [], s, g, h, i => ⟨s, by rw [List.take_nil]; rfl⟩
  | y :: u, s, g, h, 0 => ⟨s, rfl⟩
  | y :: u, s, g, h, i + 1 => by
    have h : (lkp (rowC c s) y).bind (fun g => ledL c g u) = some g := h
    cases e : lkp (rowC c s) y with
    | none => rw [e] at h; cases h
    | some t =>
      rw [e] at h
      obtain ⟨v, hv⟩ := led_take (show ledL c t u = some g from h) i
      refine ⟨v, ?_⟩
      show (lkp (rowC c s) y).bind (fun g => ledL c g (u.take i)) = _
      rw [e]
      exact hv
theorem led_lt {c : Ch} (wf : WfC c) : ∀ {u : List Str} {s g : Nat}, s < c.length → ledL c s u = some g → g < c.length
  | [], s, g, hs, h => by cases h; exact hs
  | y :: u, s, g, hs, h => by
    have h : (lkp (rowC c s) y).bind (fun g => ledL c g u) = some g := h
    cases e : lkp (rowC c s) y with
    | none => rw [e] at h; cases h
    | some t =>
      rw [e] at h
      exact led_lt wf (lkp_lt wf e) (show ledL c t u = some g from h)
theorem led_app {c : Ch} : ∀ {u v : List Str} {s : Nat}, ledL c s (u ++ v) = (ledL c s u).bind fun t => ledL c t v
  | [], v, s => rfl
  | z :: u, v, s => by
    show (lkp (rowC c s) z).bind (fun g => ledL c g (u ++ v)) = ((lkp (rowC c s) z).bind fun g => ledL c g u).bind fun t => ledL c t v
    cases lkp (rowC c s) z with
    | none => rfl
    | some g => exact led_app
def optV : Option Nat → V
  | none => .non
  | some g => .int (g : Int)
def spWalked : Sp := fun vs H Q _ => ∃ (F : Addr) (ls : List Addr) (c : Ch) (s : Nat) (u : List Str), vs = [.ref F, .str (catL u), .int (s : Int)] ∧ TbF H F ls c ∧ WfC c ∧ s < c.length ∧ (∀ z ∈ u, z ∈ sgs) ∧ Q (optV (ledL c s u)) H
section
variable {P : Program} {w : World} {K : PySem.W.Frag} {mg : Str → Option Value} {base : Heap} {ad : Str → Addr} {fd : Str → FuncData}
theorem scIsRow : FnScope ["value", "sign"] ["value"] (defScope sIsRow) := ⟨rfl, rfl, rfl, by decide +kernel, rfl, by decide +kernel, by decide +kernel⟩
theorem ok_is_row (X : Tx K mg ad fd) : FnOk P w K mg base CX0 1 (ad "is_row") (fd "is_row") ["value"] spRow := by
  obtain ⟨tA, GLOB_ALL_SIGNS⟩ := X.g_ALL_SIGNS
  refine X.F_is_row.ok scIsRow (fun vs H Q E h => ?_) (fun cdv A outer s H vs Q E hr h => ?_)
  · obtain ⟨z, rfl, _⟩ := h
    rfl
  · obtain ⟨z, rfl, hz, k⟩ := h
    refine ⟨_, (pss_one (ps_ret (by exact (pe_and (pe_callB call_isi (by rfl) X.m_isinstance (by decide +kernel) (pa_cons (pv 0) (pa_cons (pe_bltn (v := .ty "str") (by rfl) X.m_str (by decide +kernel) rfl) pa_nil))) (pe_one (pe_callB (cr_all rfl) (by rfl) X.m_all (by decide +kernel) (pa_cons (pe_lc (own := [("sign", 1)]) (g := gName 1) rfl scIsRow.nd (pi_str (pv 0)) (blkOk_by (own := [("sign", 1)]) (N := ["value", "sign"]) (sc := defScope sIsRow) (by decide +kernel)) (fun _ _ _ _ _ => pg_name (i := 1) scIsRow.nd rfl (Or.inl rfl)) (fun _ _ _ _ _ => pts_nil) (fun _ _ _ _ _ => (pe_cmpR op_in_sign (pv 1) (pe_glob (v := .str "abcd") (by rfl) GLOB_ALL_SIGNS ⟨_, rfl⟩) rfl))) pa_nil))))))), ?_⟩
    refine ⟨.str z, rfl, .str z, .ty "str", _, _, _, rfl, .ty _, dx_ty (.str z), kit_ty (kit_s (.str z)), _, rfl, .str z, rfl, z, rfl, fun D hD => ?_⟩
    refine lc_it (w := walk_str (z := z)) (g := gName 1) (tt := tYes) (fun i H' => Same H H' ∧ H' D = some (.lst (((z.cps.toList.take i).map sgn).map V.bl))) ⟨Same.new hD, upd_same⟩ (fun _ _ _ _ => True.intro) (fun i x H' H2 hi hP hy => ?_) (fun H' hP => ?_)
    · obtain ⟨hs, eD⟩ := hP
      obtain ⟨rfl, c, hc, rfl⟩ := hy
      have hc' : z.cps.toList[i]? = some c := by rw [Array.getElem?_toList]; exact hc
      have lz : z.cps.size ≤ 2000 := hz.2
      refine ⟨rfl, .str ⟨#[c]⟩, rfl, c, "abcd", rfl, rfl, _, eD, ?_, ?_, ?_⟩
      · rw [List.length_map, List.length_map, List.length_take, sizeLine_eq]
        omega
      · intro b o e
        rw [upd_ne (ne_of_none e hD)]
        exact hs b o e
      · rw [upd_same, take_snoc hc', List.map_append, List.map_append]
        rfl
    · obtain ⟨hs, eD⟩ := hP
      refine ⟨D, (z.cps.toList.take z.cps.size).map sgn, rfl, SqL.of eD, ?_⟩
      rw [show z.cps.toList.take z.cps.size = z.cps.toList from List.take_of_length_le (by simp)]
      have q' := k H' hs
      have e : (z.cps.toList.map sgn).all id = true := by
        rw [List.all_map]
        exact hz.1
      rw [e]
      exact q'
theorem scIsShortRow : FnScope ["value"] ["value"] (defScope sIsShortRow) := ⟨rfl, rfl, rfl, by decide +kernel, rfl, by decide +kernel, by decide +kernel⟩
theorem ok_is_short_row (X : Tx K mg ad fd) : FnOk P w K mg base CX0 2 (ad "is_short_row") (fd "is_short_row") ["value"] spRow := by
  have G_is_row := ok_is_row (P := P) (w := w) (base := base) X
  obtain ⟨tA, GLOB_MOST_IN_ROW⟩ := X.g_MOST_IN_ROW
  refine X.F_is_short_row.ok scIsShortRow (fun vs H Q E h => ?_) (fun cdv A outer s H vs Q E hr h => ?_)
  · obtain ⟨z, rfl, _⟩ := h
    rfl
  · obtain ⟨z, rfl, hz, k⟩ := h
    have HR_is_row := hr
    refine ⟨_, (pss_one (ps_ret (by exact (pe_and (pe_call G_is_row HR_is_row (by rfl) X.g_is_row X.F_is_row.kp X.b_is_row .nil pass0 (pa_cons (pv 0) pa_nil)) (pe_one (pe_cmpR op_le (pe_callB call_len (by rfl) X.m_len (by decide +kernel) (pa_cons (pv 0) pa_nil)) (pe_glob (v := .int 2000) (by rfl) GLOB_MOST_IN_ROW ⟨_, rfl⟩) (nomark _))))))), ?_⟩
    refine ⟨.str z, rfl, z, rfl, hz, fun H1 s1 => ⟨_, rfl, .str z, rfl, .str z, z.length, rfl, ⟨by rw [sizeLine_eq]; have := hz.2; omega, rfl⟩, _, _, rfl, rfl, ?_⟩⟩
    show Q (.bl (decide ((z.length : Int) ≤ 2000))) H1
    rw [decide_eq_true (show (z.length : Int) ≤ 2000 by have := hz.2; omega)]
    exact k _ s1
theorem scWalked : FnScope ["table", "row", "state", "sign"] ["table", "row", "state"] (defScope sWalked) := ⟨rfl, rfl, rfl, by decide +kernel, rfl, by decide +kernel, by decide +kernel⟩
theorem ok_walked (X : Tx K mg ad fd) : FnOk P w K mg base CX0 1 (ad "walked") (fd "walked") ["table", "row", "state"] spWalked := by
  refine X.F_walked.ok scWalked (fun vs H Q E h => ?_) (fun cdv A outer s H vs Q E hr h => ?_)
  · obtain ⟨F, ls, c, s0, u, rfl, tb, wf, hs, su, k⟩ := h
    rfl
  · obtain ⟨F, ls, c, s0, u, rfl, tb, wf, hs, su, k⟩ := h
    have HU : (A.deeper (envOfC "walked" (defScope sWalked) s.heap.objs.size (ad "walked") cdv)).units + 1 < cLine := by have := hr.un; omega
    refine ⟨_, (pss_cons (ps_for PassesOwn.never rfl (pi_str (pv 1)) (pg_name (i := 3) scWalked.nd rfl (.inl rfl))
  (pss_cons (ps_if (pt_cmp (pc_dnotin HU (pv 3) (pe_ix (ix_listK (K := K) rfl) (pv 0) (pv 2) (fun _ _ => rfl))))
  (pss_one (ps_ret (by exact pe_non)))
  pss_nil)
  (pss_one (ps_set (i := 2) scWalked.nd rfl (.inl rfl) (by exact (pe_dget HU (pe_ix (ix_listK (K := K) rfl) (pv 0) (pv 2) (fun _ _ => rfl)) (pv 3) (fun _ _ => rfl)))))))
  (pss_one (ps_ret (by exact (pv 2))))), ?_⟩
    refine ⟨.str (catL u), rfl, catL u, rfl, ?_⟩
    refine for_it (w := walk_str (z := catL u)) (fun i σ H' => ∃ (t : Nat) (r3 : Option V), σ = [some (.ref F), some (.str (catL u)), some (.int (t : Int)), r3] ∧ H' = H ∧ ledL c s0 (u.take i) = some t) ⟨s0, _, rfl, rfl, rfl⟩ (fun _ _ _ _ _ => True.intro) ?_ ?_
    · rintro i x σ H' H2 hi ⟨t, r3, rfl, rfl, lt⟩ ⟨rfl, cc, hc, rfl⟩
      obtain ⟨z, hz, ez⟩ := cat_at su hc
      have ht := led_lt wf hs lt
      obtain ⟨a, oa, a1, a2, a3⟩ := tb.row ht
      have l2 := led_snoc (z := z) lt
      have tk : u.take (i + 1) = u.take i ++ [z] := by rw [List.take_add_one, hz]; rfl
      rw [← tk] at l2
      refine gN ?_
      cases e : lkp (rowC c t) z with
      | none =>
        have dg : DGet H2 a (.str ⟨#[cc]⟩) none := .inl ⟨rowK (rowC c t), .inr ⟨#[cc]⟩, .inr ⟨oa, a3⟩, rfl, by rw [rowK_val, ← ez, e]; rfl⟩
        refine ⟨.str ⟨#[cc]⟩, rfl, .ref F, rfl, .int (t : Int), rfl, F, _, (t : Int), .ref a, rfl, rfl, SqL.of tb.e, a2, a, _, rfl, dg, _, rfl, iteT ?_⟩
        have en : ledL c s0 u = none := by
          have := led_app (c := c) (u := u.take (i + 1)) (v := u.drop (i + 1)) (s := s0)
          rw [List.take_append_drop, l2, e] at this
          exact this
        rw [en] at k
        exact k
      | some t' =>
        have dg : DGet H2 a (.str ⟨#[cc]⟩) (some (.int (t' : Int))) := .inl ⟨rowK (rowC c t), .inr ⟨#[cc]⟩, .inr ⟨oa, a3⟩, rfl, by rw [rowK_val, ← ez, e]; rfl⟩
        refine ⟨.str ⟨#[cc]⟩, rfl, .ref F, rfl, .int (t : Int), rfl, F, _, (t : Int), .ref a, rfl, rfl, SqL.of tb.e, a2, a, _, rfl, dg, _, rfl, iteF ?_⟩
        refine ⟨.ref F, rfl, .int (t : Int), rfl, F, _, (t : Int), .ref a, rfl, rfl, SqL.of tb.e, a2, .str ⟨#[cc]⟩, rfl, a, _, rfl, dg, ?_⟩
        exact ⟨t', _, rfl, rfl, by rw [l2, e]⟩
    · rintro σ H' ⟨t, r3, rfl, rfl, lt⟩
      have : u.take (catL u).cps.size = u := List.take_of_length_le (by rw [cat_size su]; exact Nat.le_refl _)
      rw [this] at lt
      rw [lt] at k
      exact ⟨.int (t : Int), rfl, k⟩
end
end K88
end

section
set_option maxHeartbeats 4000000
/-! media walked, asked, free -/
namespace K88
open PySem PySem.Spec PyProof.Rows L2
section
variable {X : Cx} {CX : CXT} {k : Nat} {f C : Addr} {fd : FuncData} {ps : List Str} {sp : Sp} {E : XK} {x : Str} {p pos : Pos} {e : Expr} {es : List Expr} {t : TA} {tn : TE} {ds : List Value} {dvs : List V}
/-- cls(e, ..), cls a name that holds the class -/
def tMakeL (C : Addr) (sp : Sp) (dvs : List V) (E : XK) (tn : TE) (t : TA) : TE := fun σ H Q => tn σ H fun v H1 => v = .ref C ∧ tMake C sp dvs E t σ H1 Q
theorem pe_makeL (M : Mk X.K C f) (F : FnOk X.prog X.w X.K X.mg X.base CX k f fd ps sp) (hr : Room (k + 1) X.A) (hn : PE X (.Name x p) tn) (hb : Binds X.K fd ps ds) (hd : Vals dvs ds) (hx : Passes CX X E)
    (ha : PA X (e :: es) t) (he : starEach (e :: es) X.env = (false, eval e X.env) :: starEach es X.env := by rfl) (hpl : (backTo pos (starEach es X.env)).any (·.1) = false := by rfl) :
    PE X (.Call (.Name x p) (e :: es) [] pos) (tMakeL C sp dvs E tn t) := by
  refine ⟨fun pins s σ H Q I h => ?_⟩
  refine wpAny_Call_Name_kw (thn (hn.run pins s σ H _ I h) fun u s0 ⟨v, H0, I0, r0, ev, q0⟩ => ?_)
  subst ev
  obtain rfl : u = Value.ref C := r0
  refine PySem.W.callWith_K (h₀ := X.base) I0.ok.mod.kin M.kp (thn (ha.run pos pins s0 σ H0 _ I0 q0) fun us s1 ⟨vs, H1, I1, r, q⟩ => ⟨I1.kIn, ?_⟩) he hpl
  exact run_make M F hr hb hd hx I1 r q
end
theorem okSg_at {w : Nat} {g : Str} (sg : okSg w g) {j c : Nat} (h : g.cps[j]? = some c) : (sgs.take w)[j]? = some (⟨#[c]⟩ : Str) := by
  rw [← show _ = sgs.take w from sg, List.getElem?_map, Array.getElem?_toList, h]; rfl
theorem okSg_size {w : Nat} {g : Str} (sg : okSg w g) (w4 : w ≤ 4) : g.cps.size = w := by
  have := okSg_len sg
  rw [List.length_take, Array.length_toList] at this
  rw [this]
  exact Nat.min_eq_left w4
/-- the letters of a word -/
def lettersS (z : Str) : List Str := z.cps.toList.map fun c => (⟨#[c]⟩ : Str)
theorem cat_letters : ∀ l : List Nat, catL (l.map fun c => (⟨#[c]⟩ : Str)) = ⟨l.toArray⟩
  | [] => rfl
  | c :: l => by
    rw [List.map_cons]
    show (⟨#[c]⟩ : Str) ++ catL _ = _
    rw [cat_letters l]
    show (⟨#[c] ++ l.toArray⟩ : Str) = _
    simp
theorem letters_cat (z : Str) : catL (lettersS z) = z := by
  unfold lettersS
  rw [cat_letters]
theorem sgn_in (c : Nat) (h : sgn c = true) : (⟨#[c]⟩ : Str) ∈ sgs := by
  have h := of_decide_eq_true h
  have e : (PySem.Str.ofString "abcd").cps.toList = [97, 98, 99, 100] := by decide +kernel
  rw [e] at h
  have : ∀ c ∈ [97, 98, 99, 100], (⟨#[c]⟩ : Str) ∈ sgs := by decide +kernel
  exact this c h
theorem letters_in {z : Str} (h : wordD (.str z) = true) : ∀ y ∈ lettersS z, y ∈ sgs := fun y hy => by
  obtain ⟨c, hc, rfl⟩ := List.mem_map.mp hy
  have h : (z.cps.toList.all sgn) = true := h
  have := List.all_eq_true.mp h c hc
  exact sgn_in c this
theorem letters_len (z : Str) : (lettersS z).length = z.length := by
  unfold lettersS
  rw [List.length_map, Array.length_toList]; rfl
/-- the state to which a text leads -/
def ledS (c : Ch) (s : Nat) (z : Str) : Option Nat := ledL c s (lettersS z)
theorem letters_app (y z : Str) : lettersS (y ++ z) = lettersS y ++ lettersS z := by
  unfold lettersS
  rw [← List.map_append]
  congr 1
  show (y.cps ++ z.cps).toList = _
  exact Array.toList_append
theorem ledS_app {c : Ch} {s : Nat} (y z : Str) : ledS c s (y ++ z) = (ledS c s y).bind fun t => ledS c t z := by
  unfold ledS
  rw [letters_app, led_app]
/-- a table of one state, all of whose signs lead back -/
theorem one_least {w : Nat} {r : List (Str × Nat)} (ok : okR w r) (ne : r ≠ []) (z : ∀ e ∈ r, e.2 = 0) : leastC [r] = [r] ∧ liveB [r] 0 = true ∧ WfC [r] ∧ okT w [r] := by
  have wf : WfC [r] := ⟨by simp, fun r' hr e he => by rw [List.mem_singleton.mp hr] at he; rw [z e he]; simp⟩
  have okt : okT w [r] := fun r' hr => by rw [List.mem_singleton.mp hr]; exact ⟨ok, trivial⟩
  have r0 : rowC [r] 0 = r := rfl
  have ad : ∀ l : List (Str × Nat), (∀ e ∈ l, e.2 = 0) → addAll [0] l = [0] := by
    intro l
    induction l with
    | nil => exact fun _ => rfl
    | cons e l ih =>
      intro h
      show addAll (addN [0] e.2) l = [0]
      rw [h e List.mem_cons_self]
      exact ih fun x hx => h x (List.mem_cons_of_mem _ hx)
  have rg : reached [r] = List.range [r].length := by
    show goR [r] 2 0 [0] = [0]
    show goR [r] 1 1 (addAll [0] (rowC [r] 0)) = [0]
    rw [r0, ad r z]; rfl
  have q := least_via (R := fun a b => a = b ∧ b < [r].length) (q := fun i => i) (w := w) ⟨fun a b ⟨e, h⟩ => ⟨e ▸ h, h⟩, fun a b z b' ⟨e, h⟩ q => ⟨b', e ▸ q, rfl, lkp_lt wf q⟩, fun a b z a' ⟨e, h⟩ q r => by rw [e, q] at r; cases r⟩ wf wf okt okt (fun r' hr => by rw [List.mem_singleton.mp hr]; exact ne) rfl (fun i hi => ⟨rfl, hi⟩)
    (fun x y hx hy _ => by simp at hx hy; omega) rg
  exact ⟨q.1, q.2, wf, okt⟩
/-- all signs allowed -/
def freeR (w : Nat) : List (Str × Nat) := (sgs.take w).map fun z => (z, 0)
theorem free_ok {w : Nat} (w2 : 2 ≤ w) (w4 : w ≤ 4) : okR w (freeR w) ∧ freeR w ≠ [] ∧ ∀ e ∈ freeR w, e.2 = 0 := by
  refine ⟨?_, ?_, fun e he => ?_⟩
  · obtain rfl | rfl | rfl : w = 2 ∨ w = 3 ∨ w = 4 := by omega
    all_goals (unfold okR; decide +kernel)
  · obtain rfl | rfl | rfl : w = 2 ∨ w = 3 ∨ w = 4 := by omega
    all_goals (unfold freeR; decide +kernel)
  · obtain ⟨z, _, rfl⟩ := List.mem_map.mp he
    rfl
theorem free_keys (w : Nat) : keysR (freeR w) = sgs.take w := by
  unfold keysR freeR
  rw [List.map_map]
  conv => rhs; rw [← List.map_id (sgs.take w)]
  rfl
theorem free_put {w j : Nat} {z : Str} (h : (sgs.take w)[j]? = some z) : putK (rowK ((freeR w).take j)) (.inr z) (.int ((0 : Nat) : Int)) = rowK ((freeR w).take (j + 1)) := by
  have nz : lkp ((freeR w).take j) z = none := lkp_none fun q => by
    have k : keysR ((freeR w).take j) = (sgs.take w).take j := by
      unfold keysR
      rw [List.map_take]
      exact congrArg (List.take j) (free_keys w)
    rw [k] at q
    obtain ⟨i, hi, e⟩ := List.mem_iff_getElem.mp q
    rw [List.getElem_take] at e
    rw [List.length_take] at hi
    obtain ⟨hj, e2⟩ := List.getElem?_eq_some_iff.mp h
    have nd : (sgs.take w).Nodup := sgs_nd.sublist (List.take_sublist ..)
    have := (List.getElem_inj (h₀ := by omega) (h₁ := hj) nd).mp (e.trans e2.symm)
    omega
  rw [rowK_put nz]
  have : (freeR w)[j]? = some (z, 0) := by unfold freeR; rw [List.getElem?_map, h]; rfl
  rw [List.take_add_one, this]; rfl
def okRowW (z : Str) : Prop := wordD (.str z) = true ∧ z.length ≤ 5000
def spRowW : Sp := fun vs H Q _ => ∃ z : Str, vs = [.str z] ∧ okRowW z ∧ ∀ H', Same H H' → Q (.bl true) H'
/-- walking, being in, and being free -/
structure MedW (K : PySem.W.Frag) (mg : Str → Option Value) (ad : Str → Addr) (fd : Str → FuncData) : Prop where
  F_walk : Fun K "walk" "Medium.walk" sM_walk (ad "Medium.walk") (fd "Medium.walk")
  b_walk : Binds K (fd "Medium.walk") ["self", "row", "state"] []
  m_walk : Meth K (ad "Medium") "walk" (ad "Medium.walk")
  F_con : Fun K "__contains__" "Medium.__contains__" sM_contains (ad "Medium.__contains__") (fd "Medium.__contains__")
  b_con : Binds K (fd "Medium.__contains__") ["self", "x"] []
  con : PySem.W.findIn K (.ref (ad "Medium")) "__contains__" = some (some (.ref (ad "Medium.__contains__")))
  conf : PySem.W.isFn K (.ref (ad "Medium.__contains__")) = true
  F_free : Fun K "free" "Medium.free" sM_free (ad "Medium.free") (fd "Medium.free")
  b_free : Binds K (fd "Medium.free") ["cls", "many"] []
  cr : ∃ mc, ClX.CRead K (ad "Medium") mc ∧ ClX.CMet K (ad "Medium") mc "free" (ad "Medium.free!") (ad "Medium.free") ∧ ∃ u, ClX.CVal K (ad "Medium") mc "LETTERS" (.str "abcd") u
def spMWalk (C : Addr) : Sp := fun vs H Q _ => ∃ (a : Addr) (w : Nat) (c : Ch) (s : Nat) (z : Str), vs = [.ref a, .str z, .int (s : Int)] ∧ MedO C H a w c ∧ WfC c ∧ s < c.length ∧ wordD (.str z) = true ∧ Q (optV (ledS c s z)) H
def spConW (C : Addr) : Sp := fun vs H Q _ => ∃ (a : Addr) (w : Nat) (c : Ch) (z : Str), vs = [.ref a, .str z] ∧ MedO C H a w c ∧ WfC c ∧ okRowW z ∧ ∀ H', Same H H' → Q (.bl (ledS c 0 z).isSome) H'
def spFreeT : Sp := fun vs H Q _ => ∃ (w : Nat) (g : Str), vs = [.str g] ∧ okSg w g ∧ 2 ≤ w ∧ w ≤ 4 ∧ ∀ (D : Addr) (H' : Hp), Same H H' → H D = none → NewT H H' D [freeR w] → Q (.ref D) H'
def spMFree (C : Addr) : Sp := fun vs H Q _ => ∃ w : Nat, vs = [.ref C, .int (w : Int)] ∧ 2 ≤ w ∧ w ≤ 4 ∧ ∀ (x : Addr) (H' : Hp), Same H H' → H x = none → MedO C H' x w [freeR w] → Q (.ref x) H'
theorem fnOk_cx0 {P : Program} {w : World} {K : PySem.W.Frag} {mg : Str → Option Value} {base : Heap} {k : Nat} {f : Addr} {fd : FuncData} {ps : List Str} {sp : Sp} (F : FnOk P w K mg base (L2.CX P w) k f fd ps sp) : FnOk P w K mg base CX0 k f fd ps (fun vs H Q _ => sp vs H Q E0) := by
  refine ⟨fun vs H Q E q => F.len vs H Q E0 q, fun A outer s H args us vs Q E hr he hb hv hs => codeAny_mono (F.run A outer s H args us vs Q E0 hr he hb hv hs) fun r s' q => ?_⟩
  match r, q with
  | .ok (.ret u), q => exact q
  | .error e, q =>
    obtain ⟨a, B, H', cls, d, _, _, _, _, _, _, _, z⟩ := q
    exact z.elim
section
variable {P : Program} {w : World} {K : PySem.W.Frag} {mg : Str → Option Value} {base : Heap} {ad : Str → Addr} {fd : Str → FuncData}
theorem ok_is_rowW (X : Tx K mg ad fd) : FnOk P w K mg base CX0 1 (ad "is_row") (fd "is_row") ["value"] spRowW := by
  obtain ⟨tA, GLOB_ALL_SIGNS⟩ := X.g_ALL_SIGNS
  refine X.F_is_row.ok scIsRow (fun vs H Q E h => ?_) (fun cdv A outer s H vs Q E hr h => ?_)
  · obtain ⟨z, rfl, _⟩ := h
    rfl
  · obtain ⟨z, rfl, hz, k⟩ := h
    refine ⟨_, (pss_one (ps_ret (by exact (pe_and (pe_callB call_isi (by rfl) X.m_isinstance (by decide +kernel) (pa_cons (pv 0) (pa_cons (pe_bltn (v := .ty "str") (by rfl) X.m_str (by decide +kernel) rfl) pa_nil))) (pe_one (pe_callB (cr_all rfl) (by rfl) X.m_all (by decide +kernel) (pa_cons (pe_lc (own := [("sign", 1)]) (g := gName 1) rfl scIsRow.nd (pi_str (pv 0)) (blkOk_by (own := [("sign", 1)]) (N := ["value", "sign"]) (sc := defScope sIsRow) (by decide +kernel)) (fun _ _ _ _ _ => pg_name (i := 1) scIsRow.nd rfl (Or.inl rfl)) (fun _ _ _ _ _ => pts_nil) (fun _ _ _ _ _ => (pe_cmpR op_in_sign (pv 1) (pe_glob (v := .str "abcd") (by rfl) GLOB_ALL_SIGNS ⟨_, rfl⟩) rfl))) pa_nil))))))), ?_⟩
    refine ⟨.str z, rfl, .str z, .ty "str", _, _, _, rfl, .ty _, dx_ty (.str z), kit_ty (kit_s (.str z)), _, rfl, .str z, rfl, z, rfl, fun D hD => ?_⟩
    refine lc_it (w := walk_str (z := z)) (g := gName 1) (tt := tYes) (fun i H' => Same H H' ∧ H' D = some (.lst (((z.cps.toList.take i).map sgn).map V.bl))) ⟨Same.new hD, upd_same⟩ (fun _ _ _ _ => True.intro) (fun i x H' H2 hi hP hy => ?_) (fun H' hP => ?_)
    · obtain ⟨hs, eD⟩ := hP
      obtain ⟨rfl, c, hc, rfl⟩ := hy
      have hc' : z.cps.toList[i]? = some c := by rw [Array.getElem?_toList]; exact hc
      have lz : z.cps.size ≤ 5000 := hz.2
      refine ⟨rfl, .str ⟨#[c]⟩, rfl, c, "abcd", rfl, rfl, _, eD, ?_, ?_, ?_⟩
      · rw [List.length_map, List.length_map, List.length_take, sizeLine_eq]
        omega
      · intro b o e
        rw [upd_ne (ne_of_none e hD)]
        exact hs b o e
      · rw [upd_same, take_snoc hc', List.map_append, List.map_append]
        rfl
    · obtain ⟨hs, eD⟩ := hP
      refine ⟨D, (z.cps.toList.take z.cps.size).map sgn, rfl, SqL.of eD, ?_⟩
      rw [show z.cps.toList.take z.cps.size = z.cps.toList from List.take_of_length_le (by simp)]
      have q' := k H' hs
      have e : (z.cps.toList.map sgn).all id = true := by
        rw [List.all_map]
        exact hz.1
      rw [e]
      exact q'
theorem scM_walk : FnScope ["self", "row", "state"] ["self", "row", "state"] (defScope sM_walk) := ⟨rfl, rfl, rfl, by decide +kernel, rfl, by decide +kernel, by decide +kernel⟩
theorem ok_mwalk (X : Tx K mg ad fd) (M : MedC K mg ad fd) (MW : MedW K mg ad fd) : FnOk P w K mg base CX0 2 (ad "Medium.walk") (fd "Medium.walk") ["self", "row", "state"] (spMWalk (ad "Medium")) := by
  have G_walked := ok_walked (P := P) (w := w) (base := base) X
  refine MW.F_walk.ok scM_walk (fun vs H Q E h => ?_) (fun cdv A outer s H vs Q E hr h => ?_)
  · obtain ⟨a, w, c, st, z, rfl, _⟩ := h
    rfl
  · obtain ⟨a, w, c, st, z, rfl, m, wf, hs, wz, k⟩ := h
    have HR_walked : Room 1 _ := hr
    refine ⟨_, (pss_one (ps_ret (by exact (pe_call G_walked HR_walked (by rfl) X.g_walked X.F_walked.kp X.b_walked .nil pass0 (pa_cons (pe_fld (pv 0) rfl) (pa_cons (pv 1) (pa_cons (pv 2) pa_nil))))))), ?_⟩
    obtain ⟨dx, F, ls, L, ts, e, tb, ld⟩ := id m
    exact ⟨.ref a, rfl, a, _, dx, _, _, rfl, e, M.cl, M.nt, rfl, .str z, rfl, .int (st : Int), rfl, F, ls, c, st, lettersS z, by rw [letters_cat]; rfl, tb, wf, hs, letters_in wz, k⟩
theorem scM_contains : FnScope ["self", "x"] ["self", "x"] (defScope sM_contains) := ⟨rfl, rfl, rfl, by decide +kernel, rfl, by decide +kernel, by decide +kernel⟩
theorem ok_mconW (X : Tx K mg ad fd) (M : MedC K mg ad fd) (MX : MedW K mg ad fd) : FnOk P w K mg base CX0 2 (ad "Medium.__contains__") (fd "Medium.__contains__") ["self", "x"] (spConW (ad "Medium")) := by
  have G_is_row := ok_is_rowW (P := P) (w := w) (base := base) X
  have G_walked := ok_walked (P := P) (w := w) (base := base) X
  refine MX.F_con.ok scM_contains (fun vs H Q E h => ?_) (fun cdv A outer s H vs Q E hr h => ?_)
  · obtain ⟨a, w, c, z, rfl, _⟩ := h
    rfl
  · obtain ⟨a, w, c, z, rfl, m, wf, oz, k⟩ := h
    have HR_is_row : Room 1 _ := hr
    have HR_walked : Room 1 _ := hr
    refine ⟨_, (pss_one (ps_ret (by exact (pe_and (pe_call G_is_row HR_is_row (by rfl) X.g_is_row X.F_is_row.kp X.b_is_row .nil pass0 (pa_cons (pv 1) pa_nil)) (pe_one (pe_cmpR op_notN (pe_call G_walked HR_walked (by rfl) X.g_walked X.F_walked.kp X.b_walked .nil pass0 (pa_cons (pe_fld (pv 0) rfl) (pa_cons (pv 1) (pa_cons pe_int pa_nil)))) pe_non (nomark _))))))), ?_⟩
    obtain ⟨dx, F, ls, L, ts, e, tb, ld⟩ := id m
    refine ⟨.str z, rfl, z, rfl, oz, fun H1 s1 => ⟨_, rfl, iteT ?_⟩⟩
    refine ⟨.ref a, rfl, a, _, dx, _, _, rfl, s1 _ _ e, M.cl, M.nt, rfl, .str z, rfl, F, ls, c, 0, lettersS z, by rw [letters_cat]; rfl, tb.same s1, wf, wf.1, letters_in oz.1, ?_⟩
    refine ⟨rfl, ?_⟩
    have q := k H1 s1
    unfold ledS at q
    cases z : ledL c 0 (lettersS z) with
    | none =>
      rw [z] at q
      rw [decide_eq_true (show optV none = V.non from rfl)]
      exact q
    | some g =>
      rw [z] at q
      rw [decide_eq_false (show ¬ optV (some g) = V.non from fun y => by cases y)]
      exact q
theorem scFreeTable : FnScope ["signs", "sign"] ["signs"] (defScope sFreeTable) := ⟨rfl, rfl, rfl, by decide +kernel, rfl, by decide +kernel, by decide +kernel⟩
theorem ok_free_table (X : Tx K mg ad fd) : FnOk P w K mg base CX0 1 (ad "free_table") (fd "free_table") ["signs"] spFreeT := by
  refine X.F_free_table.ok scFreeTable (fun vs H Q E h => ?_) (fun cdv A outer s H vs Q E hr h => ?_)
  · obtain ⟨w, g, rfl, _⟩ := h
    rfl
  · obtain ⟨w, g, rfl, sg, w2, w4, k⟩ := h
    refine ⟨_, (pss_one (ps_ret (by exact (pe_lst (pa_cons (pe_dc (own := [("sign", 1)]) (g := gName 1) rfl scFreeTable.nd (pi_str (pv 0)) (blkOk_by (own := [("sign", 1)]) (N := ["signs", "sign"]) (sc := defScope sFreeTable) (by decide +kernel)) (fun _ _ _ _ _ => pg_name (i := 1) scFreeTable.nd rfl (Or.inl rfl)) (fun _ _ _ _ _ => pts_nil) (fun _ _ _ _ _ => (pv 1)) (fun _ _ _ _ _ => pe_int)) pa_nil))))), ?_⟩
    have gs := okSg_size sg w4
    refine ⟨.str g, rfl, g, rfl, fun Dd nDd => ?_⟩
    refine dc_it (w := walk_str (z := g)) (fun j H' => Same H H' ∧ H' Dd = some (.dK (rowK ((freeR w).take j)))) ⟨Same.new nDd, upd_same⟩ (fun _ _ _ _ => True.intro) ?_ ?_
    · rintro j x H' H7 hj ⟨sj, eDd⟩ ⟨rfl, cc, hcc, rfl⟩
      have hz := okSg_at sg hcc
      refine gN ⟨rfl, yes_of (iteT ?_)⟩
      refine ⟨.str ⟨#[cc]⟩, rfl, rowK ((freeR w).take j), .inr ⟨#[cc]⟩, rfl, eDd, ?_, ?_, ?_⟩
      · rw [rowK_len, sizeLine_eq, List.length_take]
        have : (freeR w).length = w := by rw [← List.length_map (f := (·.1)) (as := freeR w)]; exact (congrArg List.length (free_keys w)).trans (by rw [List.length_take]; show min w 4 = w; omega)
        omega
      · intro b u eb
        rw [upd_ne (ne_of_none eb nDd)]
        exact sj _ _ eb
      · rw [upd_same]
        exact congrArg (fun q => some (HO.dK q)) (free_put hz)
    · rintro H' ⟨sj, eDd⟩
      have fl : (freeR w).length = w := by rw [← List.length_map (f := (·.1)) (as := freeR w)]; exact (congrArg List.length (free_keys w)).trans (by rw [List.length_take]; show min w 4 = w; omega)
      rw [gs, List.take_of_length_le (by omega)] at eDd
      refine ⟨sz1, fun D nD => ?_⟩
      refine k D _ (Same.trans sj (Same.new nD)) (none_back sj nD) ⟨[Dd], upd_same, rfl, fun i d hd => ?_⟩
      cases i with
      | zero =>
        cases hd
        exact ⟨nDd, by rw [upd_ne (fun z => by rw [z, nD] at eDd; cases eDd)]; exact eDd⟩
      | succ i => cases hd
theorem scM_free : FnScope ["cls", "many"] ["cls", "many"] (defScope sM_free) := ⟨rfl, rfl, rfl, by decide +kernel, rfl, by decide +kernel, by decide +kernel⟩
theorem ok_mfree (X : Tx K mg ad fd) (M : MedC K mg ad fd) (MW : MedW K mg ad fd) {N W fW : Addr} (L_N : ErrN K mg "NothingLeft" N) (L_W : ErrW K mg "TooMany" W fW) : FnOk P w K mg base CX0 7 (ad "Medium.free") (fd "Medium.free") ["cls", "many"] (spMFree (ad "Medium")) := by
  have G_check_many := ok_check_many (P := P) (w := w) (base := base) X
  have G_free_table := ok_free_table (P := P) (w := w) (base := base) X
  have G_init := fnOk_cx0 (ok_minit (P := P) (w := w) (base := base) X M L_N L_W)
  refine MW.F_free.ok scM_free (fun vs H Q E h => ?_) (fun cdv A outer s H vs Q E hr h => ?_)
  · obtain ⟨wd, rfl, _⟩ := h
    rfl
  · obtain ⟨wd, rfl, w2, w4, k⟩ := h
    have HR_check_many : Room 3 _ := hr.mono (by decide)
    have HR_free_table : Room 1 _ := hr.mono (by decide)
    have HR_init : Room 6 _ := hr
    obtain ⟨mc, cr, cm, ul, cl_⟩ := MW.cr
    refine ⟨_, (pss_cons (ps_expr (by exact (pe_call G_check_many HR_check_many (by rfl) X.g_check_many X.F_check_many.kp X.b_check_many .nil pass0 (pa_cons (pv 1) pa_nil))))
  (pss_one (ps_ret (by exact (pe_makeL M.mks G_init HR_init (pv 0) M.b_init .nil pass0 (pa_cons (pv 1) (pa_cons (pe_lock (pe_call G_free_table HR_free_table (by rfl) X.g_free_table X.F_free_table.kp X.b_free_table .nil pass0 (pa_cons (pe_slice sl_str (ClX.pe_cval (pv 0)) po_none (po_some (pv 1))) pa_nil))) pa_nil))))))), ?_⟩
    obtain ⟨fo, fn, fz⟩ := free_ok w2 w4
    obtain ⟨le, lv, wf, okt⟩ := one_least fo fn fz
    refine ⟨.int (wd : Int), rfl, (wd : Int), rfl, by omega, by omega, ?_⟩
    refine ⟨.ref (ad "Medium"), rfl, rfl, .int (wd : Int), rfl, .ref (ad "Medium"), rfl, ad "Medium", mc, .str "abcd", ul, rfl, cr, cl_, .int (wd : Int), rfl, (wd : Int), rfl, "abcd", rfl, abcd_len, wd, _, rfl, cut_let w2 w4, w2, w4, fun D H1 s1 nD nt => ⟨fun b => H b = none, fun H2 L2 => fun x dx nx ndx ne => ?_⟩⟩
    obtain ⟨ls, tb⟩ := nt.lock L2
    have s2 := L2.same s1
    have sx : Same H2 (upd (upd H2 dx (.own x)) x (.ins (ad "Medium") dx [])) := fun b o e => by rw [upd_ne (ne_of_none e nx), upd_ne (ne_of_none e ndx)]; exact e
    refine ⟨x, dx, D, ls, [freeR wd], wd, rfl, upd_same, w2, w4, (tb.same sx).toP, wf, okt, (by show 1 ≤ 64; decide), fun l => (by rw [lv] at l; cases l), fun l l16 => absurd l16 (by rw [le]; show ¬ 16 < 1; decide), fun l l16 H' b mo => ⟨rfl, ?_⟩⟩
    rw [le] at mo
    exact k x H' (fun b' o e => b _ _ (ne_of_none (s2 _ _ e) nx) (sx _ _ (s2 _ _ e))) (none_back s2 nx) mo
end
end K88
end

section
set_option maxHeartbeats 4000000
/-! texts as lists of signs; marks, their beginnings at a text's end -/
namespace K88
open PySem PySem.Spec PyProof.Rows L2
abbrev NL := List Nat
def cl (z : Str) : NL := z.cps.toList
def sl (l : NL) : Str := ⟨l.toArray⟩
theorem cl_sl (l : NL) : cl (sl l) = l := rfl
theorem sl_cl (z : Str) : sl (cl z) = z := rfl
theorem cl_len (z : Str) : (cl z).length = z.length := Array.length_toList ..
theorem sl_len (l : NL) : (sl l).length = l.length := List.size_toArray ..
theorem cl_ext {a b : Str} (h : cl a = cl b) : a = b := by rw [← sl_cl a, ← sl_cl b, h]
theorem cl_app (a b : Str) : cl (a ++ b) = cl a ++ cl b := by
  show (a.cps ++ b.cps).toList = _
  exact Array.toList_append ..
theorem sl_app (a b : NL) : sl (a ++ b) = sl a ++ sl b := cl_ext (by rw [cl_app, cl_sl, cl_sl, cl_sl])
theorem sub_at (x y : Str) (i : Nat) : Builtin.Str.subAt x y i = true ↔ ((cl x).drop i).take (cl y).length = cl y := by
  rw [StrLaws.subAt_eq, beq_iff_eq, ← cl_len]; rfl
theorem infix_iff {x y : NL} : y <:+: x ↔ ∃ i, i + y.length ≤ x.length ∧ (x.drop i).take y.length = y := by
  constructor
  · rintro ⟨a, b, rfl⟩
    refine ⟨a.length, by simp, ?_⟩
    rw [List.append_assoc, List.drop_left, List.take_left]
  · rintro ⟨i, _, h⟩
    refine ⟨x.take i, (x.drop i).drop y.length, ?_⟩
    rw [List.append_assoc]
    conv => lhs; rw [← h]
    rw [h, show y ++ List.drop y.length (List.drop i x) = List.drop i x by conv => rhs; rw [← List.take_append_drop y.length (List.drop i x), h]]
    exact List.take_append_drop i x
theorem in_iff (x y : Str) : (!(Builtin.Str.occurrences x y 0 x.length 1).isEmpty) = true ↔ cl y <:+: cl x := by
  rw [StrLaws.found_iff, infix_iff]
  constructor
  · rintro ⟨i, h1, h2⟩
    exact ⟨i, by rw [cl_len, cl_len]; exact h1, (sub_at x y i).mp h2⟩
  · rintro ⟨i, h1, h2⟩
    exact ⟨i, by rw [← cl_len, ← cl_len]; exact h1, (sub_at x y i).mpr h2⟩
theorem starts_iff (x y : Str) : Txt.startswith x y = true ↔ cl y <+: cl x := by
  unfold Txt.startswith
  rw [Bool.and_eq_true, decide_eq_true_eq, sub_at, List.drop_zero, ← cl_len, ← cl_len, List.prefix_iff_eq_take]
  constructor
  · rintro ⟨_, h⟩; exact h.symm
  · intro h
    refine ⟨?_, h.symm⟩
    have := congrArg List.length h
    rw [List.length_take] at this
    omega
theorem ends_iff (x y : Str) : Txt.endswith x y = true ↔ cl y <:+ cl x := by
  unfold Txt.endswith
  rw [Bool.and_eq_true, decide_eq_true_eq, sub_at, ← cl_len, ← cl_len, List.suffix_iff_eq_drop]
  constructor
  · rintro ⟨l, h⟩
    rw [List.take_of_length_le (by rw [List.length_drop]; omega)] at h
    exact h.symm
  · intro h
    have := congrArg List.length h
    rw [List.length_drop] at this
    refine ⟨by omega, ?_⟩
    rw [List.take_of_length_le (by rw [List.length_drop]; omega)]
    exact h.symm
/-! ### the longest end of x that begins m -/
def bord (m : NL) : NL → NL
  | [] => []
  | a :: x => if (a :: x) <+: m then a :: x else bord m x
theorem bord_suf (m : NL) : ∀ x, bord m x <:+ x
  | [] => List.suffix_refl _
  | a :: x => by
    unfold bord
    split
    · exact List.suffix_refl _
    · exact (bord_suf m x).trans (List.suffix_cons a x)
theorem bord_pre (m : NL) : ∀ x, bord m x <+: m
  | [] => List.nil_prefix
  | a :: x => by
    unfold bord
    split
    · assumption
    · exact bord_pre m x
theorem bord_max (m : NL) : ∀ (x : NL) {s : NL}, s <:+ x → s <+: m → s <:+ bord m x
  | [], s, h, _ => h
  | a :: x, s, h, p => by
    unfold bord
    rcases List.suffix_cons_iff.mp h with e | h2
    · subst e
      rw [if_pos p]
      exact List.suffix_refl _
    · split
      · exact h
      · exact bord_max m x h2 p
theorem suf_eq {a b x : NL} (ha : a <:+ x) (hb : b <:+ x) (h : a.length = b.length) : a = b := by
  rw [List.suffix_iff_eq_drop.mp ha, List.suffix_iff_eq_drop.mp hb, h]
theorem pre_eq {a b x : NL} (ha : a <+: x) (hb : b <+: x) (h : a.length = b.length) : a = b := by
  rw [List.prefix_iff_eq_take.mp ha, List.prefix_iff_eq_take.mp hb, h]
theorem suf_len {a b x : NL} (ha : a <:+ x) (hb : b <:+ x) (h : a.length ≤ b.length) : a <:+ b := List.suffix_of_suffix_length_le ha hb h
/-- one found it, so it is it -/
theorem bord_eq {m x s : NL} (h1 : s <:+ x) (h2 : s <+: m) (h3 : ∀ t, t <:+ x → t <+: m → t.length ≤ s.length) : bord m x = s :=
  suf_eq (bord_suf m x) h1 (Nat.le_antisymm (h3 _ (bord_suf m x) (bord_pre m x)) (bord_max m x h1 h2).length_le)
theorem suf_snoc {s x : NL} {a : Nat} (h : s <:+ x ++ [a]) : s = [] ∨ ∃ t, s = t ++ [a] ∧ t <:+ x := by
  rcases List.eq_nil_or_concat s with e | ⟨t, b, e⟩
  · exact .inl e
  · obtain ⟨u, hu⟩ := h
    subst e
    rw [List.concat_eq_append, ← List.append_assoc] at hu
    obtain ⟨h1, h2⟩ := List.append_inj' hu rfl
    cases h2
    exact .inr ⟨t, List.concat_eq_append .., u, h1⟩
theorem snoc_suf {t x : NL} {a : Nat} (h : t <:+ x) : t ++ [a] <:+ x ++ [a] := by
  obtain ⟨u, rfl⟩ := h
  exact ⟨u, by rw [List.append_assoc]⟩
theorem pre_of_snoc {t m : NL} {a : Nat} (h : t ++ [a] <+: m) : t <+: m := (List.prefix_append t [a]).trans h
theorem bord_step (m x : NL) (a : Nat) : bord m (x ++ [a]) = bord m (bord m x ++ [a]) := by
  refine bord_eq ?_ (bord_pre ..) fun t h1 h2 => ?_
  · exact (bord_suf ..).trans (snoc_suf (bord_suf m x))
  · rcases suf_snoc h1 with e | ⟨s, rfl, hs⟩
    · subst e; exact Nat.zero_le _
    · exact (bord_max m _ (snoc_suf (bord_max m x hs (pre_of_snoc h2))) h2).length_le
/-- less than all of m, where m isn't in x -/
theorem bord_lt {m x : NL} (h : ¬ m <:+: x) : (bord m x).length < m.length := by
  have h1 := (bord_pre m x).length_le
  rcases Nat.lt_or_ge (bord m x).length m.length with q | q
  · exact q
  · exact absurd ((List.IsPrefix.eq_of_length (bord_pre m x) (by omega)) ▸ (bord_suf m x).isInfix) h
theorem infix_snoc {m x : NL} {a : Nat} (h : m <:+: x ++ [a]) : m <:+: x ∨ m <:+ x ++ [a] := by
  obtain ⟨u, v, e⟩ := h
  rcases List.eq_nil_or_concat v with q | ⟨v', b, q⟩
  · subst q
    exact .inr ⟨u, by rw [← e, List.append_nil]⟩
  · subst q
    rw [List.concat_eq_append, ← List.append_assoc] at e
    obtain ⟨h1, _⟩ := List.append_inj' e rfl
    exact .inl ⟨u, v', h1⟩
/-- the next sign ends m just where it ends what has begun -/
theorem end_iff {m x : NL} {a : Nat} (hm : m ≠ []) (h : ¬ m <:+: x) : m <:+ x ++ [a] ↔ bord m x ++ [a] = m := by
  constructor
  · intro q
    rcases suf_snoc q with e | ⟨s, e, hs⟩
    · exact absurd e hm
    · have p : s <+: m := e ▸ List.prefix_append s [a]
      have s1 := bord_max m x hs p
      have l1 := s1.length_le
      have l2 := bord_lt h
      have l3 : m.length = s.length + 1 := by rw [e]; simp
      rw [← suf_eq (hs) (bord_suf m x) (by omega), ← e]
  · intro q
    have z := snoc_suf (a := a) (bord_suf m x)
    rwa [q] at z
theorem not_in_snoc {m x : NL} {a : Nat} (hm : m ≠ []) (h : ¬ m <:+: x) (q : bord m x ++ [a] ≠ m) : ¬ m <:+: x ++ [a] := fun z => by
  rcases infix_snoc z with z | z
  · exact h z
  · exact q ((end_iff hm h).mp z)
/-- m behind x is the first m -/
def firstAt (m b : NL) : Prop := ¬ m <:+: (b ++ m).dropLast
theorem drop_last {b m : NL} (hm : m ≠ []) : (b ++ m).dropLast = b ++ m.dropLast := List.dropLast_append_of_ne_nil hm
theorem first_iff {m x : NL} (hm : m ≠ []) (h : ¬ m <:+: x) : firstAt m x ↔ firstAt m (bord m x) := by
  unfold firstAt
  rw [drop_last hm, drop_last hm]
  refine not_congr ⟨fun q => ?_, fun q => ?_⟩
  · obtain ⟨a, b', e⟩ := q
    have le := congrArg List.length e
    simp only [List.length_append, List.length_dropLast] at le
    have m1 : 1 ≤ m.length := List.length_pos_iff.mpr hm
    have ax : a.length < x.length + 1 := by
      by_cases c : a.length ≤ x.length
      · omega
      · omega
    have al : a.length ≤ x.length := by omega
    have a2 : a = x.take a.length := by
      have := congrArg (List.take a.length) e
      rw [List.append_assoc, List.take_left, List.take_append_of_le_length al] at this
      exact this
    have d2 : m ++ b' = x.drop a.length ++ m.dropLast := by
      have := congrArg (List.drop a.length) e
      rw [List.append_assoc, List.drop_left, List.drop_append_of_le_length al] at this
      exact this
    by_cases c : m.length ≤ (x.drop a.length).length
    · refine absurd ⟨a, (x.drop a.length).drop m.length, ?_⟩ h
      have e3 : m = (x.drop a.length).take m.length := by
        have := congrArg (List.take m.length) d2
        rw [List.take_left, List.take_append_of_le_length c] at this
        exact this
      conv => lhs; rw [List.append_assoc]; lhs; rw [a2]
      have e4 : m ++ List.drop m.length (List.drop a.length x) = List.drop a.length x := by
        conv => lhs; lhs; rw [e3]
        exact List.take_append_drop ..
      rw [e4]
      exact List.take_append_drop ..
    · have sp : x.drop a.length <+: m := by
        refine List.prefix_iff_eq_take.mpr ?_
        have := congrArg (List.take (x.drop a.length).length) d2
        rw [List.take_left, List.take_append_of_le_length (by omega)] at this
        exact this.symm
      obtain ⟨t, ht⟩ := bord_max m x (List.drop_suffix a.length x) sp
      exact ⟨t, b', by rw [List.append_assoc, d2, ← ht, List.append_assoc]⟩
  · obtain ⟨t, ht⟩ := bord_suf m x
    obtain ⟨a, b, e⟩ := q
    exact ⟨t ++ a, b, by rw [← ht, List.append_assoc, List.append_assoc, List.append_assoc, ← e, List.append_assoc]⟩
theorem first_no {m x : NL} (hm : m ≠ []) (h : firstAt m x) : ¬ m <:+: x := fun ⟨a, b, e⟩ => h (by
  rw [drop_last hm]
  exact ⟨a, b ++ m.dropLast, by rw [← e]; simp only [List.append_assoc]⟩)
theorem drop_dl {l y : NL} {k : Nat} (h : k + y.length ≤ l.dropLast.length) : (l.dropLast.drop k).take y.length = (l.drop k).take y.length := by
  rw [List.length_dropLast] at h
  rw [List.dropLast_eq_take, List.drop_take, List.take_take, Nat.min_eq_left (by omega)]
/-- where find finds it -/
theorem find_first {b m : Str} (hm : cl m ≠ []) : Txt.find (b ++ m) m = (b.length : Int) ↔ firstAt (cl m) (cl b) := by
  have at_ : ∀ i, StrLaws.At (b ++ m) m (b ++ m).length i ↔ i + (cl m).length ≤ (cl b ++ cl m).length ∧ ((cl b ++ cl m).drop i).take (cl m).length = cl m := fun i => by
    unfold StrLaws.At
    rw [sub_at, ← cl_len, ← cl_len, cl_app]
  have hb : StrLaws.At (b ++ m) m (b ++ m).length b.length := by
    rw [at_, ← cl_len, List.drop_left, List.take_length, List.length_append]
    exact ⟨by omega, rfl⟩
  have m1 : 1 ≤ (cl m).length := List.length_pos_iff.mpr hm
  have fi : firstAt (cl m) (cl b) ↔ ∀ k, k < b.length → ¬ StrLaws.At (b ++ m) m (b ++ m).length k := by
    unfold firstAt
    rw [infix_iff]
    constructor
    · intro h k hk q
      obtain ⟨_, q2⟩ := (at_ k).mp q
      have l1 : k + (cl m).length ≤ (cl b ++ cl m).dropLast.length := by rw [List.length_dropLast, List.length_append, cl_len b]; omega
      exact h ⟨k, l1, (drop_dl l1).trans q2⟩
    · rintro h ⟨k, h1, h2⟩
      have l1 := h1
      rw [List.length_dropLast, List.length_append, cl_len b] at h1
      exact h k (by omega) ((at_ k).mpr ⟨by rw [List.length_append, cl_len b]; omega, (drop_dl l1).symm.trans h2⟩)
  unfold Txt.find
  rcases StrLaws.occ_head (b ++ m) m 1 (Nat.le_refl _) with ⟨_, no⟩ | ⟨i, r, e, h1, h2⟩
  · exact absurd hb (no _)
  · rw [e, fi]
    show (i : Int) = (b.length : Int) ↔ _
    constructor
    · intro q
      obtain rfl : i = b.length := by omega
      exact h2
    · intro q
      rcases Nat.lt_trichotomy i b.length with l | l | l
      · exact absurd h1 (q i l)
      · rw [l]
      · exact absurd hb (h2 _ l)
end K88
end

section
set_option maxHeartbeats 4000000
/-! a search in breadth: the least text, by length, then by signs -/
namespace K88
open PySem PySem.Spec PyProof.Rows L2
def lexlt : NL → NL → Prop
  | [], _ :: _ => True
  | a :: x, b :: y => a < b ∨ (a = b ∧ lexlt x y)
  | _, [] => False
/-- ahead, by length, then by signs -/
def tlt (x y : NL) : Prop := x.length < y.length ∨ (x.length = y.length ∧ lexlt x y)
theorem lex_snoc : ∀ {x y : NL} (a b : Nat), x.length = y.length → lexlt x y → lexlt (x ++ [a]) (y ++ [b])
  | [], [], _, _, _, h => by cases h
  | [], _ :: _, _, _, l, _ => by cases l
  | _ :: _, [], _, _, l, _ => by cases l
  | c :: x, d :: y, a, b, l, h => by
    rcases h with h | ⟨e, h⟩
    · exact .inl h
    · exact .inr ⟨e, lex_snoc a b (by simpa using l) h⟩
theorem lex_last : ∀ (x : NL) {a b : Nat}, a < b → lexlt (x ++ [a]) (x ++ [b])
  | [], _, _, h => .inl h
  | _ :: x, _, _, h => .inr ⟨rfl, lex_last x h⟩
theorem lex_trans : ∀ {x y z : NL}, lexlt x y → lexlt y z → lexlt x z
  | [], _ :: _, _ :: _, _, _ => True.intro
  | [], [], _, h, _ => by cases h
  | _ :: _, [], _, h, _ => by cases h
  | _, _ :: _, [], _, h => by cases h
  | a :: x, b :: y, c :: z, h, k => by
    rcases h with h | ⟨rfl, h⟩
    · rcases k with k | ⟨rfl, k⟩
      · exact .inl (Nat.lt_trans h k)
      · exact .inl h
    · rcases k with k | ⟨rfl, k⟩
      · exact .inl k
      · exact .inr ⟨rfl, lex_trans h k⟩
theorem lex_irrefl : ∀ (x : NL), ¬ lexlt x x
  | [], h => by cases h
  | a :: x, h => by
    rcases h with h | ⟨_, h⟩
    · omega
    · exact lex_irrefl x h
theorem tlt_snoc {x y : NL} (a b : Nat) (h : tlt x y) : tlt (x ++ [a]) (y ++ [b]) := by
  rcases h with h | ⟨l, h⟩
  · exact .inl (by simp; omega)
  · exact .inr ⟨by simp [l], lex_snoc a b l h⟩
theorem tlt_last (x : NL) {a b : Nat} (h : a < b) : tlt (x ++ [a]) (x ++ [b]) := .inr ⟨by simp, lex_last x h⟩
theorem tlt_trans {x y z : NL} (h : tlt x y) (k : tlt y z) : tlt x z := by
  rcases h with h | ⟨l, h⟩
  · rcases k with k | ⟨l2, k⟩
    · exact .inl (Nat.lt_trans h k)
    · exact .inl (by omega)
  · rcases k with k | ⟨l2, k⟩
    · exact .inl (by omega)
    · exact .inr ⟨by omega, lex_trans h k⟩
theorem tlt_irrefl (x : NL) : ¬ tlt x x := fun h => by
  rcases h with h | ⟨_, h⟩
  · omega
  · exact lex_irrefl x h
def tle (x y : NL) : Prop := tlt x y ∨ x = y
theorem tle_trans {x y z : NL} (h : tle x y) (k : tle y z) : tle x z := by
  rcases h with h | rfl
  · rcases k with k | rfl
    · exact .inl (tlt_trans h k)
    · exact .inl h
  · exact k
theorem tle_lt {x y : NL} (h : tle x y) : ¬ tlt y x := fun k => by
  rcases h with h | rfl
  · exact tlt_irrefl _ (tlt_trans h k)
  · exact tlt_irrefl _ k
theorem tle_snoc {x y : NL} (a : Nat) (h : tle x y) : tle (x ++ [a]) (y ++ [a]) := by
  rcases h with h | rfl
  · exact .inl (tlt_snoc a a h)
  · exact .inr rfl
theorem tle_pre {t p x : NL} (h : tle t p) (k : p <+: x) : tle t x := by
  obtain ⟨s, rfl⟩ := k
  cases s with
  | nil => rw [List.append_nil]; exact h
  | cons a s =>
    left; left
    have : t.length ≤ p.length := by
      rcases h with (h | h) | h
      · omega
      · omega
      · rw [h]; exact Nat.le_refl _
    simp; omega
section
variable {α : Type} [DecidableEq α]
abbrev Ord (α : Type) := List (α × NL)
def addO (t : NL) (o : Ord α) (e : Nat × α) : Ord α := if e.2 ∈ o.map (·.1) then o else o ++ [(e.2, t ++ [e.1])]
def addAllO (t : NL) (o : Ord α) (l : List (Nat × α)) : Ord α := l.foldl (addO t) o
def bfsO (steps : α → List (Nat × α)) (acc : α → Bool) : Nat → Nat → Ord α → Option NL
  | 0, _, _ => none
  | f + 1, i, o => match o[i]? with
    | none => none
    | some (u, t) => if acc u then some t else bfsO steps acc f (i + 1) (addAllO t o (steps u))
inductive Runs (steps : α → List (Nat × α)) (st : α) : NL → α → Prop
  | nil : Runs steps st [] st
  | snoc {x : NL} {u v : α} {a : Nat} (h : Runs steps st x u) (m : (a, v) ∈ steps u) : Runs steps st (x ++ [a]) v
variable {steps : α → List (Nat × α)} {acc : α → Bool} {st : α}
/-- the first i are done, and of the next one the steps in p -/
structure InvO (steps : α → List (Nat × α)) (acc : α → Bool) (st : α) (i : Nat) (p : List (Nat × α)) (o : Ord α) : Prop where
  run : ∀ e ∈ o, Runs steps st e.2 e.1
  nd : (o.map (·.1)).Nodup
  inc : o.Pairwise fun e f => tlt e.2 f.2
  hd : o[0]? = some (st, [])
  clo : ∀ j e, o[j]? = some e → ∀ g, (j < i ∧ g ∈ steps e.1) ∨ (j = i ∧ g ∈ p) → ∃ t', (g.2, t') ∈ o ∧ tle t' (e.2 ++ [g.1])
  src : ∀ e ∈ o, e.2 = [] ∨ ∃ j f g, o[j]? = some f ∧ e.2 = f.2 ++ [g] ∧ (j < i ∨ (j = i ∧ ∃ v, (g, v) ∈ p))
  no : ∀ j e, j < i → o[j]? = some e → acc e.1 = false
theorem InvO.start : InvO steps acc st 0 [] [(st, [])] where
  run := fun e h => by cases List.mem_singleton.mp h; exact .nil
  nd := List.nodup_cons.mpr ⟨List.not_mem_nil, List.nodup_nil⟩
  inc := List.pairwise_singleton ..
  hd := rfl
  clo := fun j e _ g h => by
    rcases h with ⟨h, _⟩ | ⟨_, h⟩
    · omega
    · cases h
  src := fun e h => by cases List.mem_singleton.mp h; exact .inl rfl
  no := fun j e h => by omega
theorem InvO.next {i : Nat} {p : List (Nat × α)} {o : Ord α} (I : InvO steps acc st i p o) {u : α} {t : NL} (e0 : o[i]? = some (u, t)) (e1 : p = steps u) (a : acc u = false) : InvO steps acc st (i + 1) [] o where
  run := I.run
  nd := I.nd
  inc := I.inc
  hd := I.hd
  clo := fun j e h g q => by
    rcases q with ⟨q, m⟩ | ⟨_, m⟩
    · by_cases c : j < i
      · exact I.clo j e h g (.inl ⟨c, m⟩)
      · obtain rfl : j = i := by omega
        rw [e0] at h
        cases h
        exact I.clo _ _ e0 g (.inr ⟨rfl, e1 ▸ m⟩)
    · cases m
  src := fun e h => by
    rcases I.src e h with q | ⟨j, f, g, h1, h2, h3⟩
    · exact .inl q
    · refine .inr ⟨j, f, g, h1, h2, .inl ?_⟩
      rcases h3 with h3 | ⟨h3, _⟩ <;> omega
  no := fun j e q h => by
    by_cases c : j < i
    · exact I.no j e c h
    · obtain rfl : j = i := by omega
      rw [e0] at h
      cases h
      exact a
theorem InvO.add {i : Nat} {p : List (Nat × α)} {o : Ord α} (I : InvO steps acc st i p o) {u : α} {t : NL} (e0 : o[i]? = some (u, t)) {g : Nat × α} (hg : g ∈ steps u) (lt : ∀ q ∈ p, q.1 < g.1) :
    InvO steps acc st i (p ++ [g]) (addO t o g) ∧ (addO t o g)[i]? = some (u, t) := by
  have li : i < o.length := (List.getElem?_eq_some_iff.mp e0).1
  unfold addO
  split
  · rename_i h
    refine ⟨⟨I.run, I.nd, I.inc, I.hd, fun j e h1 g' q => ?_, fun e h1 => ?_, I.no⟩, e0⟩
    · rcases q with q | ⟨q, m⟩
      · exact I.clo j e h1 g' (.inl q)
      · rcases List.mem_append.mp m with m | m
        · exact I.clo j e h1 g' (.inr ⟨q, m⟩)
        · cases List.mem_singleton.mp m
          subst q
          rw [e0] at h1
          cases h1
          obtain ⟨⟨v, t'⟩, hm, ev⟩ := List.mem_map.mp h
          simp only at ev
          subst ev
          refine ⟨t', hm, .inl ?_⟩
          rcases I.src _ hm with q | ⟨k, f, b, h2, h3, h4⟩
          · simp only at q
            rw [q]; exact .inl (by simp)
          · simp only at h3
            rw [h3]
            rcases h4 with h4 | ⟨h4, v', h5⟩
            · refine tlt_snoc _ _ ?_
              have := List.pairwise_iff_getElem.mp I.inc k j (by omega) li h4
              rw [(List.getElem?_eq_some_iff.mp h2).2, (List.getElem?_eq_some_iff.mp e0).2] at this
              exact this
            · subst h4
              rw [e0] at h2
              cases h2
              exact tlt_last _ (lt _ h5)
    · rcases I.src e h1 with q | ⟨j, f, b, h2, h3, h4⟩
      · exact .inl q
      · refine .inr ⟨j, f, b, h2, h3, ?_⟩
        rcases h4 with h4 | ⟨h4, v, h5⟩
        · exact .inl h4
        · exact .inr ⟨h4, v, List.mem_append_left _ h5⟩
  · rename_i h
    have up : ∀ {j : Nat} {e : α × NL}, o[j]? = some e → (o ++ [(g.2, t ++ [g.1])])[j]? = some e := fun {j e} q => by
      rw [List.getElem?_append_left (List.getElem?_eq_some_iff.mp q).1]; exact q
    have dn : ∀ {j : Nat} {e : α × NL}, j ≤ i → (o ++ [(g.2, t ++ [g.1])])[j]? = some e → o[j]? = some e := fun {j e} hj q => by
      rw [List.getElem?_append_left (by omega)] at q; exact q
    have less : ∀ e ∈ o, tlt e.2 (t ++ [g.1]) := fun e he => by
      rcases I.src e he with q | ⟨k, f, b, h2, h3, h4⟩
      · rw [q]; exact .inl (by simp)
      · rw [h3]
        rcases h4 with h4 | ⟨h4, v', h5⟩
        · refine tlt_snoc _ _ ?_
          have := List.pairwise_iff_getElem.mp I.inc k i (by omega) li h4
          rw [(List.getElem?_eq_some_iff.mp h2).2, (List.getElem?_eq_some_iff.mp e0).2] at this
          exact this
        · subst h4
          rw [e0] at h2
          cases h2
          exact tlt_last _ (lt _ h5)
    have ru := I.run _ (List.mem_of_getElem? e0)
    refine ⟨⟨fun e h1 => ?_, ?_, ?_, up I.hd, fun j e h1 g' q => ?_, fun e h1 => ?_, fun j e h1 h2 => I.no j e h1 (dn (by omega) h2)⟩, up e0⟩
    · rcases List.mem_append.mp h1 with h1 | h1
      · exact I.run e h1
      · cases List.mem_singleton.mp h1
        exact .snoc ru hg
    · rw [List.map_append]
      refine List.nodup_append.mpr ⟨I.nd, List.nodup_cons.mpr ⟨List.not_mem_nil, List.nodup_nil⟩, fun x hx y hy => ?_⟩
      cases List.mem_singleton.mp hy
      exact fun e => h (by have e2 : x = g.2 := e; rw [← e2]; exact hx)
    · exact List.pairwise_append.mpr ⟨I.inc, List.pairwise_singleton .., fun x hx y hy => by cases List.mem_singleton.mp hy; exact less x hx⟩
    · rcases q with ⟨q, m⟩ | ⟨q, m⟩
      · obtain ⟨t', h2, h3⟩ := I.clo j e (dn (by omega) h1) g' (.inl ⟨q, m⟩)
        exact ⟨t', List.mem_append_left _ h2, h3⟩
      · rcases List.mem_append.mp m with m | m
        · obtain ⟨t', h2, h3⟩ := I.clo j e (dn (by omega) h1) g' (.inr ⟨q, m⟩)
          exact ⟨t', List.mem_append_left _ h2, h3⟩
        · cases List.mem_singleton.mp m
          subst q
          have := dn (Nat.le_refl _) h1
          rw [e0] at this
          cases this
          exact ⟨_, List.mem_append_right _ (List.mem_singleton.mpr rfl), .inr rfl⟩
    · rcases List.mem_append.mp h1 with h1 | h1
      · rcases I.src e h1 with q | ⟨j, f, b, h2, h3, h4⟩
        · exact .inl q
        · refine .inr ⟨j, f, b, up h2, h3, ?_⟩
          rcases h4 with h4 | ⟨h4, v, h5⟩
          · exact .inl h4
          · exact .inr ⟨h4, v, List.mem_append_left _ h5⟩
      · cases List.mem_singleton.mp h1
        exact .inr ⟨i, _, g.1, up e0, rfl, .inr ⟨rfl, g.2, List.mem_append_right _ (List.mem_singleton.mpr rfl)⟩⟩
theorem InvO.all {i : Nat} {u : α} {t : NL} (a : acc u = false) (srt : (steps u).Pairwise fun e f => e.1 < f.1) : ∀ (r p : List (Nat × α)) (o : Ord α), p ++ r = steps u → InvO steps acc st i p o → o[i]? = some (u, t) →
    InvO steps acc st (i + 1) [] (addAllO t o r) ∧ (addAllO t o r)[i]? = some (u, t)
  | [], p, o, e, I, e0 => ⟨I.next e0 (by rw [← e, List.append_nil]) a, e0⟩
  | g :: r, p, o, e, I, e0 => by
    have hg : g ∈ steps u := by rw [← e]; exact List.mem_append_right _ List.mem_cons_self
    have lt : ∀ q ∈ p, q.1 < g.1 := fun q hq => by
      rw [← e] at srt
      exact (List.pairwise_append.mp srt).2.2 q hq g List.mem_cons_self
    obtain ⟨I2, e2⟩ := I.add e0 hg lt
    exact InvO.all a srt r (p ++ [g]) _ (by rw [List.append_assoc]; exact e) I2 e2
/-- a text is no longer than its place -/
theorem InvO.len {i : Nat} {p : List (Nat × α)} {o : Ord α} (I : InvO steps acc st i p o) : ∀ (k : Nat) (e : α × NL), o[k]? = some e → e.2.length ≤ k := fun k => by
  induction k using Nat.strongRecOn with
  | _ k ih =>
    intro e he
    rcases I.src e (List.mem_of_getElem? he) with q | ⟨j, f, g, h1, h2, _⟩
    · rw [q]; exact Nat.zero_le _
    · have lk := (List.getElem?_eq_some_iff.mp he).1
      have lj := (List.getElem?_eq_some_iff.mp h1).1
      have fe : tlt f.2 e.2 := by rw [h2]; exact .inl (by simp)
      rcases Nat.lt_trichotomy j k with l | l | l
      · have := ih j l f h1
        rw [h2, List.length_append]
        show f.2.length + 1 ≤ k
        omega
      · subst l
        rw [he] at h1
        cases h1
        exact absurd fe (tlt_irrefl _)
      · have := List.pairwise_iff_getElem.mp I.inc k j lk lj l
        rw [(List.getElem?_eq_some_iff.mp he).2, (List.getElem?_eq_some_iff.mp h1).2] at this
        exact absurd (tlt_trans this fe) (tlt_irrefl _)
/-- what leads on from the start stands in the order, or goes by what stands there and isn't done -/
theorem InvO.met {i : Nat} {o : Ord α} (I : InvO steps acc st i [] o) {x : NL} {v : α} (h : Runs steps st x v) : (∃ j t, j < i ∧ o[j]? = some (v, t) ∧ tle t x) ∨ ∃ j u t p, i ≤ j ∧ o[j]? = some (u, t) ∧ tle t p ∧ p <+: x := by
  induction h with
  | nil =>
    by_cases c : 0 < i
    · exact .inl ⟨0, [], c, I.hd, .inr rfl⟩
    · exact .inr ⟨0, st, [], [], by omega, I.hd, .inr rfl, List.prefix_refl _⟩
  | @snoc x u v a h m ih =>
    rcases ih with ⟨j, t, hj, e, l⟩ | ⟨j, u', t, p, hj, e, l, pr⟩
    · obtain ⟨t', h1, h2⟩ := I.clo j _ e (a, v) (.inl ⟨hj, m⟩)
      obtain ⟨k, hk⟩ := List.mem_iff_getElem?.mp h1
      have l2 : tle t' (x ++ [a]) := tle_trans h2 (tle_snoc a l)
      by_cases c : k < i
      · exact .inl ⟨k, t', c, hk, l2⟩
      · exact .inr ⟨k, _, t', x ++ [a], by omega, hk, l2, List.prefix_refl _⟩
    · exact .inr ⟨j, u', t, p, hj, e, l, pr.trans (List.prefix_append ..)⟩
theorem bfs_ok (srt : ∀ u, (steps u).Pairwise fun e f => e.1 < f.1) : ∀ (f i : Nat) (o : Ord α), InvO steps acc st i [] o →
    (∀ t, bfsO steps acc f i o = some t → ∃ u, Runs steps st t u ∧ acc u = true ∧ ∀ x v, Runs steps st x v → acc v = true → tle t x)
  | 0, i, o, I, t, h => by cases h
  | f + 1, i, o, I, t, h => by
    unfold bfsO at h
    cases e0 : o[i]? with
    | none => rw [e0] at h; cases h
    | some ut =>
      obtain ⟨u, t0⟩ := ut
      rw [e0] at h
      simp only at h
      by_cases a : acc u = true
      · rw [if_pos a] at h
        cases h
        refine ⟨u, I.run _ (List.mem_of_getElem? e0), a, fun x v hr hv => ?_⟩
        have li : i < o.length := (List.getElem?_eq_some_iff.mp e0).1
        have le : ∀ {j : Nat} {u' : α} {t' : NL}, i ≤ j → o[j]? = some (u', t') → tle t t' := fun {j u' t'} hj ej => by
          by_cases c : j = i
          · subst c
            rw [e0] at ej
            cases ej
            exact .inr rfl
          · have lj : j < o.length := (List.getElem?_eq_some_iff.mp ej).1
            have := List.pairwise_iff_getElem.mp I.inc i j li lj (by omega)
            rw [(List.getElem?_eq_some_iff.mp ej).2, (List.getElem?_eq_some_iff.mp e0).2] at this
            exact .inl this
        rcases I.met hr with ⟨j, t', hj, ej, l⟩ | ⟨j, u', t', p, hj, ej, l, pr⟩
        · rw [I.no j _ hj ej] at hv; cases hv
        · exact tle_pre (tle_trans (le hj ej) l) pr
      · rw [if_neg a] at h
        have a2 : acc u = false := by cases q : acc u with
          | true => exact absurd q a
          | false => rfl
        exact bfs_ok srt f (i + 1) _ (InvO.all a2 (srt u) (steps u) [] o rfl I e0).1 t h
theorem bfs_no (srt : ∀ u, (steps u).Pairwise fun e f => e.1 < f.1) {N : Nat} (bd : ∀ i o, InvO steps acc st i [] o → o.length ≤ N) : ∀ (f i : Nat) (o : Ord α), InvO steps acc st i [] o → N + 1 ≤ f + i →
    bfsO steps acc f i o = none → ∀ x v, Runs steps st x v → acc v = false
  | 0, i, o, I, l, _, x, v, hr => by
    have := bd i o I
    rcases I.met hr with ⟨j, t', hj, ej, _⟩ | ⟨j, u', t', p, hj, ej, _, _⟩
    · exact I.no j _ hj ej
    · have lj : j < o.length := (List.getElem?_eq_some_iff.mp ej).1
      omega
  | f + 1, i, o, I, l, h, x, v, hr => by
    unfold bfsO at h
    cases e0 : o[i]? with
    | none =>
      have := List.getElem?_eq_none_iff.mp e0
      rcases I.met hr with ⟨j, t', hj, ej, _⟩ | ⟨j, u', t', p, hj, ej, _, _⟩
      · exact I.no j _ hj ej
      · have lj : j < o.length := (List.getElem?_eq_some_iff.mp ej).1
        omega
    | some ut =>
      obtain ⟨u, t0⟩ := ut
      rw [e0] at h
      simp only at h
      by_cases a : acc u = true
      · rw [if_pos a] at h; cases h
      · rw [if_neg a] at h
        have a2 : acc u = false := by cases q : acc u with
          | true => exact absurd q a
          | false => rfl
        exact bfs_no srt bd f (i + 1) _ (InvO.all a2 (srt u) (steps u) [] o rfl I e0).1 (by omega) h x v hr
/-- fuel beyond need makes no difference -/
theorem bfs_fuel (srt : ∀ u, (steps u).Pairwise fun e f => e.1 < f.1) {N : Nat} (bd : ∀ i o, InvO steps acc st i [] o → o.length ≤ N) : ∀ (f g i : Nat) (o : Ord α), InvO steps acc st i [] o → N + 1 ≤ f + i → N + 1 ≤ g + i →
    bfsO steps acc f i o = bfsO steps acc g i o := fun f g => by
  have no : ∀ (f i : Nat) (o : Ord α), InvO steps acc st i [] o → N + 1 ≤ i → bfsO steps acc f i o = none := fun f i o I l => by
    have := bd i o I
    cases f with
    | zero => rfl
    | succ f => unfold bfsO; rw [List.getElem?_eq_none_iff.mpr (by omega)]
  induction f generalizing g with
  | zero => exact fun i o I l l2 => (no 0 i o I (by omega)).trans (no g i o I (by omega)).symm
  | succ f ih =>
    intro i o I l l2
    cases g with
    | zero => exact (no _ i o I (by omega)).trans (no 0 i o I (by omega)).symm
    | succ g =>
      unfold bfsO
      cases e0 : o[i]? with
      | none => rfl
      | some ut =>
        obtain ⟨u, t0⟩ := ut
        simp only
        by_cases a : acc u = true
        · rw [if_pos a, if_pos a]
        · rw [if_neg a, if_neg a]
          have a2 : acc u = false := by cases q : acc u with
            | true => exact absurd q a
            | false => rfl
          exact ih g (i + 1) _ (InvO.all a2 (srt u) (steps u) [] o rfl I e0).1 (by omega) (by omega)
end
end K88
end

section
set_option maxHeartbeats 4000000
/-! joins: the mathematics -/
namespace K88
open PySem PySem.Spec PyProof.Rows L2
def infB (m : NL) : NL → Bool
  | [] => m.isPrefixOf []
  | a :: x => m.isPrefixOf (a :: x) || infB m x
theorem infB_iff {m : NL} : ∀ {x : NL}, infB m x = true ↔ m <:+: x
  | [] => by
    unfold infB
    rw [List.isPrefixOf_iff_prefix]
    constructor
    · exact fun h => h.isInfix
    · intro h
      rw [List.infix_nil.mp h]
      exact List.nil_prefix
  | a :: x => by
    unfold infB
    rw [Bool.or_eq_true, List.isPrefixOf_iff_prefix, infB_iff, List.infix_cons_iff]
theorem infB_no {m x : NL} : infB m x = false ↔ ¬ m <:+: x := by
  rw [← infB_iff]
  cases infB m x <;> simp
def ledN (c : Ch) (s : Nat) (x : NL) : Option Nat := ledL c s (x.map fun a => (⟨#[a]⟩ : Str))
theorem ledS_N (c : Ch) (s : Nat) (z : Str) : ledS c s z = ledN c s (cl z) := rfl
theorem ledN_app {c : Ch} {s : Nat} (x y : NL) : ledN c s (x ++ y) = (ledN c s x).bind fun t => ledN c t y := by
  unfold ledN
  rw [List.map_append, led_app]
theorem ledN_one {c : Ch} {s a : Nat} : ledN c s [a] = lkp (rowC c s) ⟨#[a]⟩ := by
  show ((lkp (rowC c s) ⟨#[a]⟩).bind fun g => some g) = _
  cases lkp (rowC c s) ⟨#[a]⟩ <;> rfl
theorem ledN_lt {c : Ch} (w : WfC c) : ∀ {x : NL} {s t : Nat}, s < c.length → ledN c s x = some t → t < c.length
  | [], s, t, hs, h => by cases h; exact hs
  | a :: x, s, t, hs, h => by
    have h2 : ((lkp (rowC c s) ⟨#[a]⟩).bind fun g => ledN c g x) = some t := h
    cases k : lkp (rowC c s) ⟨#[a]⟩ with
    | none => rw [k] at h2; cases h2
    | some g => rw [k] at h2; exact ledN_lt w (lkp_lt w k) h2
theorem sgs_cz : ∀ z ∈ sgs, z = (⟨#[cz z]⟩ : Str) := by decide +kernel
theorem sgs_up : (sgs.map cz).Pairwise (· < ·) := by decide +kernel
theorem okR_up {w : Nat} {r : List (Str × Nat)} (ok : okR w r) : r.Pairwise fun e f => cz e.1 < cz f.1 := by
  have h : (keysR r).Pairwise fun a b => cz a < cz b := by
    rw [show keysR r = _ from ok]
    have : sgs.Pairwise fun a b => cz a < cz b := List.pairwise_map.mp sgs_up
    exact (this.sublist (List.take_sublist w sgs)).filter _
  have h2 : (r.map (·.1)).Pairwise (fun a b => cz a < cz b) := h
  have h3 := List.pairwise_map.mp h2
  exact h3
theorem key_cz {w : Nat} {r : List (Str × Nat)} (ok : okR w r) {e : Str × Nat} (h : e ∈ r) : e.1 = (⟨#[cz e.1]⟩ : Str) :=
  sgs_cz _ (List.mem_of_mem_take (okR_in ok (List.mem_map_of_mem (f := fun e : Str × Nat => e.1) h)))
abbrev Nd := Nat × NL
def goJ (m : NL) (b : NL) (e : Str × Nat) : Option (Nat × Nd) := if b ++ [cz e.1] = m then none else some (cz e.1, (e.2, bord m (b ++ [cz e.1])))
def stepJ (c : Ch) (m : NL) (u : Nd) : List (Nat × Nd) := (rowC c u.1).filterMap (goJ m u.2)
def accJ (c : Ch) (m : NL) (u : Nd) : Bool := (ledN c u.1 m).isSome && !infB m (u.2 ++ m).dropLast
theorem row_ok {c : Ch} {w : Nat} (ok : okT w c) (s : Nat) : okR w (rowC c s) := by
  unfold rowC
  rw [List.getD_eq_getElem?_getD]
  cases h : c[s]? with
  | none =>
    show keysR [] = _
    unfold keysR
    simp
  | some r => exact (ok r (List.mem_of_getElem? h)).1
theorem stepJ_up {c : Ch} {w : Nat} (ok : okT w c) (m : NL) (u : Nd) : (stepJ c m u).Pairwise fun e f => e.1 < f.1 := by
  unfold stepJ
  refine List.pairwise_filterMap.mpr ((okR_up (row_ok ok u.1)).imp fun {a b} h x hx y hy => ?_)
  unfold goJ at hx hy
  split at hx
  · cases hx
  · split at hy
    · cases hy
    · cases hx; cases hy
      exact h
theorem mem_step {c : Ch} {w : Nat} (ok : okT w c) {m : NL} {u v : Nd} {a : Nat} : (a, v) ∈ stepJ c m u ↔ lkp (rowC c u.1) ⟨#[a]⟩ = some v.1 ∧ u.2 ++ [a] ≠ m ∧ v.2 = bord m (u.2 ++ [a]) := by
  have okr := row_ok ok u.1
  unfold stepJ
  rw [List.mem_filterMap]
  constructor
  · rintro ⟨e, he, h⟩
    unfold goJ at h
    split at h
    · cases h
    · rename_i n
      cases h
      refine ⟨?_, n, rfl⟩
      rw [← key_cz okr he]
      exact lkp_at (okR_nd okr) he
  · rintro ⟨h1, h2, h3⟩
    refine ⟨_, lkp_mem h1, ?_⟩
    unfold goJ
    rw [if_neg (show ¬ (u.2 ++ [cz ⟨#[a]⟩] = m) from h2)]
    show some (a, (v.1, bord m (u.2 ++ [a]))) = _
    rw [← h3]
/-- what leads on without m -/
theorem runs_iff {c : Ch} {w : Nat} (ok : okT w c) {m x0 : NL} (hm : m ≠ []) {v0 : Nat} (h0 : ledN c 0 x0 = some v0) (n0 : ¬ m <:+: x0) {y : NL} {u : Nd} :
    Runs (stepJ c m) (v0, bord m x0) y u ↔ ledN c 0 (x0 ++ y) = some u.1 ∧ u.2 = bord m (x0 ++ y) ∧ ¬ m <:+: x0 ++ y := by
  constructor
  · intro h
    induction h with
    | nil => rw [List.append_nil]; exact ⟨h0, rfl, n0⟩
    | @snoc x u v a h mm ih =>
      obtain ⟨i1, i2, i3⟩ := ih
      obtain ⟨h1, h2, h3⟩ := (mem_step ok).mp mm
      rw [← List.append_assoc, ledN_app, i1]
      refine ⟨by show ledN c u.1 [a] = _; rw [ledN_one]; exact h1, ?_, ?_⟩
      · rw [h3, bord_step m (x0 ++ x), i2]
      · exact not_in_snoc hm i3 (by rw [← i2]; exact h2)
  · rintro ⟨h1, h2, h3⟩
    obtain ⟨l, hl⟩ : ∃ l, l = y.length := ⟨_, rfl⟩
    induction l generalizing y u with
    | zero =>
      cases y with
      | cons _ _ => cases hl
      | nil =>
        rw [List.append_nil] at h1 h2
        rw [h0] at h1
        cases h1
        obtain ⟨u1, u2⟩ := u
        simp only at h2 ⊢
        subst h2
        exact .nil
    | succ l ih =>
      rcases List.eq_nil_or_concat y with e | ⟨x, a, e⟩
      · subst e; cases hl
      · subst e
        rw [List.concat_eq_append] at *
        have i3 : ¬ m <:+: x0 ++ x := fun q => h3 (by rw [← List.append_assoc]; exact q.trans (List.prefix_append ..).isInfix)
        rw [← List.append_assoc, ledN_app] at h1
        cases k : ledN c 0 (x0 ++ x) with
        | none => rw [k] at h1; cases h1
        | some s =>
          rw [k] at h1
          have h1 : ledN c s [a] = some u.1 := h1
          rw [ledN_one] at h1
          refine .snoc (u := (s, bord m (x0 ++ x))) (ih (u := (s, bord m (x0 ++ x))) k rfl i3 (by simp at hl; omega)) ((mem_step ok).mpr ⟨h1, ?_, ?_⟩)
          · intro q
            refine h3 ?_
            rw [← List.append_assoc]
            exact ((end_iff hm i3).mpr q).isInfix
          · rw [h2, ← List.append_assoc, bord_step]
/-- m behind what x0 and y say: allowed, and the first m -/
def fineJ (c : Ch) (m x0 y : NL) : Prop := (ledN c 0 (x0 ++ y ++ m)).isSome = true ∧ firstAt m (x0 ++ y)
theorem acc_iff {c : Ch} {w : Nat} (ok : okT w c) {m x0 : NL} (hm : m ≠ []) {v0 : Nat} (h0 : ledN c 0 x0 = some v0) (n0 : ¬ m <:+: x0) {y : NL} {u : Nd} (h : Runs (stepJ c m) (v0, bord m x0) y u) : accJ c m u = true ↔ fineJ c m x0 y := by
  obtain ⟨h1, h2, h3⟩ := (runs_iff ok hm h0 n0).mp h
  unfold accJ fineJ
  rw [Bool.and_eq_true, Bool.not_eq_true', infB_no, h2, ledN_app, h1]
  exact and_congr Iff.rfl (first_iff hm h3).symm
theorem fine_runs {c : Ch} {w : Nat} (ok : okT w c) {m x0 : NL} (hm : m ≠ []) {v0 : Nat} (h0 : ledN c 0 x0 = some v0) (n0 : ¬ m <:+: x0) {y : NL} (h : fineJ c m x0 y) : ∃ u, Runs (stepJ c m) (v0, bord m x0) y u := by
  have h1 := h.1
  rw [ledN_app] at h1
  cases k : ledN c 0 (x0 ++ y) with
  | none => rw [k] at h1; cases h1
  | some s => exact ⟨(s, bord m (x0 ++ y)), (runs_iff ok hm h0 n0).mpr ⟨k, rfl, first_no hm h.2⟩⟩
theorem nd_code {N : Nat} {l : List Nd} {m : NL} (nd : l.Nodup) (h : ∀ u ∈ l, u.1 < N ∧ u.2 <+: m ∧ u.2.length < m.length) : l.length ≤ N * m.length := by
  have e : (l.map fun u => u.1 * m.length + u.2.length).length = l.length := List.length_map ..
  rw [← e]
  refine nodup_len ?_ fun x hx => ?_
  · refine List.pairwise_map.mpr (nd.imp_of_mem fun {a b} ha hb hne q => hne ?_)
    obtain ⟨_, a2, a3⟩ := h a ha
    obtain ⟨_, b2, b3⟩ := h b hb
    have m1 : 0 < m.length := by omega
    have d := congrArg (· / m.length) q
    have r := congrArg (· % m.length) q
    simp only [Nat.mul_comm _ m.length, Nat.mul_add_div m1, Nat.mul_add_mod, Nat.div_eq_of_lt a3, Nat.div_eq_of_lt b3, Nat.mod_eq_of_lt a3, Nat.mod_eq_of_lt b3, Nat.add_zero] at d r
    exact Prod.ext d (pre_eq a2 b2 r)
  · obtain ⟨u, hu, rfl⟩ := List.mem_map.mp hx
    obtain ⟨h1, _, h3⟩ := h u hu
    calc u.1 * m.length + u.2.length < u.1 * m.length + m.length := by omega
      _ = (u.1 + 1) * m.length := by rw [Nat.add_mul, Nat.one_mul]
      _ ≤ N * m.length := Nat.mul_le_mul_right _ h1
theorem bdJ {c : Ch} {w : Nat} (wf : WfC c) (ok : okT w c) {m x0 : NL} (hm : m ≠ []) {v0 : Nat} (h0 : ledN c 0 x0 = some v0) (n0 : ¬ m <:+: x0) {i : Nat} {p : List (Nat × Nd)} {o : Ord Nd} (I : InvO (stepJ c m) (accJ c m) (v0, bord m x0) i p o) : o.length ≤ c.length * m.length := by
  rw [← List.length_map (f := (·.1)) (as := o)]
  refine nd_code I.nd fun u hu => ?_
  obtain ⟨e, he, rfl⟩ := List.mem_map.mp hu
  obtain ⟨h1, h2, h3⟩ := (runs_iff ok hm h0 n0).mp (I.run e he)
  refine ⟨ledN_lt wf wf.1 h1, ?_, ?_⟩
  · rw [h2]; exact bord_pre ..
  · rw [h2]; exact bord_lt h3
/-- the join: what is added, or nothing -/
def joinJ (c : Ch) (m x0 : NL) : Option NL := match ledN c 0 x0 with
  | none => none
  | some v0 => bfsO (stepJ c m) (accJ c m) (c.length * m.length + 1) 0 [((v0, bord m x0), [])]
theorem join_some {c : Ch} {w : Nat} (ok : okT w c) {m x0 : NL} (hm : m ≠ []) {v0 : Nat} (h0 : ledN c 0 x0 = some v0) (n0 : ¬ m <:+: x0) {t : NL} (h : joinJ c m x0 = some t) : fineJ c m x0 t ∧ ∀ y, fineJ c m x0 y → tle t y := by
  unfold joinJ at h
  rw [h0] at h
  obtain ⟨u, hr, ha, hl⟩ := bfs_ok (stepJ_up ok m) _ 0 _ InvO.start t h
  refine ⟨(acc_iff ok hm h0 n0 hr).mp ha, fun y hy => ?_⟩
  obtain ⟨v, hv⟩ := fine_runs ok hm h0 n0 hy
  exact hl y v hv ((acc_iff ok hm h0 n0 hv).mpr hy)
theorem join_none {c : Ch} {w : Nat} (wf : WfC c) (ok : okT w c) {m x0 : NL} (hm : m ≠ []) {v0 : Nat} (h0 : ledN c 0 x0 = some v0) (n0 : ¬ m <:+: x0) (h : joinJ c m x0 = none) : ∀ y, ¬ fineJ c m x0 y := by
  unfold joinJ at h
  rw [h0] at h
  intro y hy
  obtain ⟨v, hv⟩ := fine_runs ok hm h0 n0 hy
  have := bfs_no (stepJ_up ok m) (N := c.length * m.length) (fun i o I => bdJ wf ok hm h0 n0 I) _ 0 _ InvO.start (by omega) h y v hv
  rw [(acc_iff ok hm h0 n0 hv).mpr hy] at this
  cases this
end K88
end

section
set_option maxHeartbeats 4000000
/-! the property signs -/
namespace K88
open PySem PySem.Spec PyProof.Rows L2
/-- what else the top has written of the class Medium -/
structure MedX (K : PySem.W.Frag) (mg : Str → Option Value) (ad : Str → Addr) (fd : Str → FuncData) : Prop where
  F_signs : Fun K "signs" "Medium.signs" sM_signs (ad "Medium.signs") (fd "Medium.signs")
  b_signs : Binds K (fd "Medium.signs") ["self"] []
  p_signs : PropOf K (ad "Medium") "signs" (ad "Medium.signs!") (ad "Medium.signs")
def spMSigns (C : Addr) : Sp := fun vs H Q _ => ∃ (a : Addr) (w : Nat) (c : Ch), vs = [.ref a] ∧ MedO C H a w c ∧ Q (.str (cutS "abcd" none (some (w : Int)))) H
theorem sgs_one : ∀ z ∈ sgs, z.length = 1 := by decide +kernel
section
variable {P : Program} {w : World} {K : PySem.W.Frag} {mg : Str → Option Value} {base : Heap} {ad : Str → Addr} {fd : Str → FuncData}
theorem scM_signs : FnScope ["self"] ["self"] (defScope sM_signs) := ⟨rfl, rfl, rfl, by decide +kernel, rfl, by decide +kernel, by decide +kernel⟩
theorem ok_msigns (X : Tx K mg ad fd) (M : MedC K mg ad fd) (MX : MedX K mg ad fd) : FnOk P w K mg base CX0 1 (ad "Medium.signs") (fd "Medium.signs") ["self"] (spMSigns (ad "Medium")) := by
  refine MX.F_signs.ok scM_signs (fun vs H Q E h => ?_) (fun cdv A outer s H vs Q E hr h => ?_)
  · obtain ⟨a, w, c, rfl, ⟨dx, F, ls, L, ts, e, tb, ld⟩, k⟩ := h
    rfl
  · obtain ⟨a, w, c, rfl, ⟨dx, F, ls, L, ts, e, tb, ld⟩, k⟩ := h
    obtain ⟨ul, cl_⟩ := M.lets
    refine ⟨_, (pss_one (ps_ret (by exact (pe_slice sl_str (pe_con (pv 0) rfl) po_none (po_some (pe_fld (pv 0) rfl)))))), ?_⟩
    exact ⟨.ref a, rfl, a, _, dx, _, _, _, rfl, e, M.cl, cl_, rfl, .ref a, rfl, a, _, dx, _, _, rfl, e, M.cl, M.nm, rfl, (w : Int), rfl, "abcd", rfl, abcd_len, k⟩
end
end K88
end

section
set_option maxHeartbeats 4000000
/-! methods called by keywords alone; in, by a def of one's own -/
namespace K88
open PySem PySem.Spec PyProof.Rows L2
/-- a method called by keywords alone -/
structure KBM (K : PySem.W.Frag) (fd : FuncData) (ps ks : List Str) (g : List Value → List Value) (gV : List V → List V) : Prop where
  to : ∀ (s : Shared) (a : Value) (ws : List Value), K.In s.heap → (a :: g ws).length = ps.length → BindsTo s fd ⟨[a], ks.zip ws⟩ (ps.zip (a :: g ws))
  rel : ∀ {zs : List V} {ws : List Value}, Vals zs ws → Vals (gV zs) (g ws)
section
variable {X : Cx} {k : Nat} {f C : Addr} {fd : FuncData} {ps ks : List Str} {sp : Sp} {o : Expr} {m : Str} {pos apos : Pos} {kws : List Keyword} {ta : TE} {tk : TA} {g : List Value → List Value} {gV : List V → List V}
def tMethKW (C : Addr) (m : Str) (sp : Sp) (gV : List V → List V) (ta : TE) (tk : TA) : TE := fun σ H Q => ta σ H fun x H1 => ∃ a dx fs, x = .ref a ∧ H1 a = some (.ins C dx fs) ∧ fs.lookup m = none ∧ tk σ H1 fun zs H2 => sp (.ref a :: gV zs) H2 Q E0
theorem pe_methKW {pl : Sem Bool} (he : PE X o ta) (c : Cls X.K C) (hm : Meth X.K C m f) (F : FnOk X.prog X.w X.K X.mg X.base CX0 k f fd ps sp) (hr : Room k X.A) (hb : KBM X.K fd ps ks g gV) (hkw : PK X kws tk)
    (hall : (backToKw pos (keywordEach kws X.env)).all (·.1.isSome) = true := by rfl) (hks : (backToKw pos (keywordEach kws X.env)).filterMap (·.1) = ks := by rfl)
    (hpl : ((backTo pos (starEach [] X.env)).any (·.1) || (backToKw pos (keywordEach kws X.env)).any (·.1.isNone)) = false := by rfl)
    (ht : eval (.Call (.Attribute o m apos) [] kws pos) X.env = (do
      let ov ← eval o X.env
      standAt apos.atName
      let (f, first) ← holding [ov] (getMethod ov m pl)
      callWith pos f first (backTo pos (starEach [] X.env)) (backToKw pos (keywordEach kws X.env))) := by rfl) :
    PE X (.Call (.Attribute o m apos) [] kws pos) (tMethKW C m sp gV ta tk) := by
  refine ⟨fun pins s σ H Q I h => ?_⟩
  refine PySem.W.methodCall_KW (pl := pl) (thn (he.run pins s σ H _ I h) fun u s1 ⟨x, H1, I1, rx, a, dx, fs, ex, ea, l, q⟩ => ?_) ht
  subst ex
  obtain rfl : u = Value.ref a := rx
  refine getmeth_ok I1 ea c hm l ?_
  refine PySem.W.callWith_KW0 (h₀ := X.base) (first := [.ref a]) I1.ok.mod.kin hm.kp hall (thn (hkw.run pos pins s1 σ H1 _ I1 q) fun ws s2 hh => ?_) hpl
  obtain ⟨zs, H2, I2, r, q2⟩ := hh
  refine ⟨I2.kIn, ?_⟩
  rw [hks]
  have r2 : Vals (V.ref a :: gV zs) (Value.ref a :: g ws) := .cons rfl (hb.rel r)
  have hl : (Value.ref a :: g ws).length = ps.length := r2.length.symm.trans (F.len _ _ _ _ q2)
  refine wpAny_call (codeAny_mono (F.run X.A X.stack s2 H2 ⟨[.ref a] ++ [], ks.zip ws⟩ (.ref a :: g ws) (.ref a :: gV zs) Q E0 hr I2.env0 (hb.to s2 (.ref a) ws I2.kIn hl) r2 q2) fun res s' hq => ?_)
  match res, hq with
  | .error e, hq => exact hq.elim
  | .ok (.ret u), hq => exact I2.after hq
/-- y in x, x an instance -/
def rInO (C : Addr) (sp : Sp) : R2 := fun y x H Q => ∃ a dx fs, x = .ref a ∧ H a = some (.ins C dx fs) ∧ sp [x, y] H (fun v H' => ∃ b, v = .bl b ∧ Q (.bl b) H') E0
theorem op_inO (F : FnOk X.prog X.w X.K X.mg X.base CX0 k f fd ps sp) (hr : Room k X.A) (hb : Binds X.K fd ps []) (hs : PySem.W.findIn X.K (.ref C) "__contains__" = some (some (.ref f))) (hf : PySem.W.isFn X.K (.ref f) = true) : OpR X (compareOp .In) (rInO C sp) := by
  intro pins s σ H y x u v Q I ry rx h
  obtain ⟨a, dx, fs, rfl, ha, q⟩ := h
  obtain rfl : v = Value.ref a := rx
  obtain ⟨od, J⟩ := ins_inst I ha
  obtain ⟨m, hF⟩ := I.fr
  refine PySem.W.in_K hF I.ok.mod.kin J hs hf (wpAny_mono (run_at F hr rfl hb pass0 I (.cons (show RelV (.ref a) (.ref a) from rfl) (.cons ry .nil)) q) (fun r s' z => ?_) fun _ _ z => z)
  obtain ⟨v, H', I', rv, b, rfl, q⟩ := z
  obtain rfl : r = Value.bool b := rv
  exact wpAny_truthy_bool ⟨.bl b, H', I', rfl, q⟩
end
end K88
end

section
set_option maxHeartbeats 4000000
/-! rules whose reading names the written part, it being given -/
namespace K88
open PySem PySem.Spec PyProof.Rows L2
theorem pe_bmK {X : Cx} {K : PySem.W.Frag} {o e : Expr} {es : List Expr} {to : TE} {t : TA} {name : Str} {apos cpos : Pos} {T id : String} {r : V → List V → Hp → VK → Prop} (hK : X.K = K)
    (pa : PlainAttrs T) (slot : Slot T name id) (hty : typeOf (.builtin id) = pure (.type "method_descriptor")) (hm : MtR X id r) (ho : PE X o to) (ha : PA X (e :: es) t)
    (hbase : attributeBase o name X.env (eval o X.env) = eval o X.env := by rfl)
    (hfew : ((backTo cpos (starEach (e :: es) X.env)).all (fun x => !x.1) && (backToKw cpos (keywordEach [] X.env)).all (fun x => x.1.isSome)
      && decide ((e :: es).length + ([] : List Keyword).length + (if ([] : List Keyword).isEmpty then 0 else 1) < 30)) = true := by rfl)
    (hline : (apos.endLine == cpos.line) = true := by rfl) (hs : starEach (e :: es) X.env = (false, eval e X.env) :: starEach es X.env := by rfl) (hplain : (backTo cpos (starEach es X.env)).any (·.1) = false := by rfl) :
    PE X (.Call (.Attribute o name apos) (e :: es) [] cpos) (tBM K T r to t) := by
  subst hK
  exact pe_bm pa slot hty hm ho ha hbase hfew hline hs hplain
end K88
namespace K88
open PySem PySem.Spec PyProof.Rows L2
theorem cl_cut (z : Str) (lo hi : Option Int) : cl (cutS z lo hi) = ((cl z).drop (HT.sIx z.length 0 lo)).take (HT.sIx z.length z.length hi - HT.sIx z.length 0 lo) := rfl
theorem cut_from (z : Str) (k : Nat) : cutS z (some (k : Int)) none = sl ((cl z).drop k) := cl_ext (by
  rw [cl_cut, cl_sl, HT.sIx_nat, HT.sIx_none]
  have : z.length = (cl z).length := (cl_len z).symm
  rw [this]
  rcases Nat.le_total k (cl z).length with h | h
  · rw [Nat.min_eq_left h, List.take_of_length_le (by rw [List.length_drop]; omega)]
  · rw [Nat.min_eq_right h, List.drop_of_length_le h, List.drop_of_length_le (Nat.le_refl _), List.take_nil])
theorem cut_to (z : Str) (k : Nat) : cutS z none (some (k : Int)) = sl ((cl z).take k) := cl_ext (by
  rw [cl_cut, cl_sl, HT.sIx_nat, HT.sIx_none, List.drop_zero, Nat.sub_zero]
  have : z.length = (cl z).length := (cl_len z).symm
  rw [this]
  rcases Nat.le_total k (cl z).length with h | h
  · rw [Nat.min_eq_left h]
  · rw [Nat.min_eq_right h, List.take_of_length_le (Nat.le_refl _), List.take_of_length_le h])
/-- z[:-1] -/
theorem cut_m1 (z : Str) : cutS z none (some (-1)) = sl (cl z).dropLast := cl_ext (by
  rw [cl_cut, cl_sl, HT.sIx_none, List.drop_zero, Nat.sub_zero, List.dropLast_eq_take, cl_len]
  have e : HT.sIx z.length z.length (some (-1)) = z.length - 1 := by
    show (if (-1 : Int) < 0 then ((-1 : Int) + (z.length : Int)).toNat else min (-1 : Int).toNat z.length) = _
    rw [if_pos (by decide)]
    omega
  rw [e])
theorem lenS {K : PySem.W.Frag} {H : Hp} {z : Str} (h : z.length ≤ 10000) : LenV K (.str z) H z.length := ⟨by rw [sizeLine_eq]; omega, rfl⟩
end K88
end

section
set_option maxHeartbeats 4000000
/-! rules: not in an instance, text * int, a dict of one tuple; an own error with a value -/
namespace K88
open PySem PySem.Spec PyProof PyProof.Rows L2
/-- text * int -/
theorem op_mulS {X : Cx} : OpR X (binaryOp .Mult) (fun x y H Q => ∃ (z : Str) (n : Int), x = .str z ∧ y = .int n ∧ MulOk z n ∧ Q (.str (Txt.mul z n)) H) := by
  intro pins s σ H x y v u Q I rx ry h
  obtain ⟨z, n, rfl, rfl, ok, q⟩ := h
  obtain ⟨t, rfl⟩ := rx
  obtain ⟨t', rfl⟩ := ry
  exact SB.mul ok fun t2 k2 => ⟨.str _, H, I.tok _, ⟨_, rfl⟩, q⟩
theorem mul_ok {z : Str} {n : Int} (h1 : 1 ≤ n) (h2 : n ≤ 1000000) (hz : z.length ≤ 4) : MulOk z n := by
  refine ⟨?_, fun _ _ => ?_, fun _ _ => ?_⟩
  · rw [decide_eq_false (show ¬ n < -(2 ^ 63 : Int) by omega), decide_eq_false (show ¬ n ≥ 2 ^ 63 by omega)]; rfl
  · have : (1000000 : Int) ≤ (2 ^ 63 - 1) / n := (Int.le_ediv_iff_mul_le (by omega)).mpr (by omega)
    omega
  · unfold Builtin.Str.tooLong
    refine decide_eq_false ?_
    rw [sizeLine_eq]
    have : z.length * n.toNat ≤ 4 * n.toNat := Nat.mul_le_mul_right _ hz
    omega
section
variable {X : Cx} {k : Nat} {f C : Addr} {fd : FuncData} {ps : List Str} {sp : Sp}
/-- y not in x, x an instance -/
def rNotInO (C : Addr) (sp : Sp) : R2 := fun y x H Q => ∃ a dx fs, x = .ref a ∧ H a = some (.ins C dx fs) ∧ sp [x, y] H (fun v H' => ∃ b, v = .bl b ∧ Q (.bl (!b)) H') E0
theorem op_notInO (F : FnOk X.prog X.w X.K X.mg X.base CX0 k f fd ps sp) (hr : Room k X.A) (hb : Binds X.K fd ps []) (hs : PySem.W.findIn X.K (.ref C) "__contains__" = some (some (.ref f))) (hf : PySem.W.isFn X.K (.ref f) = true) : OpR X (compareOp .NotIn) (rNotInO C sp) := by
  intro pins s σ H x y u v Q I ry rx h
  obtain ⟨a, dx, fs, rfl, ha, q⟩ := h
  obtain rfl : v = Value.ref a := rx
  obtain ⟨od, J⟩ := ins_inst I ha
  obtain ⟨m, hF⟩ := I.fr
  refine PySem.W.notIn_K hF I.ok.mod.kin J hs hf (wpAny_mono (run_at F hr rfl hb pass0 I (.cons (show RelV (.ref a) (.ref a) from rfl) (.cons ry .nil)) q) (fun r s' z => ?_) fun _ _ z => z)
  obtain ⟨v, H', I', rv, b, rfl, q⟩ := z
  obtain rfl : r = Value.bool b := rv
  exact wpAny_truthy_bool ⟨.bl (!b), H', I', rfl, q⟩
end
section
variable {X : Cx} {pos : Pos}
/-- {k: v}, k a tuple of whole numbers and texts -/
def tDisp1T (tk tv : TE) : TE := fun σ H Q => ∀ p, H p = none → tk σ (upd H p (.dT [])) fun x H1 => tv σ H1 fun y H2 => ∃ x' y', [(x, y)] = [(x', y')] ∧ H2 p = some (.dT []) ∧ ∃ (b : Addr) (ks : List Key), x' = .ref b ∧ H2 b = some (.tup (ks.map kV)) ∧ Q (.ref p) (upd H2 p (.dT [(ks, y')]))
theorem pe_disp1T {k v : Expr} {tk tv : TE} (hu : X.A.units + 1 < cLine) (hk : PE X k tk) (hv : PE X v tv) : PE X (.Dict [some k] [v] pos) (tDisp1T tk tv) := by
  refine ⟨fun pins s σ H Q I q => ?_⟩
  have hn := I.hok.fresh (Nat.le_refl s.heap.objs.size)
  have I1 := I.laid (a := s.heap.objs.size) (o := .dT []) (h' := s.heap.push { cls := .type "dict", data := .dict #[] }) (t' := s.toks) (fun _ _ q => Heap.get?_push_of_some _ q) (Nat.le_refl _) (dt_empty s.heap I.big)
  refine wpAny_Dict_any rfl rfl (by simp) (by show 1 ≤ 15; decide) ?_
  have ht : tPairs [(tk, tv)] σ (upd H s.heap.objs.size (.dT [])) (fun ps H2 => ∃ x y, ps = [(x, y)] ∧ H2 s.heap.objs.size = some (.dT []) ∧ ∃ (b : Addr) (ks : List Key), x = .ref b ∧ H2 b = some (.tup (ks.map kV)) ∧ Q (.ref s.heap.objs.size) (upd H2 s.heap.objs.size (.dT [(ks, y)]))) := by
    exact q _ hn
  refine thn ((pps_cons hk hv pps_nil).run pins _ σ _ _ I1 ht) fun ws s2 ⟨ps, H2, I2, rel, x, y, ep, e, b, ks, ex, eb, q2⟩ => ?_
  subst ep ex
  cases rel with
  | @cons a w2 as bs h t =>
    cases t
    obtain ⟨u, r⟩ := w2
    obtain ⟨ru, rr⟩ := h
    obtain rfl : u = Value.ref b := ru
    obtain ⟨z, hd, xs, rel, dd⟩ := dt_of I2.hok e
    cases rel
    unfold storeAll
    rw [List.forIn_cons]
    refine wpAny_bind (wpAny_bind (wpAny_dictSet_heap (hsz := by simp) (by show X.A.units < cLine; omega) (key_of I2.hok eb) dd fun h' dd' hs => wpAny_pure ?_))
    dsimp only
    rw [List.forIn_nil]
    refine wpAny_pure ?_
    obtain ⟨qo, es, ep, hq, h2, h3, h4, _, h5⟩ := dd'
    refine ⟨.ref s.heap.objs.size, _, d_write (ob := .dT [(ks, y)]) I2 (by rw [e]; exact True.intro) hs ⟨qo, hq⟩ ⟨by show 1 ≤ sizeLine; rw [sizeLine_eq]; decide, hd, _, ?_, qo, es, ep, hq, h2, h3, h4, h5⟩, rfl, q2⟩
    have kt : KT H2 ([] : List (List Key × V)) [] := .nil
    refine (show KT (upd H2 s.heap.objs.size (.dT [(ks, y)])) [(ks, y)] (storedH [] ks b r) from ?_)
    have nb : b ≠ s.heap.objs.size := fun z => by rw [z, e] at eb; cases eb
    have eb' : (upd H2 s.heap.objs.size (.dT [(ks, y)])) b = some (.tup (ks.map kV)) := by rw [upd_ne nb]; exact eb
    exact .cons ⟨rfl, eb', rr⟩ .nil
end
theorem val_mem {κ : Type} [DecidableEq κ] {kv : κ × V} : ∀ {kvs : List (κ × V)}, (kvs.map (·.1)).Nodup → kv ∈ kvs → valV kvs kv.1 = some kv.2
  | [], _, h => by cases h
  | p :: r, nd, h => by
    rw [List.map_cons, List.nodup_cons] at nd
    by_cases z : p.1 = kv.1
    · cases h with
      | head => exact valV_pos rfl
      | tail _ m => exact absurd (List.mem_map_of_mem (f := (·.1)) m) (by rw [← z]; exact nd.1)
    · rw [valV_neg z]
      cases h with
      | head => exact absurd rfl z
      | tail _ m => exact val_mem nd.2 m
structure ErrV (K : PySem.W.Frag) (mg : Str → Option Value) (n : Str) (C fI : Addr) : Prop where
  T : XB K C [.type "ValueError", .type "Exception", .type "BaseException", .type "object"] "ValueError.__new__"
  J : XI K C fI
  F : XF_value K C fI
  G : mg n = some (.ref C)
/-- the error C with the value v is told -/
def Err (C : Addr) (E : XK) (H : Hp) (v : V) : Prop := ∀ (H' : Hp) (p : Addr), Same H H' → H' p = none → E (.ref C) (some p) (upd H' p (.xd [(("value" : Str), v)]))
end K88
end

section
set_option maxHeartbeats 4000000
/-! check_mark, begun_mark, can_join, clear_steps -/
namespace K88
open PySem PySem.Spec PyProof.Rows L2

def okMark (m : Str) : Prop := wordD (.str m) = true ∧ 1 ≤ m.length ∧ m.length ≤ 8
theorem okMark.ne {m : Str} (h : okMark m) : cl m ≠ [] := fun e => by
  have := h.2.1
  rw [← cl_len, e] at this
  exact absurd this (by decide)
def spCMark : Sp := fun vs H Q _ => ∃ m : Str, vs = [.str m] ∧ okMark m ∧ ∀ H', Same H H' → Q .non H'
def spBegun : Sp := fun vs H Q _ => ∃ m r : Str, vs = [.str m, .str r] ∧ m.length ≤ 100 ∧ r.length ≤ 5000 ∧ ∀ H', Same H H' → Q (.str (sl (bord (cl m) (cl r)))) H'
def spCan (C : Addr) : Sp := fun vs H Q _ => ∃ (a : Addr) (w : Nat) (c : Ch) (m b : Str) (s : Nat), vs = [.ref a, .str m, .int (s : Int), .str b] ∧ MedO C H a w c ∧ WfC c ∧ s < c.length ∧ okMark m ∧ b.length ≤ 100 ∧ Q (.bl (accJ c (cl m) (s, cl b))) H
/-- the ends of a text, the longest first -/
def tlsN : NL → List NL
  | [] => [[]]
  | a :: x => (a :: x) :: tlsN x
theorem tls_drop : ∀ (x : NL), tlsN x = (List.range (x.length + 1)).map fun k => x.drop k
  | [] => rfl
  | a :: x => by
    unfold tlsN
    rw [tls_drop x]
    conv => rhs; rw [show (a :: x).length + 1 = (x.length + 1) + 1 from rfl, List.range_succ_eq_map, List.map_cons, List.map_map]
    rfl
theorem bord_first (m : NL) : ∀ (x : NL), ((tlsN x).filter fun y => decide (y <+: m)).head? = some (bord m x)
  | [] => by
    unfold tlsN bord
    rw [List.filter_cons, if_pos (decide_eq_true List.nil_prefix)]; rfl
  | a :: x => by
    unfold tlsN bord
    rw [List.filter_cons]
    by_cases p : (a :: x) <+: m
    · rw [if_pos (decide_eq_true p), if_pos p]; rfl
    · rw [if_neg (by rw [decide_eq_false p]; simp), if_neg p]
      exact bord_first m x
theorem bord_drop (m : NL) : ∀ (x : NL) (k : Nat), k + m.length ≤ x.length → bord m (x.drop k) = bord m x
  | x, 0, _ => rfl
  | [], k + 1, h => by simp at h
  | a :: x, k + 1, h => by
    rw [List.drop_succ_cons, bord_drop m x k (by simp at h; omega)]
    conv => rhs; unfold bord
    rw [if_neg fun p => by have := p.length_le; simp at this h; omega]
section
variable {P : Program} {w : World} {K : PySem.W.Frag} {mg : Str → Option Value} {base : Heap} {ad : Str → Addr} {fd : Str → FuncData}
theorem scCheckMark : FnScope ["mark"] ["mark"] (defScope sCheckMark) := ⟨rfl, rfl, rfl, by decide +kernel, rfl, by decide +kernel, by decide +kernel⟩
theorem ok_check_mark (X : Tx K mg ad fd) : FnOk P w K mg base CX0 2 (ad "check_mark") (fd "check_mark") ["mark"] spCMark := by
  have G_is_row := ok_is_rowW (P := P) (w := w) (base := base) X
  refine X.F_check_mark.ok scCheckMark (fun vs H Q E h => ?_) (fun cdv A outer s H vs Q E hr h => ?_)
  · obtain ⟨m, rfl, hm, k⟩ := h
    rfl
  · obtain ⟨m, rfl, hm, k⟩ := h
    have HR_is_row : Room 1 _ := hr
    obtain ⟨tM, GLOB_MOST_IN_MARK⟩ := X.g_MOST_IN_MARK
    refine ⟨_, (pss_one (ps_if (PW.pt (pw_or (pt_not (pt_val (pe_call G_is_row HR_is_row (by rfl) X.g_is_row X.F_is_row.kp X.b_is_row .nil pass0 (pa_cons (pv 0) pa_nil)))) (pw_or1 (pt_not (pt_chain op_le op_le pe_int (pe_callB (call_lenK (K := K) rfl) (by rfl) X.m_len (by decide +kernel) (pa_cons (pv 0) pa_nil)) (pe_glob (v := .int 8) (by rfl) GLOB_MOST_IN_MARK ⟨_, rfl⟩))))))
  (pss_one ps_never)
  pss_nil)), ?_⟩
    have h1 := hm.2.1
    have h2 := hm.2.2
    refine ⟨.str m, rfl, m, rfl, ⟨hm.1, by omega⟩, fun H1 s1 => ?_⟩
    refine ⟨true, rfl, iteF ?_⟩
    refine ⟨.str m, rfl, .str m, _, rfl, lenS (by omega), _, _, rfl, rfl, _, rfl, ?_⟩
    rw [decide_eq_true (show (1 : Int) ≤ (m.length : Int) by omega)]
    refine iteT ⟨_, _, rfl, rfl, _, rfl, ?_⟩
    rw [decide_eq_true (show (m.length : Int) ≤ 8 by omega)]
    exact iteF (k H1 s1)
theorem scBegunMark : FnScope ["mark", "row", "ends", "at", "end"] ["mark", "row"] (defScope sBegunMark) := ⟨rfl, rfl, rfl, by decide +kernel, rfl, by decide +kernel, by decide +kernel⟩
theorem ok_begun (X : Tx K mg ad fd) : FnOk P w K mg base CX0 1 (ad "begun_mark") (fd "begun_mark") ["mark", "row"] spBegun := by
  refine X.F_begun_mark.ok scBegunMark (fun vs H Q E h => ?_) (fun cdv A outer s H vs Q E hr h => ?_)
  · obtain ⟨m, r, rfl, hm, hr0, k⟩ := h
    rfl
  · obtain ⟨m, r, rfl, hm, hr0, k⟩ := h
    refine ⟨_, (pss_cons (ps_setLc (i := 2) (own := [("at", 3)]) (g := gName 3) rfl scBegunMark.nd rfl rfl (by rfl) (pi_range2 (by rfl) X.m_range (pa_cons (pe_callB (call_max2 rfl) (by rfl) X.m_max (by decide +kernel) (pa_cons (pe_op op_sub (pe_callB (call_lenK (K := K) rfl) (by rfl) X.m_len (by decide +kernel) (pa_cons (pv 1) pa_nil)) (pe_callB (call_lenK (K := K) rfl) (by rfl) X.m_len (by decide +kernel) (pa_cons (pv 0) pa_nil))) (pa_cons pe_int pa_nil))) (pa_cons (pe_op op_add (pe_callB (call_lenK (K := K) rfl) (by rfl) X.m_len (by decide +kernel) (pa_cons (pv 1) pa_nil)) pe_int) pa_nil))) (blkOk_by (own := [("at", 3)]) (N := ["mark", "row", "ends", "at", "end"]) (sc := defScope sBegunMark) (by decide +kernel)) (fun _ _ _ _ _ => pg_name (i := 3) scBegunMark.nd rfl (Or.inl rfl)) (fun _ _ _ _ _ => pts_nil) (fun _ _ _ _ _ => (pe_slice sl_str (pv 1) (po_some (pv 3)) po_none)))
  (pss_one (ps_ret (by exact (pe_ix (ix_listK (K := K) rfl) (pe_lc (own := [("end", 4)]) (g := gName 4) rfl scBegunMark.nd (pi_listK (K := K) rfl (pv 2)) (blkOk_by (own := [("end", 4)]) (N := ["mark", "row", "ends", "at", "end"]) (sc := defScope sBegunMark) (by decide +kernel)) (fun _ _ _ _ _ => pg_name (i := 4) scBegunMark.nd rfl (Or.inl rfl)) (fun _ _ _ _ _ => pts_one (pt_val (pe_bmK (K := K) rfl PySem.F.plainAttrs_str PySem.F.slot_str_startswith PySem.F.type_str_startswith mt_startswith (pv 0) (pa_cons (pv 4) pa_nil)))) (fun _ _ _ _ _ => (pv 4))) pe_int (fun _ _ => rfl)))))), ?_⟩
    have e0 : (if (0 : Int) > ((r.length : Nat) : Int) - ((m.length : Nat) : Int) then (0 : Int) else ((r.length : Nat) : Int) - ((m.length : Nat) : Int)) = ((r.length - m.length : Nat) : Int) := by split <;> omega
    refine ⟨.str r, rfl, .str r, _, rfl, lenS (by omega), .str m, rfl, .str m, _, rfl, lenS (by omega), _, _, rfl, rfl, _, _, rfl, .str r, rfl, .str r, _, rfl, lenS (by omega), _, _, rfl, rfl, _, _, rfl, ?_⟩
    rw [e0]
    have cr := cl_len r
    have en : ((r.length : Int) + 1 - ((r.length - m.length : Nat) : Int)).toNat = r.length - (r.length - m.length) + 1 := by omega
    refine ⟨⟨by omega, by omega, by omega, by omega⟩, fun D hD => ?_⟩
    rw [en]
    have tl : ∀ i, i < r.length - (r.length - m.length) + 1 → (tlsN ((cl r).drop (r.length - m.length)))[i]? = some ((cl r).drop (r.length - m.length + i)) := fun i hi => by
      rw [tls_drop, List.getElem?_map, List.getElem?_range (by rw [List.length_drop, cr]; omega), Option.map_some, List.drop_drop]
    have tn : (tlsN ((cl r).drop (r.length - m.length))).length = r.length - (r.length - m.length) + 1 := by
      rw [tls_drop, List.length_map, List.length_range, List.length_drop, cr]
    refine lc_range (lo := ((r.length - m.length : Nat) : Int)) (n := r.length - (r.length - m.length) + 1) (fun i H' => Same H H' ∧ H' D = some (.lst (((tlsN ((cl r).drop (r.length - m.length))).take i).map fun y => V.str (sl y)))) ⟨Same.new hD, upd_same⟩ (fun i H' hi hP => ?_) (fun H' hP => ?_)
    · obtain ⟨s1, eD⟩ := hP
      refine gN ⟨rfl, yes_of (iteT ?_)⟩
      refine ⟨.str r, rfl, .int (((r.length - m.length : Nat) : Int) + (i : Int)), rfl, _, rfl, r, rfl, (by rw [sizeLine_eq]; omega), _, eD, ?_, ?_, ?_⟩
      · rw [List.length_map, List.length_take, sizeLine_eq]; omega
      · intro b o e
        rw [upd_ne (ne_of_none e hD)]
        exact s1 _ _ e
      · rw [upd_same, take_snoc (tl i hi), List.map_append]
        rw [show ((r.length - m.length : Nat) : Int) + (i : Int) = ((r.length - m.length + i : Nat) : Int) by omega, cut_from]
        rfl
    · obtain ⟨s1, eD⟩ := hP
      rw [← tn, List.take_length] at eD
      refine gN ?_
      have eL : H' D = some (.lst ((tlsN ((cl r).drop (r.length - m.length))).map fun y => V.str (sl y))) := eD
      have ll : ∀ y ∈ tlsN ((cl r).drop (r.length - m.length)), y.length ≤ 5000 := fun y hy => by
        rw [tls_drop] at hy
        obtain ⟨k, _, rfl⟩ := List.mem_map.mp hy
        rw [List.length_drop, List.length_drop, cr]; omega
      have bf := bord_first (cl m) ((cl r).drop (r.length - m.length))
      have bd : bord (cl m) ((cl r).drop (r.length - m.length)) = bord (cl m) (cl r) := by
        by_cases q : m.length ≤ r.length
        · exact bord_drop _ _ _ (by rw [cl_len, cl_len]; omega)
        · rw [show r.length - m.length = 0 by omega]; rfl
      rw [bd] at bf
      have tn2 : (tlsN ((cl r).drop (r.length - m.length))).length ≤ 5001 := by rw [tn]; omega
      generalize tlsN ((cl r).drop (r.length - m.length)) = L at eL ll bf tn2
      clear eD
      refine ⟨.ref D, rfl, D, rfl, ⟨_, SqL.of eL⟩, fun D2 nD2 => ?_⟩
      refine lc_it (w := walk_list (K := K) (a := D) (xs := L.map fun y => V.str (sl y))) (g := gName 4) (fun i H2 => Same H' H2 ∧ H2 D2 = some (.lst (((L.take i).filter fun y => decide (y <+: cl m)).map fun y => V.str (sl y)))) ⟨Same.new nD2, upd_same⟩ (fun _ _ _ ⟨s2, _⟩ => SqL.of (s2 _ _ eL)) (fun i v Ha Hb hi hP hy => ?_) (fun H2 hP => ?_)
      · obtain ⟨s2, e2⟩ := hP
        obtain ⟨rfl, hv⟩ := hy
        rw [List.getElem?_map] at hv
        obtain ⟨y, hL, rfl⟩ := Option.map_eq_some_iff.mp hv
        rw [List.length_map] at hi
        refine gN ⟨rfl, .str m, rfl, rfl, .str (sl y), rfl, m, sl y, rfl, rfl, _, rfl, ?_⟩
        rw [show Txt.startswith m (sl y) = decide (y <+: cl m) from Bool.eq_iff_iff.mpr ((starts_iff m (sl y)).trans decide_eq_true_iff.symm)]
        have ft : (L.take (i + 1)).filter (fun y => decide (y <+: cl m)) = (L.take i).filter (fun y => decide (y <+: cl m)) ++ if y <+: cl m then [y] else [] := by
          rw [take_snoc hL, List.filter_append]
          congr 1
          by_cases p : y <+: cl m
          · rw [if_pos p, List.filter_cons, if_pos (decide_eq_true p)]; rfl
          · rw [if_neg p, List.filter_cons, if_neg (by rw [decide_eq_false p]; simp)]; rfl
        by_cases p : y <+: cl m
        · rw [decide_eq_true p]
          rw [if_pos p] at ft
          refine iteT ⟨.str (sl y), rfl, _, e2, ?_, ?_, ?_⟩
          · rw [List.length_map, sizeLine_eq]
            have := List.length_filter_le (fun y => decide (y <+: cl m)) (L.take i)
            rw [List.length_take] at this
            omega
          · intro b o e
            rw [upd_ne (ne_of_none e nD2)]
            exact s2 _ _ e
          · rw [upd_same, ft, List.map_append]; rfl
        · rw [decide_eq_false p]
          rw [if_neg p, List.append_nil] at ft
          exact iteF ⟨s2, by rw [ft]; exact e2⟩
      · obtain ⟨s2, e2⟩ := hP
        rw [List.length_map, List.take_length] at e2
        refine ⟨D2, _, 0, _, rfl, rfl, SqL.of e2, atI_nat (j := 0) ?_, k H2 (Same.trans s1 s2)⟩
        rw [List.getElem?_map, ← List.head?_eq_getElem?, bf]; rfl
end
end K88
end

section
set_option maxHeartbeats 4000000
/-! can_join, clear_steps -/
namespace K88
open PySem PySem.Spec PyProof.Rows L2

/-- the steps told by clear_steps -/
def StepsAt (H : Hp) (D : Addr) (l : List (Nat × Nd)) : Prop := ∃ ts : List (Addr × Addr), H D = some (.lst (ts.map fun t => V.ref t.1)) ∧ ts.length = l.length ∧
  ∀ (j : Nat) (t : Addr × Addr), ts[j]? = some t → ∃ g, l[j]? = some g ∧ H t.1 = some (.tup [.str ⟨#[g.1]⟩, .ref t.2]) ∧ H t.2 = some (.tup [.int ((g.2.1 : Nat) : Int), .str (sl g.2.2)])
theorem StepsAt.same {H H' : Hp} {D : Addr} {l : List (Nat × Nd)} (h : StepsAt H D l) (s : Same H H') : StepsAt H' D l := by
  obtain ⟨ts, e, n, k⟩ := h
  exact ⟨ts, s _ _ e, n, fun j t ht => let ⟨g, h1, h2, h3⟩ := k j t ht; ⟨g, h1, s _ _ h2, s _ _ h3⟩⟩
theorem StepsAt.add {H H' : Hp} {D T U : Addr} {l : List (Nat × Nd)} {g : Nat × Nd} (h : StepsAt H D l) (s : ∀ b o, b ≠ D → H b = some o → H' b = some o) (eT : H' T = some (.tup [.str ⟨#[g.1]⟩, .ref U])) (eU : H' U = some (.tup [.int ((g.2.1 : Nat) : Int), .str (sl g.2.2)])) {xs : List V} (eD : H D = some (.lst xs)) (eD' : H' D = some (.lst (xs ++ [.ref T]))) : StepsAt H' D (l ++ [g]) := by
  obtain ⟨ts, e, n, k⟩ := h
  rw [eD] at e
  cases e
  refine ⟨ts ++ [(T, U)], by rw [eD', List.map_append]; rfl, by rw [List.length_append, List.length_append, n]; rfl, fun j t ht => ?_⟩
  by_cases c : j < ts.length
  · rw [List.getElem?_append_left c] at ht
    obtain ⟨g', h1, h2, h3⟩ := k j t ht
    refine ⟨g', by rw [List.getElem?_append_left (by omega)]; exact h1, s _ _ (fun z => ?_) h2, s _ _ (fun z => ?_) h3⟩
    · rw [z, eD] at h2; cases h2
    · rw [z, eD] at h3; cases h3
  · rw [List.getElem?_append_right (by omega)] at ht
    obtain ⟨q, hq⟩ : ∃ q, q = j - ts.length := ⟨_, rfl⟩
    rw [← hq] at ht
    cases q with
    | zero =>
      cases ht
      exact ⟨g, by rw [List.getElem?_append_right (by omega), show j - l.length = 0 by omega]; rfl, eT, eU⟩
    | succ q => simp at ht
def spClear (C : Addr) : Sp := fun vs H Q _ => ∃ (a : Addr) (w : Nat) (c : Ch) (m b : Str) (s : Nat), vs = [.ref a, .str m, .int (s : Int), .str b] ∧ MedO C H a w c ∧ 2 ≤ w ∧ w ≤ 4 ∧ WfC c ∧ okT w c ∧ s < c.length ∧ okMark m ∧ b.length ≤ 100 ∧
  ∀ (D : Addr) (H' : Hp), Same H H' → H D = none → StepsAt H' D (stepJ c (cl m) (s, cl b)) → Q (.ref D) H'
theorem fm_filter {α β : Type} (p : α → Bool) (f : α → Option β) : ∀ (l : List α), (∀ z ∈ l, p z = false → f z = none) → l.filterMap f = (l.filter p).filterMap f
  | [], _ => rfl
  | a :: l, h => by
    have ih := fm_filter p f l fun z hz => h z (List.mem_cons_of_mem _ hz)
    rw [List.filterMap_cons, List.filter_cons]
    cases q : p a with
    | true =>
      rw [if_pos rfl, List.filterMap_cons, ih]
    | false =>
      rw [h a List.mem_cons_self q]
      simpa using ih
theorem fm_congr {α β : Type} {f g : α → Option β} : ∀ (l : List α), (∀ z ∈ l, f z = g z) → l.filterMap f = l.filterMap g
  | [], _ => rfl
  | a :: l, h => by rw [List.filterMap_cons, List.filterMap_cons, h a List.mem_cons_self, fm_congr l fun z hz => h z (List.mem_cons_of_mem _ hz)]
theorem row_fm {β : Type} (g : Str × Nat → Option β) : ∀ (r : List (Str × Nat)), (keysR r).Nodup → (keysR r).filterMap (fun z => (lkp r z).bind fun v => g (z, v)) = r.filterMap g
  | [], _ => rfl
  | e :: r, nd => by
    have nd2 : e.1 ∉ keysR r ∧ (keysR r).Nodup := List.nodup_cons.mp nd
    have ih := row_fm g r nd2.2
    show (e.1 :: keysR r).filterMap _ = _
    have h2 : (keysR r).filterMap (fun z => (lkp (e :: r) z).bind fun v => g (z, v)) = (keysR r).filterMap (fun z => (lkp r z).bind fun v => g (z, v)) := by
      refine fm_congr _ fun z hz => ?_
      rw [lkp_cons, if_neg (fun (q : e.1 = z) => nd2.1 (by rw [q]; exact hz))]
    rw [List.filterMap_cons, h2, ih, lkp_cons, if_pos rfl, List.filterMap_cons]
    rfl
theorem sgs_fm {β : Type} {w : Nat} {r : List (Str × Nat)} (ok : okR w r) (g : Str × Nat → Option β) : (sgs.take w).filterMap (fun z => (lkp r z).bind fun v => g (z, v)) = r.filterMap g := by
  rw [fm_filter (fun z => decide (z ∈ keysR r)) _ _ (fun z _ h => by rw [lkp_none (of_decide_eq_false h)]; rfl), ← show keysR r = _ from ok]
  exact row_fm g r (okR_nd ok)
theorem str_app_len (a b : Str) : (a ++ b).length = a.length + b.length := by rw [← cl_len, ← cl_len, ← cl_len, cl_app, List.length_append]
theorem sgs_word : ∀ z ∈ sgs, wordD (.str z) = true := by decide +kernel
/-- what the first walk tells: each sign and where it leads -/
def EndsAt (H : Hp) (D : Addr) (r : List (Str × Nat)) (zs : List Str) : Prop := ∃ ts : List Addr, H D = some (.lst (ts.map V.ref)) ∧ ts.length = zs.length ∧ ∀ (j : Nat) (t : Addr), ts[j]? = some t → ∃ z, zs[j]? = some z ∧ H t = some (.tup [.str z, optV (lkp r z)])
theorem EndsAt.same {H H' : Hp} {D : Addr} {r : List (Str × Nat)} {zs : List Str} (h : EndsAt H D r zs) (s : Same H H') : EndsAt H' D r zs := by
  obtain ⟨ts, e, n, k⟩ := h
  exact ⟨ts, s _ _ e, n, fun j t ht => let ⟨z, h1, h2⟩ := k j t ht; ⟨z, h1, s _ _ h2⟩⟩
theorem EndsAt.add {H H' : Hp} {D T : Addr} {r : List (Str × Nat)} {zs : List Str} {z : Str} (h : EndsAt H D r zs) (s : ∀ b o, b ≠ D → H b = some o → H' b = some o) (eT : H' T = some (.tup [.str z, optV (lkp r z)])) {xs : List V} (eD : H D = some (.lst xs)) (eD' : H' D = some (.lst (xs ++ [.ref T]))) : EndsAt H' D r (zs ++ [z]) := by
  obtain ⟨ts, e, n, k⟩ := h
  rw [eD] at e
  cases e
  refine ⟨ts ++ [T], by rw [eD', List.map_append]; rfl, by rw [List.length_append, List.length_append, n]; rfl, fun j t ht => ?_⟩
  by_cases c : j < ts.length
  · rw [List.getElem?_append_left c] at ht
    obtain ⟨g', h1, h2⟩ := k j t ht
    refine ⟨g', by rw [List.getElem?_append_left (by omega)]; exact h1, s _ _ (fun z => ?_) h2⟩
    rw [z, eD] at h2; cases h2
  · rw [List.getElem?_append_right (by omega)] at ht
    obtain ⟨q, hq⟩ : ∃ q, q = j - ts.length := ⟨_, rfl⟩
    rw [← hq] at ht
    cases q with
    | zero =>
      cases ht
      exact ⟨z, by rw [List.getElem?_append_right (by omega), show j - zs.length = 0 by omega]; rfl, eT⟩
    | succ q => simp at ht
section
variable {P : Program} {w : World} {K : PySem.W.Frag} {mg : Str → Option Value} {base : Heap} {ad : Str → Addr} {fd : Str → FuncData}
theorem scCanJoin : FnScope ["medium", "mark", "state", "begun"] ["medium", "mark", "state", "begun"] (defScope sCanJoin) := ⟨rfl, rfl, rfl, by decide +kernel, rfl, by decide +kernel, by decide +kernel⟩
theorem ok_can (X : Tx K mg ad fd) (M : MedC K mg ad fd) (MW : MedW K mg ad fd) : FnOk P w K mg base CX0 3 (ad "can_join") (fd "can_join") ["medium", "mark", "state", "begun"] (spCan (ad "Medium")) := by
  have G_walk := ok_mwalk (P := P) (w := w) (base := base) X M MW
  refine X.F_can_join.ok scCanJoin (fun vs H Q E h => ?_) (fun cdv A outer s H vs Q E hr h => ?_)
  · obtain ⟨a, w, c, m, b, s, rfl, med, wf, hs, hm, hb, k⟩ := h
    rfl
  · obtain ⟨a, w, c, m, b, s, rfl, med, wf, hs, hm, hb, k⟩ := h
    have HR2 : Room 2 _ := hr
    refine ⟨_, (pss_one (ps_ret (by exact (pe_and (pe_cmpR op_notN (pe_meth (pv 0) M.cl MW.m_walk G_walk HR2 MW.b_walk .nil pass0 (pa_cons (pv 1) (pa_cons (pv 2) pa_nil))) pe_non (nomark _)) (pe_one (pe_cmpR op_eq (pe_bmK (K := K) rfl PySem.F.plainAttrs_str PySem.F.slot_str_find PySem.F.type_str_find mt_find (pe_op op_add_str (pv 3) (pv 1)) (pa_cons (pv 1) pa_nil)) (pe_callB (call_lenK (K := K) rfl) (by rfl) X.m_len (by decide +kernel) (pa_cons (pv 3) pa_nil)) (nomark _))))))), ?_⟩
    obtain ⟨dx, F, ls, L, ts, e, _⟩ := id med
    have m8 := hm.2.2
    refine ⟨.ref a, rfl, a, dx, _, rfl, e, rfl, .str m, rfl, .int (s : Int), rfl, a, w, c, s, m, rfl, med, wf, hs, hm.1, ?_⟩
    have q := k
    unfold accJ at q
    rw [ledS_N]
    cases z : ledN c s (cl m) with
    | none =>
      rw [z] at q
      refine ⟨rfl, _, rfl, ?_⟩
      rw [decide_eq_true (show optV none = V.non from rfl)]
      exact iteF q
    | some g =>
      rw [z] at q
      refine ⟨rfl, _, rfl, ?_⟩
      rw [decide_eq_false (show ¬ optV (some g) = V.non from fun y => by cases y)]
      refine iteT ⟨.str b, rfl, .str m, rfl, b, m, rfl, rfl, (by rw [sizeLine_eq]; omega), rfl, .str m, rfl, b ++ m, m, rfl, rfl, .str b, rfl, .str b, _, rfl, lenS (by omega), ?_⟩
      refine ⟨rfl, ?_⟩
      have e : decide (V.int (Txt.find (b ++ m) m) = V.int (b.length : Int)) = !infB (cl m) (cl b ++ cl m).dropLast := by
        rw [dec_int, Bool.eq_iff_iff, beq_iff_eq, find_first hm.ne, Bool.not_eq_true', infB_no]; rfl
      rw [e]
      exact q
theorem scClearSteps : FnScope ["medium", "mark", "state", "begun", "ends", "sign", "end"] ["medium", "mark", "state", "begun"] (defScope sClearSteps) := ⟨rfl, rfl, rfl, by decide +kernel, rfl, by decide +kernel, by decide +kernel⟩
theorem ok_clear (X : Tx K mg ad fd) (M : MedC K mg ad fd) (MW : MedW K mg ad fd) (MX : MedX K mg ad fd) : FnOk P w K mg base CX0 3 (ad "clear_steps") (fd "clear_steps") ["medium", "mark", "state", "begun"] (spClear (ad "Medium")) := by
  have G_begun_mark := ok_begun (P := P) (w := w) (base := base) X
  have G_walk := ok_mwalk (P := P) (w := w) (base := base) X M MW
  have G_signs := ok_msigns (P := P) (w := w) (base := base) X M MX
  refine X.F_clear_steps.ok scClearSteps (fun vs H Q E h => ?_) (fun cdv A outer s H vs Q E hr h => ?_)
  · obtain ⟨a, w, c, m, b, s, rfl, med, w2, w4, wf, okt, hs, hm, hb, k⟩ := h
    rfl
  · obtain ⟨a, w, c, m, b, s, rfl, med, w2, w4, wf, okt, hs, hm, hb, k⟩ := h
    have HR_begun_mark : Room 1 _ := hr.mono (by decide)
    have HR2 : Room 2 _ := hr
    refine ⟨_, (pss_cons (ps_setLc (i := 4) (own := [("sign", 5)]) (g := gName 5) rfl scClearSteps.nd rfl rfl (by rfl) (pi_str (pe_prop (pv 0) M.cl MX.p_signs G_signs HR2 MX.b_signs .nil pass0 rfl)) (blkOk_by (own := [("sign", 5)]) (N := ["medium", "mark", "state", "begun", "ends", "sign", "end"]) (sc := defScope sClearSteps) (by decide +kernel)) (fun _ _ _ _ _ => pg_name (i := 5) scClearSteps.nd rfl (Or.inl rfl)) (fun _ _ _ _ _ => pts_nil) (fun _ _ _ _ _ => (pe_tup (pa_cons (pv 5) (pa_cons (pe_meth (pv 0) M.cl MW.m_walk G_walk HR2 MW.b_walk .nil pass0 (pa_cons (pv 5) (pa_cons (pv 2) pa_nil))) pa_nil)))))
  (pss_one (ps_ret (by exact (pe_lc (own := [("sign", 5), ("end", 6)]) (g := gTup K 2 (gCons (gName 5) (gCons (gName 6) (gNil)))) rfl scClearSteps.nd (pi_listK (K := K) rfl (pv 4)) (blkOk_by (own := [("sign", 5), ("end", 6)]) (N := ["medium", "mark", "state", "begun", "ends", "sign", "end"]) (sc := defScope sClearSteps) (by decide +kernel)) (fun _ _ _ _ _ => pg_tupK (K := K) rfl rfl (pgs_cons (pg_name (i := 5) scClearSteps.nd rfl (Or.inl rfl)) (pgs_cons (pg_name (i := 6) scClearSteps.nd rfl (Or.inl rfl)) (pgs_nil)))) (fun _ _ _ _ _ => pts_one (PW.pt (pw_and (pt_cmpR op_notN (pv 6) pe_non (nomark _)) (pw_and1 (pt_cmpR op_ne (pe_op op_add_str (pv 3) (pv 5)) (pv 1) (nomark _)))))) (fun _ _ _ _ _ => (pe_tup (pa_cons (pv 5) (pa_cons (pe_tup (pa_cons (pv 6) (pa_cons (pe_call G_begun_mark HR_begun_mark (by rfl) X.g_begun_mark X.F_begun_mark.kp X.b_begun_mark .nil pass0 (pa_cons (pv 1) (pa_cons (pe_op op_add_str (pv 3) (pv 5)) pa_nil))) pa_nil))) pa_nil))))))))), ?_⟩
    obtain ⟨dx, F, ls, L, ts, e, _⟩ := id med
    have m8 := hm.2.2
    have sg := cut_let w2 w4
    have gs := okSg_size sg w4
    refine ⟨.ref a, rfl, a, dx, _, rfl, e, a, w, c, rfl, med, _, rfl, fun D nD => ?_⟩
    have lz : (sgs.take w).length = w := by rw [List.length_take]; show min w 4 = w; omega
    refine lc_it (w := walk_str (z := cutS "abcd" none (some (w : Int)))) (g := gName 5) (tt := tYes) (fun j H' => Same H H' ∧ EndsAt H' D (rowC c s) ((sgs.take w).take j)) ⟨Same.new nD, [], upd_same, rfl, fun j t h => by cases h⟩ (fun _ _ _ _ => True.intro) ?_ ?_
    · rintro j x H' H7 hj ⟨sj, eD⟩ ⟨rfl, cc, hcc, rfl⟩
      have hz := okSg_at sg hcc
      have hw : wordD (.str (⟨#[cc]⟩ : Str)) = true := sgs_word _ (List.mem_of_mem_take (List.mem_of_getElem? hz))
      refine gN ⟨rfl, yes_of (iteT ?_)⟩
      refine ⟨.str ⟨#[cc]⟩, rfl, .ref a, rfl, a, dx, _, rfl, sj _ _ e, rfl, .str ⟨#[cc]⟩, rfl, .int (s : Int), rfl, a, w, c, s, ⟨#[cc]⟩, rfl, med.same sj, wf, hs, hw, sz2, fun T nT => ?_⟩
      rw [ledS_N, show cl (⟨#[cc]⟩ : Str) = [cc] from rfl, ledN_one]
      obtain ⟨ts', e1, n1, k1⟩ := id eD
      have sT := Same.new nT (o := .tup [V.str ⟨#[cc]⟩, optV (lkp (rowC c s) ⟨#[cc]⟩)])
      refine ⟨_, sT _ _ e1, ?_, fun b' o eb => ?_, ?_⟩
      · rw [List.length_map, n1, List.length_take, lz, sizeLine_eq]; omega
      · rw [upd_ne (ne_of_none eb nD)]
        exact sT _ _ (sj _ _ eb)
      · rw [take_snoc hz]
        refine eD.add (T := T) (fun b' o nb eb => by rw [upd_ne nb]; exact sT _ _ eb) ?_ e1 upd_same
        rw [upd_ne (fun q => by rw [q, e1] at nT; cases nT), upd_same]
    · rintro H' ⟨sj, eD⟩
      rw [gs, List.take_of_length_le (by rw [lz]; exact Nat.le_refl _)] at eD
      obtain ⟨ts', e1, n1, k1⟩ := eD
      refine gN ?_
      refine ⟨.ref D, rfl, D, rfl, ⟨_, SqL.of e1⟩, fun D2 nD2 => ?_⟩
      let gg : Str → Option (Nat × Nd) := fun z => (lkp (rowC c s) z).bind fun v => goJ (cl m) (cl b) (z, v)
      have fin : (sgs.take w).filterMap gg = stepJ c (cl m) (s, cl b) := sgs_fm (row_ok okt s) (goJ (cl m) (cl b))
      refine lc_it (w := walk_list (K := K) (a := D) (xs := ts'.map V.ref)) (fun i H2 => Same H' H2 ∧ StepsAt H2 D2 (((sgs.take w).take i).filterMap gg)) ⟨Same.new nD2, [], upd_same, rfl, fun j t h => by cases h⟩ (fun _ _ _ ⟨s2, _⟩ => SqL.of (s2 _ _ e1)) (fun i v Ha Hb hi hP hy => ?_) (fun H2 hP => ?_)
      · obtain ⟨s2, st⟩ := hP
        obtain ⟨rfl, hv⟩ := hy
        rw [List.getElem?_map] at hv
        obtain ⟨t, ht, rfl⟩ := Option.map_eq_some_iff.mp hv
        obtain ⟨z, hz, et⟩ := k1 i t ht
        have fs : ((sgs.take w).take (i + 1)).filterMap gg = ((sgs.take w).take i).filterMap gg ++ (gg z).toList := by
          rw [take_snoc hz, List.filterMap_append]
          congr 1
        have zs := List.mem_of_mem_take (List.mem_of_getElem? hz)
        have zc := sgs_cz z zs
        obtain ⟨te, e2, n2, k2⟩ := id st
        have le2 : te.length ≤ 4 := by
          rw [n2]
          refine Nat.le_trans (List.length_filterMap_le _ _) ?_
          rw [List.length_take, lz]; omega
        refine ⟨t, _, rfl, SqT.of (s2 _ _ et), rfl, _, _, rfl, _, _, rfl, rfl, rfl, optV (lkp (rowC c s) z), rfl, rfl, _, rfl, ?_⟩
        cases q : lkp (rowC c s) z with
        | none =>
          rw [decide_eq_true (show optV none = V.non from rfl)]
          refine iteF (iteF ⟨s2, ?_⟩)
          rw [fs, show gg z = none from by show (lkp (rowC c s) z).bind _ = none; rw [q]; rfl]
          rw [show (none : Option (Nat × Nd)).toList = [] from rfl, List.append_nil]
          exact st
        | some g =>
          rw [decide_eq_false (show ¬ optV (some g) = V.non from fun y => by cases y)]
          have lb : b.length + z.length ≤ sizeLine := by rw [sgs_one z zs, sizeLine_eq]; omega
          refine iteT ⟨.str b, rfl, .str z, rfl, b, z, rfl, rfl, lb, .str m, rfl, rfl, _, rfl, ?_⟩
          have ez : cl (b ++ z) = cl b ++ [cz z] := by
            rw [cl_app]
            congr 1
            conv => lhs; rw [zc]
            rfl
          have gz : gg z = goJ (cl m) (cl b) (z, g) := by show (lkp (rowC c s) z).bind _ = _; rw [q]; rfl
          have dq : decide (V.str (b ++ z) = V.str m) = decide (cl b ++ [cz z] = cl m) := by
            rw [← ez]
            refine decide_eq_decide.mpr ⟨fun h => ?_, fun h => ?_⟩
            · cases h; rfl
            · rw [cl_ext h]
          rw [dq]
          by_cases p : cl b ++ [cz z] = cl m
          · rw [decide_eq_true p]
            refine iteF ⟨s2, ?_⟩
            rw [fs, gz, show goJ (cl m) (cl b) (z, g) = none from if_pos p]
            rw [show (none : Option (Nat × Nd)).toList = [] from rfl, List.append_nil]
            exact st
          · rw [decide_eq_false p]
            refine iteT ?_
            refine ⟨.str z, rfl, .int (g : Int), rfl, .str m, rfl, .str b, rfl, .str z, rfl, b, z, rfl, rfl, lb, m, b ++ z, rfl, (by omega), (by rw [str_app_len, sgs_one z zs]; omega), fun H3 s3 => ?_⟩
            refine ⟨sz2, fun U nU => ⟨sz2, fun T nT => ?_⟩⟩
            rw [ez] at nT ⊢
            have sU := Same.new nU (o := .tup [V.int (g : Int), V.str (sl (bord (cl m) (cl b ++ [cz z])))])
            have sT := Same.new nT (o := .tup [V.str z, V.ref U])
            have s4 := Same.trans s3 (Same.trans sU sT)
            have gg2 : gg z = some (cz z, (g, bord (cl m) (cl b ++ [cz z]))) := by rw [gz]; exact if_neg p
            refine ⟨_, s4 _ _ e2, ?_, fun b' o eb => ?_, ?_⟩
            · rw [List.length_map, sizeLine_eq]; omega
            · rw [upd_ne (ne_of_none eb nD2)]
              exact s4 _ _ (s2 _ _ eb)
            · rw [fs, gg2]
              have nTD : T ≠ D2 := fun q => by rw [q] at nT; rw [sU _ _ (s3 _ _ e2)] at nT; cases nT
              have nUD : U ≠ D2 := fun q => by rw [q] at nU; rw [s3 _ _ e2] at nU; cases nU
              refine st.add (g := (cz z, (g, bord (cl m) (cl b ++ [cz z])))) (T := T) (U := U) (fun b' o nb eb => by rw [upd_ne nb]; exact s4 _ _ eb) ?_ ?_ e2 upd_same
              · rw [upd_ne nTD, upd_same, ← zc]
              · rw [upd_ne nUD]
                exact sT _ _ upd_same
      · obtain ⟨s2, st⟩ := hP
        rw [List.length_map, n1, List.take_length, fin] at st
        exact k D2 H2 (Same.trans sj s2) (none_back sj nD2) st
end
end K88
end

section
set_option maxHeartbeats 4000000
/-! join -/
namespace K88
open PySem PySem.Spec PyProof.Rows L2

def kj (u : Nd) : List Key := [.inl (u.1 : Int), .inr (sl u.2)]
theorem kj_inj {u v : Nd} (h : kj u = kj v) : u = v := by
  unfold kj at h
  injection h with h1 h2
  injection h2 with h2 _
  injection h1 with h1
  injection h2 with h2
  have h2 := congrArg cl h2
  rw [cl_sl, cl_sl] at h2
  exact Prod.ext (by omega) h2
/-- the order, as it stands in the heap -/
def OrdJ (H : Hp) (O : Addr) (o : Ord Nd) : Prop := ∃ ts : List Addr, H O = some (.lst (ts.map V.ref)) ∧ ts.length = o.length ∧ ∀ (j : Nat) (t : Addr), ts[j]? = some t → ∃ e, o[j]? = some e ∧ H t = some (.tup [.int ((e.1.1 : Nat) : Int), .str (sl e.1.2), .str (sl e.2)])
def MetJ (H : Hp) (M : Addr) (o : Ord Nd) : Prop := H M = some (.dT (o.map fun e => (kj e.1, V.bl true)))
theorem OrdJ.same {H H' : Hp} {O : Addr} {o : Ord Nd} (h : OrdJ H O o) (s : Same H H') : OrdJ H' O o := by
  obtain ⟨ts, e, n, k⟩ := h
  exact ⟨ts, s _ _ e, n, fun j t ht => let ⟨g, h1, h2⟩ := k j t ht; ⟨g, h1, s _ _ h2⟩⟩
theorem OrdJ.add {H H' : Hp} {O T : Addr} {o : Ord Nd} {e : Nd × NL} (h : OrdJ H O o) (s : ∀ (b : Addr) (u : HO), b ≠ O → (∀ kvs, u ≠ .dT kvs) → H b = some u → H' b = some u) (eT : H' T = some (.tup [.int ((e.1.1 : Nat) : Int), .str (sl e.1.2), .str (sl e.2)])) {xs : List V} (eO : H O = some (.lst xs)) (eO' : H' O = some (.lst (xs ++ [.ref T]))) : OrdJ H' O (o ++ [e]) := by
  obtain ⟨ts, e0, n, k⟩ := h
  rw [eO] at e0
  cases e0
  refine ⟨ts ++ [T], by rw [eO', List.map_append]; rfl, by rw [List.length_append, List.length_append, n]; rfl, fun j t ht => ?_⟩
  by_cases c : j < ts.length
  · rw [List.getElem?_append_left c] at ht
    obtain ⟨g', h1, h2⟩ := k j t ht
    refine ⟨g', by rw [List.getElem?_append_left (by omega)]; exact h1, s _ _ (fun z => ?_) (fun kvs q => by cases q) h2⟩
    rw [z, eO] at h2; cases h2
  · rw [List.getElem?_append_right (by omega)] at ht
    obtain ⟨q, hq⟩ : ∃ q, q = j - ts.length := ⟨_, rfl⟩
    rw [← hq] at ht
    cases q with
    | zero =>
      cases ht
      exact ⟨e, by rw [List.getElem?_append_right (by omega), show j - o.length = 0 by omega]; rfl, eT⟩
    | succ q => simp at ht
theorem met_val {o : Ord Nd} (v : Nd) : (valV (o.map fun e => (kj e.1, V.bl true)) (kj v)).isSome = decide (v ∈ o.map (·.1)) := by
  rw [← valV_any, List.any_map, Bool.eq_iff_iff, List.any_eq_true, decide_eq_true_eq, List.mem_map]
  constructor
  · rintro ⟨e, he, h⟩
    exact ⟨e, he, kj_inj (of_decide_eq_true h)⟩
  · rintro ⟨e, he, h⟩
    exact ⟨e, he, decide_eq_true (by show kj e.1 = kj v; rw [h])⟩
theorem met_put {o : Ord Nd} {v : Nd} (x : NL) (h : v ∉ o.map (·.1)) : putK (o.map fun e => (kj e.1, V.bl true)) (kj v) (.bl true) = (o ++ [(v, x)]).map fun e => (kj e.1, V.bl true) := by
  have : valV (o.map fun e => (kj e.1, V.bl true)) (kj v) = none := by
    have q := met_val (o := o) v
    rw [decide_eq_false h] at q
    cases z : valV (o.map fun e => (kj e.1, V.bl true)) (kj v) with
    | none => rfl
    | some y => rw [z] at q; cases q
  rw [putK_new _ this, List.map_append]; rfl
def optT : Option NL → V
  | none => .non
  | some t => .str (sl t)
/-- join: I, InvalidRow -/
def spJoin (C I : Addr) : Sp := fun vs H Q E => ∃ (a : Addr) (w : Nat) (c : Ch) (m r : Str), vs = [.ref a, .str m, .str r] ∧ MedO C H a w c ∧ 2 ≤ w ∧ w ≤ 4 ∧ WfC c ∧ okT w c ∧ c.length ≤ 64 ∧ okMark m ∧ okRow r ∧
  ((ledN c 0 (cl r)).isSome = true → ¬ cl m <:+: cl r → ∀ H', Same H H' → Q (optT (joinJ c (cl m) (cl r))) H') ∧
  (¬ ((ledN c 0 (cl r)).isSome = true ∧ ¬ cl m <:+: cl r) → Err I E H (.str r))
section
variable {P : Program} {w : World} {K : PySem.W.Frag} {mg : Str → Option Value} {base : Heap} {ad : Str → Addr} {fd : Str → FuncData}
theorem scJoin : FnScope ["medium", "mark", "row", "begin", "order", "met", "at", "state", "begun", "added", "sign", "further"] ["medium", "mark", "row"] (defScope sJoin) := ⟨rfl, rfl, rfl, by decide +kernel, rfl, by decide +kernel, by decide +kernel⟩
theorem ok_join (X : Tx K mg ad fd) (M : MedC K mg ad fd) (MW : MedW K mg ad fd) (MX : MedX K mg ad fd) {I fI : Addr} (L_R : ErrV K mg "InvalidRow" I fI) : FnOk P w K mg base (L2.CX P w) 4 (ad "join") (fd "join") ["medium", "mark", "row"] (spJoin (ad "Medium") I) := by
  have G_check_mark := ok_check_mark (P := P) (w := w) (base := base) X
  have G_begun_mark := ok_begun (P := P) (w := w) (base := base) X
  have G_can_join := ok_can (P := P) (w := w) (base := base) X M MW
  have G_clear_steps := ok_clear (P := P) (w := w) (base := base) X M MW MX
  have G_is_short_row := ok_is_short_row (P := P) (w := w) (base := base) X
  have G_check_medium := ok_check_medium (P := P) (w := w) (base := base) X M
  have G_walk := ok_mwalk (P := P) (w := w) (base := base) X M MW
  have G_con := ok_mconW (P := P) (w := w) (base := base) X M MW
  refine X.F_join.okX scJoin (fun vs H Q E h => ?_) (fun cdv A outer s H vs Q E hr h => ?_)
  · obtain ⟨a, w, c, m, r, rfl, med, w2, w4, wf, okt, cl64, hm, hr0, kq, ke⟩ := h
    rfl
  · obtain ⟨a, w, c, m, r, rfl, med, w2, w4, wf, okt, cl64, hm, hr0, kq, ke⟩ := h
    have HR_check_mark : Room 2 _ := hr.mono (by decide)
    have HR_begun_mark : Room 1 _ := hr.mono (by decide)
    have HR_can_join : Room 3 _ := hr
    have HR_clear_steps : Room 3 _ := hr
    have HR_is_short_row : Room 2 _ := hr.mono (by decide)
    have HR_check_medium : Room 1 _ := hr.mono (by decide)
    have HU : (A.deeper (envOfC "join" (defScope sJoin) s.heap.objs.size (ad "join") cdv)).units + 1 < cLine := by have := hr.un; omega
    have HR2 : Room 2 _ := hr.mono (by decide)
    have HRX : Room 1 _ := hr.mono (by decide)
    refine ⟨_, (pss_cons (ps_expr (by exact (pe_call G_check_medium HR_check_medium (by rfl) X.g_check_medium X.F_check_medium.kp X.b_check_medium .nil pass0 (pa_cons (pv 0) pa_nil))))
  (pss_cons (ps_expr (by exact (pe_call G_check_mark HR_check_mark (by rfl) X.g_check_mark X.F_check_mark.kp X.b_check_mark .nil pass0 (pa_cons (pv 1) pa_nil))))
  (pss_cons (ps_if (PW.pt (pw_or (pt_not (pt_val (pe_call G_is_short_row HR_is_short_row (by rfl) X.g_is_short_row X.F_is_short_row.kp X.b_is_short_row .nil pass0 (pa_cons (pv 2) pa_nil)))) (pw_or (pt_cmpR (op_notInO G_con HR2 MW.b_con MW.con MW.conf) (pv 2) (pv 0) rfl) (pw_or1 (pt_cmpR op_in_str (pv 1) (pv 2) rfl)))))
  (pss_one (ps_raise rfl (takes_of rfl rfl rfl rfl) (pmk_value L_R.T bs_value L_R.J L_R.F HRX (by rfl) L_R.G (by exact (pa_cons (pv 2) pa_nil)))))
  pss_nil)
  (pss_cons (ps_set (i := 3) scJoin.nd rfl (.inl rfl) (by exact (pe_tup (pa_cons (pe_meth (pv 0) M.cl MW.m_walk G_walk HR2 MW.b_walk .nil pass0 (pa_cons (pv 2) (pa_cons pe_int pa_nil))) (pa_cons (pe_call G_begun_mark HR_begun_mark (by rfl) X.g_begun_mark X.F_begun_mark.kp X.b_begun_mark .nil pass0 (pa_cons (pv 1) (pa_cons (pv 2) pa_nil))) pa_nil)))))
  (pss_cons (ps_set (i := 4) scJoin.nd rfl (.inl rfl) (by exact (pe_lst (pa_cons (pe_tup (StX.pa_star (pv 3) (pa_cons pe_str pa_nil))) pa_nil))))
  (pss_cons (ps_set (i := 5) scJoin.nd rfl (.inl rfl) (by exact (pe_disp1T HU (pv 3) pe_bl)))
  (pss_cons (ps_set (i := 6) scJoin.nd rfl (.inl rfl) (by exact pe_int))
  (pss_cons (ps_while (passes_of rfl) (pt_cmpR op_lt (pv 6) (pe_callB (call_lenK (K := K) rfl) (by rfl) X.m_len (by decide +kernel) (pa_cons (pv 4) pa_nil)) (nomark _))
  (pss_cons (ps_asg (by exact (pe_ix (ix_listK (K := K) rfl) (pv 4) (pv 6) (fun _ _ => rfl))) (pg_tup rfl (pgs_cons (pg_name (i := 7) scJoin.nd rfl (.inl rfl)) (pgs_cons (pg_name (i := 8) scJoin.nd rfl (.inl rfl)) (pgs_cons (pg_name (i := 9) scJoin.nd rfl (.inl rfl)) pgs_nil)))))
  (pss_cons (ps_aug (i := 6) scJoin.nd rfl (.inl rfl) pe_int ip_add)
  (pss_cons (ps_if (pt_val (pe_call G_can_join HR_can_join (by rfl) X.g_can_join X.F_can_join.kp X.b_can_join .nil pass0 (pa_cons (pv 0) (pa_cons (pv 1) (pa_cons (pv 7) (pa_cons (pv 8) pa_nil))))))
  (pss_one (ps_ret (by exact (pv 9))))
  pss_nil)
  (pss_one (ps_for (passes_of rfl) rfl (pi_list (pe_call G_clear_steps HR_clear_steps (by rfl) X.g_clear_steps X.F_clear_steps.kp X.b_clear_steps .nil pass0 (pa_cons (pv 0) (pa_cons (pv 1) (pa_cons (pv 7) (pa_cons (pv 8) pa_nil)))))) (pg_tup rfl (pgs_cons (pg_name (i := 10) scJoin.nd rfl (.inl rfl)) (pgs_cons (pg_name (i := 11) scJoin.nd rfl (.inl rfl)) pgs_nil)))
  (pss_one (ps_if (pt_cmp (pc_dnotin HU (pv 11) (pv 5)))
  (pss_cons (ps_asg (by exact pe_bl) (pg_sub (pv 5) (pv 11) (set_dict HU)))
  (pss_one (ps_expr (by exact (pe_bm PySem.F.plainAttrs_list PySem.F.slot_list_append PySem.F.type_list_append mt_append (pv 4) (pa_cons (pe_tup (StX.pa_star (pv 11) (pa_cons (pe_op op_add_str (pv 9) (pv 10)) pa_nil))) pa_nil))))))
  pss_nil))))))))
  (pss_one (ps_ret (by exact pe_non))))))))))), ?_⟩
    obtain ⟨dx, F, ls, L, ts, e, _⟩ := id med
    have m8 := hm.2.2
    refine ⟨.ref a, rfl, a, w, c, rfl, med, .str m, rfl, m, rfl, hm, fun H1 s1 => ?_⟩
    refine ⟨.str r, rfl, r, rfl, hr0, fun H2 s2 => ⟨true, rfl, iteF ?_⟩⟩
    have s12 := Same.trans s1 s2
    refine ⟨.str r, rfl, .ref a, rfl, a, dx, _, rfl, s12 _ _ e, a, w, c, r, rfl, med.same s12, wf, ⟨hr0.1, by have := hr0.2; omega⟩, fun H3 s3 => ⟨_, rfl, _, rfl, ?_⟩⟩
    have s13 := Same.trans s12 s3
    rw [ledS_N]
    cases e0 : ledN c 0 (cl r) with
    | none =>
      exact iteT ⟨.str r, rfl, _, rfl, fun d nd => ke (fun q => by rw [e0] at q; cases q.1) H3 d s13 nd⟩
    | some v0 =>
      refine iteF ⟨.str m, rfl, .str r, rfl, m, r, rfl, rfl, _, rfl, ?_⟩
      by_cases n0 : cl m <:+: cl r
      · rw [(in_iff r m).mpr n0]
        exact iteT ⟨.str r, rfl, _, rfl, fun d nd => ke (fun q => q.2 n0) H3 d s13 nd⟩
      · rw [show (!(Builtin.Str.occurrences r m 0 r.length 1).isEmpty) = false from Bool.eq_false_iff.mpr fun q => n0 ((in_iff r m).mp q)]
        refine iteF ?_
        have kq2 := kq (by rw [e0]; rfl) n0
        refine ⟨.ref a, rfl, a, dx, _, rfl, s13 _ _ e, rfl, .str r, rfl, a, w, c, 0, r, rfl, med.same s13, wf, wf.1, hr0.1, ?_⟩
        rw [ledS_N, e0, show optV (some v0) = V.int (v0 : Int) from rfl]
        refine ⟨.str m, rfl, .str r, rfl, m, r, rfl, (by omega), (by have := hr0.2; omega), fun H4 s4 => ⟨sz2, fun t0 n0' => ?_⟩⟩
        refine gN ?_
        let Bg : Nd := (v0, bord (cl m) (cl r))
        have lb : ∀ {y : NL}, y <+: cl m → y.length ≤ 8 := fun {y} p => by have := p.length_le; rw [cl_len] at this; omega
        refine ⟨.ref t0, rfl, t0, _, rfl, .inl (SqT.of upd_same), (by rw [sizeLine_eq]; exact (by decide : 3 ≤ 16777216)), fun t1 n1 => ⟨sz1, fun O nO => ?_⟩⟩
        refine gN ?_
        refine fun Mm nM => ⟨.ref t0, rfl, _, _, rfl, upd_same, t0, kj Bg, rfl, ?_, ?_⟩
        · have q1 : t0 ≠ t1 := fun q => by rw [← q, upd_same] at n1; cases n1
          have q2 : t0 ≠ O := fun q => by rw [← q, upd_ne q1, upd_same] at nO; cases nO
          have q3 : t0 ≠ Mm := fun q => by rw [← q, upd_ne q2, upd_ne q1, upd_same] at nM; cases nM
          rw [upd_ne q3, upd_ne q2, upd_ne q1, upd_same]; rfl
        have s04 := Same.trans s13 s4
        have sA : Same H (upd (upd (upd H4 t0 (.tup [.int (v0 : Int), .str (sl (bord (cl m) (cl r)))])) t1 (.tup ([.int (v0 : Int), .str (sl (bord (cl m) (cl r)))] ++ [.str ""]))) O (.lst [.ref t1])) := Same.trans s04 (Same.trans (Same.new n0') (Same.trans (Same.new n1) (Same.new nO)))
        have nMH : H Mm = none := none_back sA nM
        have nOH : H O = none := none_back (Same.trans s04 (Same.trans (Same.new n0') (Same.new n1))) nO
        have OM : O ≠ Mm := fun q => by rw [← q, upd_same] at nM; cases nM
        have t1O : t1 ≠ O := fun q => by rw [← q, upd_same] at nO; cases nO
        have t1M : t1 ≠ Mm := fun q => by rw [← q, upd_ne t1O, upd_same] at nM; cases nM
        have ord0 : OrdJ (upd (upd (upd (upd (upd H4 t0 (.tup [.int (v0 : Int), .str (sl (bord (cl m) (cl r)))])) t1 (.tup ([.int (v0 : Int), .str (sl (bord (cl m) (cl r)))] ++ [.str ""]))) O (.lst [.ref t1])) Mm (.dT [])) Mm (.dT [(kj Bg, .bl true)])) O [(Bg, [])] := by
          refine ⟨[t1], by rw [upd_ne OM, upd_ne OM, upd_same]; rfl, rfl, fun j t h => ?_⟩
          cases j with
          | zero =>
            cases h
            exact ⟨_, rfl, by rw [upd_ne t1M, upd_ne t1M, upd_ne t1O, upd_same]; rfl⟩
          | succ j => simp at h
        have met0 : MetJ (upd (upd (upd (upd (upd H4 t0 (.tup [.int (v0 : Int), .str (sl (bord (cl m) (cl r)))])) t1 (.tup ([.int (v0 : Int), .str (sl (bord (cl m) (cl r)))] ++ [.str ""]))) O (.lst [.ref t1])) Mm (.dT [])) Mm (.dT [(kj Bg, .bl true)])) Mm [(Bg, [])] := upd_same
        have sB : Same H (upd (upd (upd (upd (upd H4 t0 (.tup [.int (v0 : Int), .str (sl (bord (cl m) (cl r)))])) t1 (.tup ([.int (v0 : Int), .str (sl (bord (cl m) (cl r)))] ++ [.str ""]))) O (.lst [.ref t1])) Mm (.dT [])) Mm (.dT [(kj Bg, .bl true)])) := fun b o eb => by
          have nb := ne_of_none eb nMH
          rw [upd_ne nb, upd_ne nb]
          exact sA _ _ eb
        generalize (upd (upd (upd (upd (upd H4 t0 (.tup [.int (v0 : Int), .str (sl (bord (cl m) (cl r)))])) t1 (.tup ([.int (v0 : Int), .str (sl (bord (cl m) (cl r)))] ++ [.str ""]))) O (.lst [.ref t1])) Mm (.dT [])) Mm (.dT [(kj Bg, .bl true)])) = H5 at ord0 met0 sB ⊢
        clear sA nM nO n1 n0' s4
        refine gN ?_
        refine gN ?_
        let N := c.length * (cl m).length
        have N512 : N ≤ 512 := Nat.le_trans (Nat.mul_le_mul cl64 (by rw [cl_len]; exact m8)) (by decide)
        let st := fun (A : Int) (r7 r8 r9 r10 r11 : Option V) => [some (V.ref a), some (V.str m), some (V.str r), some (V.ref t0), some (V.ref O), some (V.ref Mm), some (V.int A), r7, r8, r9, r10, r11]
        refine ⟨fun mm σ H' => ∃ (i : Nat) (o : Ord Nd) (r7 r8 r9 r10 r11 : Option V), σ = st (i : Nat) r7 r8 r9 r10 r11 ∧ mm = N + 1 - i ∧ i ≤ N ∧ Same H H' ∧ OrdJ H' O o ∧ MetJ H' Mm o ∧ InvO (stepJ c (cl m)) (accJ c (cl m)) Bg i [] o ∧ bfsO (stepJ c (cl m)) (accJ c (cl m)) (N + 1 - i) i o = joinJ c (cl m) (cl r),
          ⟨N + 1, 0, [(Bg, [])], _, _, _, _, _, rfl, rfl, Nat.zero_le _, sB, ord0, met0, InvO.start, by unfold joinJ; rw [e0]; rfl⟩, ?_⟩
        rintro mm σ H6 ⟨i, o, r7, r8, r9, r10, r11, rfl, rfl, iN, s6, ord, met, inv, go⟩
        have bd : ∀ {p : List (Nat × Nd)} {o : Ord Nd}, InvO (stepJ c (cl m)) (accJ c (cl m)) Bg i p o → o.length ≤ N := fun I => bdJ wf okt hm.ne e0 n0 I
        have ol := bd inv
        obtain ⟨ts, eO, lp, kp⟩ := id ord
        refine ⟨.int (i : Nat), rfl, .ref O, rfl, .ref O, _, rfl, .inl ⟨_, SqL.of eO, rfl⟩, _, _, rfl, rfl, _, rfl, ?_⟩
        rw [List.length_map, lp]
        by_cases hi : i < o.length
        · rw [decide_eq_true (show ((i : Nat) : Int) < ((o.length : Nat) : Int) by omega)]
          obtain ⟨⟨u, t⟩, hu⟩ : ∃ e, o[i]? = some e := ⟨o[i], List.getElem?_eq_getElem hi⟩
          obtain ⟨pa, hpa⟩ : ∃ pa, ts[i]? = some pa := ⟨ts[i]'(by omega), List.getElem?_eq_getElem (by omega)⟩
          obtain ⟨e', he', ep⟩ := kp i pa hpa
          rw [hu] at he'
          cases he'
          obtain ⟨ru1, ru2, ru3⟩ := (runs_iff okt hm.ne e0 n0).mp (inv.run _ (List.mem_of_getElem? hu))
          have u1 : u.1 < c.length := ledN_lt wf wf.1 ru1
          have u2 : u.2.length ≤ 8 := lb (by rw [show u.2 = _ from ru2]; exact bord_pre ..)
          refine iteT ⟨_, fun σ' H' h => ⟨N + 1 - (i + 1), by omega, h⟩, .ref O, rfl, .int (i : Nat), rfl, O, _, (i : Nat), .ref pa, rfl, rfl, SqL.of eO, atI_nat (by rw [List.getElem?_map, hpa]; rfl), ?_⟩
          refine ⟨pa, _, rfl, SqT.of ep, rfl, _, _, rfl, _, _, rfl, _, _, rfl, rfl, ?_⟩
          refine ⟨.int (i : Nat), rfl, (i : Int), 1, rfl, rfl, ?_⟩
          refine ⟨.ref a, rfl, .str m, rfl, .int ((u.1 : Nat) : Int), rfl, .str (sl u.2), rfl, a, w, c, m, sl u.2, u.1, rfl, med.same s6, wf, u1, hm, (by rw [sl_len]; omega), _, rfl, ?_⟩
          rw [show ((u.1, cl (sl u.2)) : Nd) = u from rfl]
          by_cases ac : accJ c (cl m) u = true
          · rw [ac]
            refine iteT ⟨.str (sl t), rfl, ?_⟩
            have q : joinJ c (cl m) (cl r) = some t := by
              rw [← go, show N + 1 - i = (N - i) + 1 by omega]
              conv => lhs; unfold bfsO
              rw [hu]
              show (if accJ c (cl m) u = true then some t else _) = _
              rw [if_pos ac]
            rw [q] at kq2
            exact kq2 H6 s6
          · rw [Bool.eq_false_iff.mpr ac]
            have ac2 := Bool.eq_false_iff.mpr ac
            refine iteF ?_
            refine ⟨.ref a, rfl, .str m, rfl, .int ((u.1 : Nat) : Int), rfl, .str (sl u.2), rfl, a, w, c, m, sl u.2, u.1, rfl, med.same s6, w2, w4, wf, okt, u1, hm, (by rw [sl_len]; omega), fun D H7 s7 nD sa => ?_⟩
            rw [show ((u.1, cl (sl u.2)) : Nd) = u from rfl] at sa
            have go2 : bfsO (stepJ c (cl m)) (accJ c (cl m)) (N + 1 - (i + 1)) (i + 1) (addAllO t o (stepJ c (cl m) u)) = joinJ c (cl m) (cl r) := by
              rw [← go, show N + 1 - i = (N + 1 - (i + 1)) + 1 by omega]
              conv => rhs; unfold bfsO
              rw [hu]
              show _ = if accJ c (cl m) u = true then some t else _
              rw [if_neg ac]
            have upS := stepJ_up okt (cl m) u
            generalize hS : stepJ c (cl m) u = S at sa go2 upS
            obtain ⟨qs, eD, lq, kq'⟩ := id sa
            have s67 := Same.trans s6 s7
            have lS : S.length ≤ 64 := by
              rw [← hS]
              refine Nat.le_trans (List.length_filterMap_le _ _) ?_
              exact Nat.le_trans (okR_len (row_ok okt u.1)) (by decide)
            have OD : O ≠ D := fun q => by rw [q] at eO; rw [nD] at eO; cases eO
            have MD : Mm ≠ D := fun q => by rw [← q, show H6 Mm = _ from met] at nD; cases nD
            refine ⟨D, rfl, ⟨_, SqL.of eD⟩, ?_⟩
            refine for_it (w := walk_list (K := K) (a := D) (xs := qs.map fun t => V.ref t.1)) (fun j σ H' => ∃ (oj : Ord Nd) (r10 r11 : Option V), σ = st ((i : Int) + 1) (some (.int ((u.1 : Nat) : Int))) (some (.str (sl u.2))) (some (.str (sl t))) r10 r11 ∧ Same H H' ∧ H' D = some (.lst (qs.map fun t => V.ref t.1)) ∧ (∀ (j : Nat) (t : Addr × Addr), qs[j]? = some t → ∃ g, S[j]? = some g ∧ H' t.1 = some (.tup [.str ⟨#[g.1]⟩, .ref t.2]) ∧ H' t.2 = some (.tup [.int ((g.2.1 : Nat) : Int), .str (sl g.2.2)])) ∧ OrdJ H' O oj ∧ MetJ H' Mm oj ∧ InvO (stepJ c (cl m)) (accJ c (cl m)) Bg i (S.take j) oj ∧ oj[i]? = some (u, t) ∧ oj = addAllO t o (S.take j))
              ⟨o, _, _, rfl, s67, eD, kq', ord.same s7, s7 _ _ met, inv, hu, rfl⟩ (fun j σ H' _ ⟨_, _, _, _, _, x, _⟩ => SqL.of x) ?_ ?_
            · rintro j x σ Ha Hb hj ⟨oj, r10, r11, rfl, s8, eD8, k8, ord8, met8, inv8, hu8, eo8⟩ ⟨rfl, hx⟩
              rw [List.getElem?_map] at hx
              obtain ⟨q, hq, rfl⟩ := Option.map_eq_some_iff.mp hx
              obtain ⟨g, hg, e1, e2⟩ := k8 j q hq
              have hgm : g ∈ stepJ c (cl m) u := by rw [hS]; exact List.mem_of_getElem? hg
              have ltg : ∀ y ∈ S.take j, y.1 < g.1 := fun y hy => by
                obtain ⟨k, hk⟩ := List.mem_iff_getElem?.mp hy
                rw [List.getElem?_take] at hk
                split at hk
                · rename_i hkj
                  have lj := (List.getElem?_eq_some_iff.mp hg).1
                  have lk := (List.getElem?_eq_some_iff.mp hk).1
                  have := List.pairwise_iff_getElem.mp upS k j lk lj hkj
                  rw [(List.getElem?_eq_some_iff.mp hk).2, (List.getElem?_eq_some_iff.mp hg).2] at this
                  exact this
                · cases hk
              obtain ⟨inv9, hu9⟩ := inv8.add hu8 hgm ltg
              rw [← take_snoc hg] at inv9
              have eo9 : addO t oj g = addAllO t o (S.take (j + 1)) := by
                rw [take_snoc hg, eo8]
                unfold addAllO
                rw [List.foldl_append]; rfl
              have gb : (g.2.2).length ≤ 8 := by
                rw [((mem_step okt).mp (show (g.1, g.2) ∈ _ from hgm)).2.2]
                exact lb (bord_pre ..)
              refine ⟨q.1, _, rfl, SqT.of e1, rfl, _, _, rfl, _, _, rfl, rfl, ?_⟩
              refine ⟨.ref q.2, rfl, .ref Mm, rfl, Mm, _, rfl, DGet.t met8 (k := kj g.2) e2, _, rfl, ?_⟩
              rw [met_val]
              by_cases hin : g.2 ∈ oj.map (·.1)
              · rw [decide_eq_true hin]
                refine iteF ⟨addO t oj g, _, _, rfl, s8, eD8, k8, ?_, ?_, inv9, hu9, eo9⟩
                · unfold addO; rw [if_pos hin]; exact ord8
                · unfold addO; rw [if_pos hin]; exact met8
              · rw [decide_eq_false hin]
                have ea : addO t oj g = oj ++ [(g.2, t ++ [g.1])] := if_neg hin
                have ojl : (addO t oj g).length ≤ N := bd inv9
                rw [ea] at ojl inv9 hu9 eo9
                rw [List.length_append] at ojl
                refine iteT ?_
                have tl : t.length ≤ 512 := by have := inv.len i _ hu; simp only at this; omega
                obtain ⟨ts8, eO8, lp8, _⟩ := id ord8
                have qO : q.1 ≠ O := fun z => by rw [z, eO8] at e1; cases e1
                have qM : q.1 ≠ Mm := fun z => by rw [z, show Hb Mm = _ from met8] at e1; cases e1
                have q2O : q.2 ≠ O := fun z => by rw [z, eO8] at e2; cases e2
                have q2M : q.2 ≠ Mm := fun z => by rw [z, show Hb Mm = _ from met8] at e2; cases e2
                refine ⟨.ref Mm, rfl, .ref q.2, rfl, Mm, _, rfl, DPut.t met8 (k := kj g.2) e2 (by rw [List.length_map, sizeLine_eq]; omega), ?_⟩
                rw [met_put (t ++ [g.1]) hin]
                refine ⟨.ref O, rfl, .inl ⟨rfl, _, SqL.of (by rw [upd_ne OM]; exact eO8)⟩, .ref q.2, rfl, q.2, _, rfl, .inl (SqT.of (by rw [upd_ne q2M]; exact e2)), .str (sl t), rfl, .str ⟨#[g.1]⟩, rfl, sl t, ⟨#[g.1]⟩, rfl, rfl, (by rw [sl_len, sizeLine_eq]; show t.length + 1 ≤ _; omega), (by rw [sizeLine_eq]; exact (by decide : 3 ≤ 16777216)), fun T nT => ?_⟩
                refine ⟨O, _, _, rfl, rfl, (by rw [upd_ne (fun z => by rw [← z, upd_ne OM, eO8] at nT; cases nT), upd_ne OM]; exact eO8), (by rw [List.length_map, lp8, sizeLine_eq]; omega), ?_⟩
                have kp2 : ∀ {b : Addr} {o : HO}, b ≠ O → b ≠ Mm → Hb b = some o → (upd (upd (upd Hb Mm (.dT ((oj ++ [(g.2, t ++ [g.1])]).map fun e => (kj e.1, V.bl true)))) T (.tup ([V.int ((g.2.1 : Nat) : Int), V.str (sl g.2.2)] ++ [V.str (sl t ++ ⟨#[g.1]⟩)]))) O (.lst (ts8.map V.ref ++ [V.ref T]))) b = some o := fun {b o} h1 h2 eb => by
                  have q : (upd Hb Mm (.dT ((oj ++ [(g.2, t ++ [g.1])]).map fun e => (kj e.1, V.bl true)))) b = some o := by rw [upd_ne h2]; exact eb
                  rw [upd_ne h1, upd_ne (ne_of_none q nT)]
                  exact q
                have TO : T ≠ O := fun z => by rw [z, upd_ne OM, eO8] at nT; cases nT
                have MT : Mm ≠ T := fun z => by rw [← z, upd_same] at nT; cases nT
                refine ⟨_, _, _, rfl, fun b o eb => kp2 (ne_of_none eb nOH) (ne_of_none eb nMH) (s8 _ _ eb), kp2 (fun z => OD z.symm) (fun z => MD z.symm) eD8, fun j' t' ht' => ?_, ord8.add (e := (g.2, t ++ [g.1])) (T := T) (fun b o hb hd eb => kp2 hb (fun z => ?_) eb) ?_ eO8 upd_same, ?_, inv9, hu9, eo9⟩
                · obtain ⟨g', h1, h2, h3⟩ := k8 j' t' ht'
                  refine ⟨g', h1, kp2 (fun z => ?_) (fun z => ?_) h2, kp2 (fun z => ?_) (fun z => ?_) h3⟩
                  · rw [z, eO8] at h2; cases h2
                  · rw [z, show Hb Mm = _ from met8] at h2; cases h2
                  · rw [z, eO8] at h3; cases h3
                  · rw [z, show Hb Mm = _ from met8] at h3; cases h3
                · rw [z, show Hb Mm = _ from met8] at eb
                  cases eb
                  exact hd _ rfl
                · rw [upd_ne TO, upd_same, sl_app]; rfl
                · show (upd _ O _) Mm = _
                  rw [upd_ne (fun z => OM z.symm), upd_ne MT, upd_same]
            · rintro σ H8 ⟨oj, r10, r11, rfl, s8, eD8, k8, ord8, met8, inv8, hu8, eo8⟩
              rw [List.length_map, lq, List.take_length] at inv8 eo8
              exact ⟨i + 1, oj, _, _, _, _, _, rfl, rfl, by omega, s8, ord8, met8, inv8.next hu8 hS.symm ac2, by rw [eo8]; exact go2⟩
        · rw [decide_eq_false (show ¬ ((i : Nat) : Int) < ((o.length : Nat) : Int) by omega)]
          refine iteF ?_
          have q : joinJ c (cl m) (cl r) = none := by
            rw [← go, show N + 1 - i = (N - i) + 1 by omega]
            conv => lhs; unfold bfsO
            rw [List.getElem?_eq_none_iff.mpr (by omega)]
          rw [q] at kq2
          exact kq2 H6 s6
end
end K88
end

section
set_option maxHeartbeats 4000000
/-! lengths -/
namespace K88
open PySem PySem.Spec PyProof.Rows L2
def Sh (n : Nat) : Prop := n.log2 < 801
theorem sh_of {n k : Nat} (h : n ≤ 4 ^ k) (hk : k ≤ 400) : Sh n := by
  unfold Sh
  by_cases z : n = 0
  · rw [z]; decide
  · refine (Nat.log2_lt z).mpr (Nat.lt_of_le_of_lt h ?_)
    rw [show (4 : Nat) = 2 ^ 2 from rfl, ← Nat.pow_mul]
    exact Nat.pow_lt_pow_right (by decide) (by omega)
theorem sh_small {n : Nat} (h : n < 64) : Sh n := sh_of (k := 3) (by omega) (by decide)
theorem sh_show {n : Nat} (h : Sh n) : (PyData.int (n : Int)).showable = true := by
  unfold Sh at h
  simp only [PyData.showable]
  exact decide_eq_true (show ((n : Int)).natAbs.log2 < 1920 by rw [Int.natAbs_natCast]; omega)
theorem sh_leaf {n : Nat} (h : Sh n) : (PyData.int (n : Int)).leavesShort 802 = true := by
  unfold Sh at h
  simp only [PyData.leavesShort]
  refine decide_eq_true ?_
  rw [PyData.shown_int]
  show (Str.ofString (toString (n : Int))).length ≤ 802
  rw [PySem.ofString_length]
  exact int_text_length_le (k := 801) (by decide) (by rw [Int.natAbs_natCast]; exact h)
theorem sh_weight {n : Nat} (h : Sh n) : (PyData.int (n : Int)).weight ≤ 801 := by
  unfold Sh at h
  simp only [PyData.weight, Int.natAbs_natCast]
  split <;> omega
/-- what repr asks -/
def R3 (d : PyData) : Prop := d.showable = true ∧ d.depth ≤ 40 ∧ d.shown.length ≤ sizeLine
def numsD (l : List Nat) : PyData := .list (l.map fun (n : Nat) => PyData.int (n : Int))
theorem nums_all : ∀ {l : List Nat}, (∀ n ∈ l, Sh n) → PyData.showableAll (l.map fun (n : Nat) => PyData.int (n : Int)) = true ∧ PyData.leavesShortAll 802 (l.map fun (n : Nat) => PyData.int (n : Int)) = true ∧ PyData.weightAll (l.map fun (n : Nat) => PyData.int (n : Int)) ≤ 802 * l.length ∧ PyData.depthAll (l.map fun (n : Nat) => PyData.int (n : Int)) ≤ 1
  | [], _ => ⟨rfl, rfl, by simp [PyData.weightAll], by simp [PyData.depthAll]⟩
  | n :: l, h => by
    have h1 := h n List.mem_cons_self
    obtain ⟨a, b, c, e⟩ := nums_all fun x hx => h x (List.mem_cons_of_mem _ hx)
    rw [List.map_cons]
    refine ⟨?_, ?_, ?_, ?_⟩
    · simp only [PyData.showableAll, Bool.and_eq_true]; exact ⟨sh_show h1, a⟩
    · simp only [PyData.leavesShortAll, Bool.and_eq_true]; exact ⟨sh_leaf h1, b⟩
    · rw [List.length_cons]
      simp only [PyData.weightAll]
      have := sh_weight h1
      omega
    · simp only [PyData.depthAll, PyData.depth]
      omega
theorem r3_of {d : PyData} {w dp : Nat} (a : d.showable = true) (b : d.leavesShort 802 = true) (c : d.weight ≤ w) (e : d.depth ≤ dp) (hw : w ≤ 16000) (hd : dp ≤ 40) : R3 d := ⟨a, Nat.le_trans e hd, by
  have h1 := PyData.shown_le 802 (by decide) d b
  have h2 : (802 + 2) * d.weight ≤ (802 + 2) * 16000 := Nat.mul_le_mul_left _ (Nat.le_trans c hw)
  rw [sizeLine_eq]
  omega⟩
theorem nums_r3 {l : List Nat} (h : ∀ n ∈ l, Sh n) (hl : l.length ≤ 16) : R3 (numsD l) := by
  obtain ⟨a, b, c, e⟩ := nums_all h
  refine r3_of (w := 802 * l.length) (dp := 2) ?_ ?_ ?_ ?_ (by omega) (by decide)
  · simp only [numsD, PyData.showable]; exact a
  · simp only [numsD, PyData.leavesShort]; exact b
  · simp only [numsD, PyData.weight]; exact c
  · simp only [numsD, PyData.depth]; omega
theorem dx_nums {H : Hp} : ∀ l : List Nat, DxAll H (l.map fun (n : Nat) => V.int (n : Int)) (l.map fun (n : Nat) => PyData.int (n : Int))
  | [] => .nil
  | n :: l => .cons (.int _) (dx_nums l)
/-! ### tables as data -/
def rowDD (r : List (Str × Nat)) : PyData := .dict (((rowK r).map fun p => keyD p.1).zip (r.map fun e => .int (e.2 : Int)))
def tbD (c : Ch) : PyData := .list (c.map rowDD)
theorem dx_row {H : Hp} {a : Addr} {r : List (Str × Nat)} (h : Rd H a (.dK (rowK r))) : Dx H (.ref a) (rowDD r) := by
  refine .dic h ?_
  unfold rowK
  rw [List.map_map]
  have key : ∀ r : List (Str × Nat), DxAll H (r.map ((fun p : Key × V => p.2) ∘ fun e => ((.inr e.1 : Key), V.int (e.2 : Int)))) (r.map fun e => .int (e.2 : Int)) := by
    intro r
    induction r with
    | nil => exact .nil
    | cons e r ih => exact .cons (.int _) ih
  exact key r
theorem dx_tb {H : Hp} {D : Addr} {ls : List Addr} {c : Ch} (e : H D = some (.lst (ls.map V.ref))) (l : ls.length = c.length) (k : ∀ (i : Nat) (a : Addr), ls[i]? = some a → Rd H a (.dK (rowK (rowC c i)))) : Dx H (.ref D) (tbD c) := by
  refine .lst e (dxAll_of (by rw [List.length_map, List.length_map, l]) fun j v hv => ?_)
  rw [List.getElem?_map] at hv
  cases el : ls[j]? with
  | none => rw [el] at hv; cases hv
  | some a =>
    rw [el] at hv
    cases hv
    have hj : j < c.length := by rw [← l]; exact (List.getElem?_eq_some_iff.mp el).1
    exact ⟨rowDD (rowC c j), by rw [List.getElem?_map, row_get hj]; rfl, dx_row (k j a el)⟩
theorem TbF.dx {H : Hp} {F : Addr} {ls : List Addr} {c : Ch} (h : TbF H F ls c) : Dx H (.ref F) (tbD c) := dx_tb h.e h.l fun i a q => let ⟨o, e⟩ := h.k i a q; .inr ⟨o, e⟩
theorem NewT.dx {H0 H : Hp} {D : Addr} {c : Ch} (h : NewT H0 H D c) : Dx H (.ref D) (tbD c) := by
  obtain ⟨ds, e, l, k⟩ := h
  exact dx_tb e l fun i d q => .inl (k i d q).2
theorem row_all : ∀ {r : List (Str × Nat)}, (∀ e ∈ r, e.1 ∈ sgs ∧ e.2 < 64) → PyData.showableKv (((rowK r).map fun p => keyD p.1).zip (r.map fun e => .int (e.2 : Int))) = true ∧ PyData.leavesShortKv 802 (((rowK r).map fun p => keyD p.1).zip (r.map fun e => .int (e.2 : Int))) = true ∧ PyData.weightKv (((rowK r).map fun p => keyD p.1).zip (r.map fun e => .int (e.2 : Int))) ≤ 10 * r.length ∧ PyData.depthKv (((rowK r).map fun p => keyD p.1).zip (r.map fun e => .int (e.2 : Int))) ≤ 1
  | [], _ => ⟨rfl, rfl, by simp [PyData.weightKv, rowK], by simp [PyData.depthKv, rowK]⟩
  | e :: r, h => by
    obtain ⟨h1, h2⟩ := h e List.mem_cons_self
    obtain ⟨a, b, c, d⟩ := row_all fun x hx => h x (List.mem_cons_of_mem _ hx)
    have hs := sh_small h2
    have z1 : e.1.cps.size = 1 := sgs_one _ h1
    have z2 : ∀ z ∈ sgs, (z.cps.toList.all fun c => decide (c < 16 ^ 8)) = true := by decide +kernel
    have w2 : (PyData.int (e.2 : Int)).weight ≤ 7 := by
      simp only [PyData.weight, Int.natAbs_natCast]
      split
      · omega
      · rename_i q
        have z : e.2 ≠ 0 := fun y => q (by rw [y]; rfl)
        have := (Nat.log2_lt (k := 6) z).mpr (by omega)
        omega
    show PyData.showableKv ((.str e.1, .int (e.2 : Int)) :: _) = true ∧ PyData.leavesShortKv 802 ((.str e.1, .int (e.2 : Int)) :: _) = true ∧ PyData.weightKv ((.str e.1, .int (e.2 : Int)) :: _) ≤ _ ∧ PyData.depthKv ((.str e.1, .int (e.2 : Int)) :: _) ≤ _
    refine ⟨?_, ?_, ?_, ?_⟩
    · simp only [PyData.showableKv, Bool.and_eq_true]
      exact ⟨⟨by simp [PyData.showable], sh_show hs⟩, a⟩
    · simp only [PyData.leavesShortKv, Bool.and_eq_true]
      exact ⟨⟨by simp only [PyData.leavesShort]; exact z2 _ h1, sh_leaf hs⟩, b⟩
    · rw [List.length_cons]
      have c' : PyData.weightKv ((List.map (fun p => keyD p.1) (rowK r)).zip (List.map (fun e => PyData.int (e.2 : Int)) r)) ≤ 10 * r.length := c
      have w1 : (PyData.str e.1).weight = 1 := by simp only [PyData.weight]; exact z1
      simp only [PyData.weightKv]
      rw [w1]
      refine Nat.le_trans (Nat.add_le_add_left c' _) ?_
      omega
    · have d' : PyData.depthKv ((List.map (fun p => keyD p.1) (rowK r)).zip (List.map (fun e => PyData.int (e.2 : Int)) r)) ≤ 1 := d
      simp only [PyData.depthKv, PyData.depth]
      refine Nat.max_le.mpr ⟨by decide, ?_⟩
      first
      | exact d'
      | exact Nat.max_le.mpr ⟨by decide, d'⟩
/-- a table small enough to be shown -/
def SmT (c : Ch) : Prop := c.length ≤ 64 ∧ ∀ r ∈ c, r.length ≤ 4 ∧ ∀ e ∈ r, e.1 ∈ sgs ∧ e.2 < 64
theorem smT_of {c : Ch} {w : Nat} (wf : WfC c) (ok : okT w c) (cl : c.length ≤ 64) : SmT c := ⟨cl, fun r hr => by
    obtain ⟨h1, _⟩ := ok r hr
    refine ⟨okR_len h1, fun e he => ⟨List.mem_of_mem_take (okR_in h1 (List.mem_map_of_mem (f := fun e : Str × Nat => e.1) he)), ?_⟩⟩
    have := wf.2 r hr e he
    omega⟩
theorem tb_all {c : Ch} (sm : SmT c) : (tbD c).showable = true ∧ (tbD c).leavesShort 802 = true ∧ (tbD c).weight ≤ 2624 ∧ (tbD c).depth ≤ 3 := by
  have key : ∀ l : List (List (Str × Nat)), (∀ r ∈ l, r.length ≤ 4 ∧ ∀ e ∈ r, e.1 ∈ sgs ∧ e.2 < 64) → PyData.showableAll (l.map rowDD) = true ∧ PyData.leavesShortAll 802 (l.map rowDD) = true ∧ PyData.weightAll (l.map rowDD) ≤ 41 * l.length ∧ PyData.depthAll (l.map rowDD) ≤ 2 := by
    intro l
    induction l with
    | nil => exact fun _ => ⟨rfl, rfl, by simp [PyData.weightAll], by simp [PyData.depthAll]⟩
    | cons r l ih =>
      intro h
      obtain ⟨h1, h2⟩ := h r List.mem_cons_self
      obtain ⟨a, b, c, d⟩ := ih fun x hx => h x (List.mem_cons_of_mem _ hx)
      obtain ⟨a', b', c', d'⟩ := row_all h2
      rw [List.map_cons]
      refine ⟨?_, ?_, ?_, ?_⟩
      · simp only [PyData.showableAll, Bool.and_eq_true, rowDD, PyData.showable]; exact ⟨a', a⟩
      · simp only [PyData.leavesShortAll, Bool.and_eq_true, rowDD, PyData.leavesShort]; exact ⟨b', b⟩
      · rw [List.length_cons]
        have w1 : (rowDD r).weight ≤ 40 := by
          simp only [rowDD, PyData.weight]
          omega
        simp only [PyData.weightAll]
        omega
      · simp only [PyData.depthAll]
        refine Nat.max_le.mpr ⟨?_, d⟩
        simp only [rowDD, PyData.depth]
        omega
  obtain ⟨cl, hc⟩ := sm
  obtain ⟨a, b, e, d⟩ := key c hc
  refine ⟨?_, ?_, ?_, ?_⟩
  · simp only [tbD, PyData.showable]; exact a
  · simp only [tbD, PyData.leavesShort]; exact b
  · simp only [tbD, PyData.weight]; omega
  · simp only [tbD, PyData.depth]; omega
theorem tb_r3 {c : Ch} (sm : SmT c) : R3 (tbD c) := by
  obtain ⟨a, b, e, d⟩ := tb_all sm
  exact r3_of a b e d (by decide) (by decide)
theorem tb_len {c : Ch} (sm : SmT c) : (tbD c).shown.length ≤ 3000000 := by
  obtain ⟨a, b, e, d⟩ := tb_all sm
  have h1 := PyData.shown_le 802 (by decide) (tbD c) b
  have h2 : (802 + 2) * (tbD c).weight ≤ (802 + 2) * 2624 := Nat.mul_le_mul_left _ e
  omega
end K88
end

section
set_option maxHeartbeats 4000000
/-! != by an own ==; str and repr of an own class -/
namespace K88
open PySem PySem.Spec PyProof.Rows L2
section
open PySem.W PySem.Calls Builtin
variable {prog : Program} {w : World} {A : Around} {E : Value → Shared → Prop} {s : Shared} {K : Frag} {x C L f : Addr} {ox : Obj} {od : Option Obj} {b tb : Value} {h₀ : Heap} {m : Str → Option Value} {name : Str}
theorem ifBound_B {M : Model} {id : String} {args : List Value} {Q : Option Value → Shared → Prop} (X : K.In s.heap) (I : InstAt s.heap x ox C od) (hs : findIn K (.ref C) name = some (some (.builtin id))) (hb : ∀ self, bindSpecial (.builtin id) self = pure (.builtin id, [self]))
    (h : wpAny M A (call (.builtin id) (.ref x :: args)) (fun v => Q (some v)) E s) : wpAny M A (callSpecialIfBound? (.ref x) name args) Q E s := by
  simp only [callSpecialIfBound?, bindSpecialIfBound?]
  refine wpAny_holding (wpAny_bind (wpAny_bind (wpAny_bind (I.type.here ((looks_findIn X hs).here ?_)))))
  refine wpAny_bind (wpAny_askSetting (wpAny_ite ?_))
  have fin : wpAny M A (call (.builtin id) ([.ref x] ++ args) >>= fun v => pure (some v)) Q E s := wpAny_bind (wpAny_mono h (fun v s' h' => wpAny_pure h') fun _ _ h' => h')
  split
  · exact wpAny_bind ((Looks.of_pure (hb _)).here (wpAny_pure (by exact fin)))
  · exact wpAny_tryCatch (wpAny_bind ((Looks.of_pure (hb _)).here (wpAny_pure (by exact fin))))
theorem object_ne {Q : Value → Shared → Prop} (hu : A.in1.units < cLine) (X : K.In s.heap) (I : InstAt s.heap x ox C od) (hm : mroIn K C (.type "object") = some true) (he : findIn K (.ref C) "__eq__" = some (some (.ref f))) (hf : isFn K (.ref f) = true)
    (h : wpAny (model prog w) A.in1 (call (.ref f) [.ref x, b]) (fun v s' => ∃ y : Bool, v = .bool y ∧ Q (.bool (!y)) s') E s) : wpAny (model prog w) A (call (.builtin "object.__ne__") [.ref x, b]) Q E s := by
  refine wpAny_call (codeAny_call_builtin PySem.F.slot_object_ne.plain PySem.F.cmpEntry_ne (check_slot (i := "object.__ne__") (owner := "object") (n := "__ne__") (by decide +kernel) (by decide +kernel) (I.type.andThen (looks_mroIn X hm)) (PySem.F.cmpArgs_ne _ _) ?_))
  have one : ∀ {Q' : Option Value → Shared → Prop}, (∀ y s', Q (.bool (!y)) s' → Q' (some (.bool y)) s') → wpAny (model prog w) A.in1 (callSpecialIfBound? (.ref x) (Str.ofString "__eq__") [b]) Q' E s := fun k => ifBound_K X I he hf (wpAny_mono h (fun v s' hv => by
    obtain ⟨y, rfl, q⟩ := hv
    exact k _ _ q) fun _ _ e => e)
  unfold Builtin.«object.__ne__»
  repeat (first
    | with_reducible refine wpAny_cRoomFor hu ?_
    | (refine wpAny_bind (m := callSpecialIfBound? (.ref x) (Str.ofString "__eq__") [b]) (one fun y s' hq => ?_))
    | wp_step)
  all_goals exact hq
theorem cmp_ne {Q : Value → Shared → Prop} (hu : A.in1.units < cLine) (X : K.In s.heap) (I : InstAt s.heap x ox C od) (hb : Looks (model prog w) s.heap (typeOf b) tb) (hn : notFirst K C tb = true) (hm : mroIn K C (.type "object") = some true)
    (hs : findIn K (.ref C) "__ne__" = some (some (.builtin "object.__ne__"))) (he : findIn K (.ref C) "__eq__" = some (some (.ref f))) (hf : isFn K (.ref f) = true)
    (h : wpAny (model prog w) A.in1 (call (.ref f) [.ref x, b]) (fun v s' => ∃ y : Bool, v = .bool y ∧ Q (.bool (!y)) s') E s) : wpAny (model prog w) A (richCompare .NotEq (.ref x) b) Q E s := by
  have one : wpAny (model prog w) A (tryCompare (.ref x) (cmpInfo .NotEq).2.1 b) (fun r s' => ∃ v, r = some v ∧ Q v s') E s := by
    have two : wpAny (model prog w) A (call (.builtin "object.__ne__") [.ref x, b]) (fun v s' => ∃ y : Bool, v = .bool y ∧ Q v s') E s := object_ne (Q := fun v s' => ∃ y : Bool, v = .bool y ∧ Q v s') hu X I hm he hf (wpAny_mono h (fun v s' hv => by
      obtain ⟨y, rfl, q⟩ := hv
      exact ⟨y, rfl, _, rfl, q⟩) fun _ _ e => e)
    unfold tryCompare
    refine wpAny_bind (ifBound_B X I hs PySem.F.slot_object_ne.bind (wpAny_mono two (fun v s' hv => ?_) fun _ _ e => e))
    obtain ⟨y, rfl, q⟩ := hv
    exact wpAny_pure ⟨_, rfl, q⟩
  unfold richCompare
  simp only [oneThing_ref]
  refine wpAny_holding (wpAny_bind (wpAny_cRoomFor (by show A.units < cLine; exact Nat.lt_of_succ_lt hu) ?_))
  refine wpAny_bind (I.type.here (wpAny_bind (hb.here ?_)))
  split
  · rename_i q
    have e : subIn K tb (.ref C) = some false := by
      rcases Bool.or_eq_true_iff.mp hn with e | e
      · rw [beq_iff_eq.mp e] at q; simp at q
      · exact beq_iff_eq.mp e
    refine wpAny_bind ((looks_subIn X e).here ?_)
    simp only [Bool.false_eq_true, if_false]
    refine wpAny_bind (wpAny_mono one (fun r s' z => ?_) fun _ _ e => e)
    obtain ⟨v, rfl, hq⟩ := z
    exact wpAny_pure hq
  · refine wpAny_bind (wpAny_pure ?_)
    simp only [Bool.false_eq_true, if_false]
    refine wpAny_bind (wpAny_mono one (fun r s' z => ?_) fun _ _ e => e)
    obtain ⟨v, rfl, hq⟩ := z
    exact wpAny_pure hq
end
section
variable {X : Cx} {CX : CXT} {k : Nat} {f C g : Addr} {fd : FuncData} {ps : List Str} {sp : Sp} {E : XK} {A : Around} {pins : List (Addr × Obj)} {σ : L2.St} {H : Hp} {s : Shared} {Q : VK} {us : List Value} {vs : List V}
/-- x != y, x an instance with == of its own -/
def rOwnN (K : PySem.W.Frag) (C : Addr) (sp : Sp) : R2 := fun x y H Q => ∃ a dx fs t, x = .ref a ∧ H a = some (.ins C dx fs) ∧ TyX K H y t ∧ PySem.W.notFirst K C t = true ∧ sp [x, y] H (fun v H' => ∃ c : Bool, v = .bl c ∧ Q (.bl (!c)) H') E0
theorem op_neO (F : FnOk X.prog X.w X.K X.mg X.base CX0 k f fd ps sp) (hr : Room (k + 1) X.A) (hb : Binds X.K fd ps []) (hm : PySem.W.mroIn X.K C (.type "object") = some true) (hn : PySem.W.findIn X.K (.ref C) "__ne__" = some (some (.builtin "object.__ne__")))
    (hs : PySem.W.findIn X.K (.ref C) "__eq__" = some (some (.ref f))) (hf : PySem.W.isFn X.K (.ref f) = true) : OpR X (compareOp .NotEq) (rOwnN X.K C sp) := by
  intro pins s σ H x y v u Q I rx ry h
  obtain ⟨a, dx, fs, t, rfl, ha, ty, nf, q⟩ := h
  obtain rfl : v = Value.ref a := rx
  obtain ⟨od, J⟩ := ins_inst I ha
  refine cmp_ne hr.in1.units0 I.kIn J (looks_ty I ry ty) nf hm hn hs hf (wpAny_mono (run_at F hr.in1 rfl hb pass0 I (.cons (show RelV (.ref a) (.ref a) from rfl) (.cons ry .nil)) q) (fun r s' z => ?_) fun _ _ z => z)
  obtain ⟨v', H', I', rv, c, rfl, q'⟩ := z
  obtain rfl : r = Value.bool c := rv
  exact ⟨c, rfl, .bl (!c), H', I', rfl, q'⟩
theorem strBack {u : Value} (h : ∃ z H', Inv X pins σ H' s ∧ RelV (.str z) u ∧ Q (.str z) H') : PySem.W.StrBack (EP X pins σ Q) u s := by
  obtain ⟨z, H', I, ⟨t, rfl⟩, q⟩ := h
  exact ⟨.str z, H', I, ⟨t, rfl⟩, q⟩
/-- str(x), repr(x), x an instance with a def of its own for it -/
def rOwnS (C : Addr) (sp : Sp) : List V → Hp → VK → Prop := fun xs H Q => ∃ a dx fs, xs = [.ref a] ∧ H a = some (.ins C dx fs) ∧ sp [.ref a] H (fun v H' => ∃ z : Str, v = .str z ∧ Q (.str z) H') E0
theorem call_strO (F : FnOk X.prog X.w X.K X.mg X.base CX0 k f fd ps sp) (hr : Room (k + 2) X.A) (hb : Binds X.K fd ps []) (hs : PySem.W.findIn X.K (.ref C) "__str__" = some (some (.ref f))) (hf : PySem.W.isFn X.K (.ref f) = true) : CallR X (.type "str") (rOwnS C sp) := by
  intro pins s σ H xs us Q I r h
  obtain ⟨a, dx, fs, rfl, ha, q⟩ := h
  obtain ⟨u, rfl, ru⟩ := vals1 r
  obtain rfl : u = Value.ref a := ru
  obtain ⟨od, J⟩ := ins_inst I ha
  refine PySem.W.kso_call hr.in1.in1.units0 I.kIn J hs hf (wpAny_mono (run_at F hr.in1.in1 rfl hb pass0 I (.cons (show RelV (.ref a) (.ref a) from rfl) .nil) q) (fun r s' z => ?_) fun _ _ z => z)
  obtain ⟨v', H', I', rv, c, rfl, q'⟩ := z
  exact strBack ⟨c, H', I', rv, q'⟩
theorem call_reprO (F : FnOk X.prog X.w X.K X.mg X.base CX0 k f fd ps sp) (hr : Room (k + 1) X.A) (hb : Binds X.K fd ps []) (hs : PySem.W.findIn X.K (.ref C) "__repr__" = some (some (.ref f))) (hf : PySem.W.isFn X.K (.ref f) = true) : CallR X (.builtin "repr") (rOwnS C sp) := by
  intro pins s σ H xs us Q I r h
  obtain ⟨a, dx, fs, rfl, ha, q⟩ := h
  obtain ⟨u, rfl, ru⟩ := vals1 r
  obtain rfl : u = Value.ref a := ru
  obtain ⟨od, J⟩ := ins_inst I ha
  obtain ⟨m, hF⟩ := I.fr
  refine PySem.W.repr_K hr.in1.units0 hF I.ok.mod.kin J hs hf (wpAny_mono (run_at F hr.in1 rfl hb pass0 I (.cons (show RelV (.ref a) (.ref a) from rfl) .nil) q) (fun r s' z => ?_) fun _ _ z => z)
  obtain ⟨v', H', I', rv, c, rfl, q'⟩ := z
  exact strBack ⟨c, H', I', rv, q'⟩
/-- repr(x) of data of any kind, not of heap objects alone -/
def rReprA : List V → Hp → VK → Prop := fun xs H Q => ∃ (v : V) (d : PyData), xs = [v] ∧ Dx H v d ∧ d.showable = true ∧ d.depth ≤ 40 ∧ d.shown.length ≤ sizeLine ∧ Q (.str d.shown) H
theorem call_reprA {X : Cx} (hg : X.A.guards = some []) (hu : X.A.units + 64 < cLine) (hs : ∃ o, X.K.lookup sysModules = some o ∧ o.cls ≠ .type "list") : CallR X (.builtin "repr") rReprA := by
  intro pins s σ H xs us Q I r h
  obtain ⟨v, d, rfl, hd, sh, dp, sz, q⟩ := h
  obtain ⟨u, rfl, ru⟩ := vals1 r
  cases hd with
  | non =>
    obtain rfl : u = Value.none := ru
    exact PySem.P.repr_of_none ⟨.str _, H, I.tok _, ⟨_, rfl⟩, q⟩
  | bl b =>
    obtain rfl : u = Value.bool b := ru
    have q' : Q (.str (if b then "True" else "False")) H := by cases b <;> exact q
    exact PySem.P.repr_of_bool ⟨.str _, H, I.tok _, ⟨_, rfl⟩, q'⟩
  | int i =>
    obtain ⟨t, rfl⟩ := ru
    exact PySem.P.repr_of_int (of_decide_eq_true (by simpa [PyData.showable] using sh)) ⟨.str _, H, I.tok _, ⟨_, rfl⟩, q⟩
  | str x =>
    obtain ⟨t, rfl⟩ := ru
    exact PySem.P.repr_of_str ⟨.str _, H, I.tok _, ⟨_, rfl⟩, q⟩ sz
  | lst e l => exact call_repr hg hu hs pins s σ H _ _ Q I (.cons ru .nil) ⟨_, _, rfl, .lst e l, sh, dp, sz, q⟩
  | tup e l => exact call_repr hg hu hs pins s σ H _ _ Q I (.cons ru .nil) ⟨_, _, rfl, .tup e l, sh, dp, sz, q⟩
  | dic e l => exact call_repr hg hu hs pins s σ H _ _ Q I (.cons ru .nil) ⟨_, _, rfl, .dic e l, sh, dp, sz, q⟩
end
end K88
end

section
set_option maxHeartbeats 4000000
/-! draws -/
namespace K88
open PySem PySem.Spec PyProof.Rows L2
/-! ### promises -/
def spDraw : Sp := fun vs H Q _ => ∃ (p : Addr) (n : Int), vs = [.ref p, .int n] ∧ PotAt H p ∧ 1 ≤ n ∧ n.natAbs.log2 < 9000 ∧
  ∀ (d : Int) (H' : Hp), 0 ≤ d → d < n → PotAt H' p → But p H H' → Q (.int d) H'
def spPot (K : PySem.W.Frag) : Sp := fun vs H Q _ => ∃ (a : Addr) (ns : List Int) (k : Int), vs = [.ref a, .int k] ∧ SqL K H a (ns.map V.int) ∧ 0 ≤ k ∧ k < 1000 ∧
  ∀ (p : Addr) (H' : Hp), H p = none → PotAt H' p → Same H H' → Q (.ref p) H'
/-- an element of a list, or a sign of a text -/
def spPick (K : PySem.W.Frag) : Sp := fun vs H Q _ => ∃ (p : Addr) (v : V), vs = [.ref p, v] ∧ PotAt H p ∧
  ((∃ z : Str, v = .str z ∧ 0 < z.length ∧ z.length ≤ 1000 ∧ ∀ (c : Nat) (H' : Hp), c ∈ z.cps.toList → PotAt H' p → But p H H' → Q (.str ⟨#[c]⟩) H') ∨
   (∃ (a : Addr) (xs : List V), v = .ref a ∧ a ≠ p ∧ H a = some (.lst xs) ∧ 0 < xs.length ∧ xs.length ≤ 1000 ∧ ∀ (x : V) (H' : Hp), x ∈ xs → PotAt H' p → But p H H' → Q x H'))
section
variable {P : Program} {w : World} {K : PySem.W.Frag} {mg : Str → Option Value} {base : Heap} {ad : Str → Addr} {fd : Str → FuncData}
theorem call_divmodP {X : Cx} : CallR X (.builtin "divmod") (fun xs H Q => ∃ i j, xs = [.int i, .int j] ∧ (0 < j ∧ j.natAbs.log2 < 9000) ∧ ∀ p, H p = none → Q (.ref p) (upd H p (.tup [.int (i / j), .int (i % j)]))) := by
  intro pins s σ H xs us Q I r h
  obtain ⟨i, j, e, c, q⟩ := h
  exact call_divmodW pins s σ H xs us Q I r ⟨i, j, e, ⟨c.1, PyProof.noPylong_of_log2 c.2⟩, q⟩
theorem scDraw : FnScope ["_law_pot_here", "_law_size", "_law_digit"] ["_law_pot_here", "_law_size"] (defScope sDraw) := ⟨rfl, rfl, rfl, by decide +kernel, rfl, by decide +kernel, by decide +kernel⟩
theorem ok_draw (X : Tx K mg ad fd) : FnOk P w K mg base CX0 1 (ad "_law_draw") (fd "_law_draw") ["_law_pot_here", "_law_size"] spDraw := by
  refine X.F__law_draw.ok scDraw (fun vs H Q E h => ?_) (fun cdv A outer s H vs Q E hr h => ?_)
  · obtain ⟨p, n, rfl, _⟩ := h
    rfl
  · obtain ⟨p, n, rfl, ⟨x, y, hp, hx, hy, hy2⟩, hn, hlog, q⟩ := h
    refine ⟨_, (pss_cons (ps_if (pt_cmpR op_gt (pe_ix ix_list (pv 0) pe_int (fun _ _ => rfl)) pe_int (nomark _))
  (pss_cons (ps_asg (by exact (pe_callB call_divmodP (by rfl) X.m_divmod (by decide +kernel) (pa_cons (pe_ix ix_list (pv 0) pe_int (fun _ _ => rfl)) (pa_cons (pv 1) pa_nil)))) (pg_tup rfl (pgs_cons (pg_sub (pv 0) pe_int set_list) (pgs_cons (pg_name (i := 2) scDraw.nd rfl (.inl rfl)) pgs_nil))))
  (pss_one (ps_ret (by exact (pv 2)))))
  pss_nil)
  (pss_cons (ps_asg (by exact (pe_op op_mod (pe_callTy call_int1 (by rfl) X.m_int (by decide +kernel) (pa_cons (pe_op op_add (pe_op op_mul (pe_ix ix_list (pv 0) pe_int (fun _ _ => rfl)) pe_int) pe_int) pa_nil)) pe_int)) (pg_sub (pv 0) pe_int set_list))
  (pss_one (ps_ret (by exact (pe_op op_mod (pe_callTy call_int1 (by rfl) X.m_int (by decide +kernel) (pa_cons (pe_op op_fdiv (pe_op op_mod (pe_callTy call_int1 (by rfl) X.m_int (by decide +kernel) (pa_cons (pe_op op_mul (pe_ix ix_list (pv 0) pe_int (fun _ _ => rfl)) (pe_ix ix_list (pv 0) pe_int (fun _ _ => rfl))) pa_nil)) pe_int) pe_int) pa_nil)) (pv 1))))))), ?_⟩
    refine ⟨.ref p, rfl, p, _, 0, .int x, rfl, rfl, SqL.of hp, atI_nat (j := 0) rfl, _, _, rfl, rfl, _, rfl, ite2 (fun e => ?_) (fun e => ?_)⟩
    · have h0 : 0 < x := of_decide_eq_true e
      refine ⟨.ref p, rfl, p, _, 0, .int x, rfl, rfl, SqL.of hp, atI_nat (j := 0) rfl, .int n, rfl, x, n, rfl, ⟨by omega, hlog⟩, fun t ht => ?_⟩
      have npt : p ≠ t := ne_of_none hp ht
      have hp' : (upd H t (.tup [.int (x / n), .int (x % n)])) p = some (.lst [.int x, .int y]) := by rw [upd_ne npt]; exact hp
      refine ⟨t, [.int (x / n), .int (x % n)], rfl, SqT.of upd_same, rfl, .int (x / n), _, rfl, .ref p, rfl, p, [.int x, .int y], 0, 0, rfl, rfl, hp', rfl, .int (x % n), [], rfl, rfl, .int (x % n), rfl, ?_⟩
      refine q _ _ (Int.emod_nonneg _ (by omega)) (Int.emod_lt_of_pos _ (by omega)) ⟨x / n, y, upd_same, Int.ediv_nonneg hx (by omega), hy, hy2⟩ ?_
      exact (But.new ht).trans But.upd
    · refine ⟨.ref p, rfl, p, _, 1, .int y, rfl, rfl, SqL.of hp, atI_nat (j := 1) rfl, y, 41201, rfl, rfl, .inr ⟨by decide, by decide⟩, _, _, rfl, rfl, .inl ⟨_, rfl, _, _, rfl, rfl, (by show (0 : Int) < 2147483587; decide), .ref p, rfl, p, [.int x, .int y], 1, 1, rfl, rfl, hp, rfl, ?_⟩⟩
      have y1 : 0 ≤ (y * 41201 + 12347) % 2147483587 := Int.emod_nonneg _ (by decide)
      have y2 : (y * 41201 + 12347) % 2147483587 < 2147483587 := Int.emod_lt_of_pos _ (by decide)
      refine ⟨.ref p, rfl, p, _, 1, (.int ((y * 41201 + 12347) % 2147483587)), rfl, rfl, SqL.of upd_same, atI_nat (j := 1) rfl, .ref p, rfl, p, _, 1, (.int ((y * 41201 + 12347) % 2147483587)), rfl, rfl, SqL.of upd_same, atI_nat (j := 1) rfl, ((y * 41201 + 12347) % 2147483587), ((y * 41201 + 12347) % 2147483587), rfl, rfl, .inl ⟨by omega, by omega⟩, .inl ⟨_, rfl, _, _, rfl, rfl, (by show (0 : Int) < 2147483549; decide), _, _, rfl, rfl, ⟨by decide, by decide⟩, .inl ⟨_, rfl, .int n, rfl, _, n, rfl, rfl, (by show 0 < n; omega), ?_⟩⟩⟩
      exact q _ _ (Int.emod_nonneg _ (by omega)) (Int.emod_lt_of_pos _ (by omega)) ⟨x, ((y * 41201 + 12347) % 2147483587), upd_same, hx, y1, by omega⟩ But.upd
theorem scPick : FnScope ["_law_pot_here", "_law_some"] ["_law_pot_here", "_law_some"] (defScope sPick) := ⟨rfl, rfl, rfl, by decide +kernel, rfl, by decide +kernel, by decide +kernel⟩
theorem log_small {n : Int} (h0 : 0 ≤ n) (h : n < 2 ^ 64) : n.natAbs.log2 < 9000 := by
  by_cases hn : n = 0
  · subst hn; decide
  · have h2 : n.natAbs < 2 ^ 64 := by omega
    have := (Nat.log2_lt (n := n.natAbs) (k := 64) (by omega)).mpr h2
    omega
theorem ok_pick (X : Tx K mg ad fd) : FnOk P w K mg base CX0 2 (ad "_law_pick") (fd "_law_pick") ["_law_pot_here", "_law_some"] (spPick K) := by
  have G__law_draw : FnOk P w K mg base CX0 1 (ad "_law_draw") (fd "_law_draw") ["_law_pot_here", "_law_size"] spDraw := ok_draw X
  refine X.F__law_pick.ok scPick (fun vs H Q E h => ?_) (fun cdv A outer s H vs Q E hr h => ?_)
  · obtain ⟨p, v, rfl, _⟩ := h
    rfl
  · obtain ⟨p, v, rfl, hp, h⟩ := h
    have HR__law_draw := hr
    refine ⟨_, (pss_one (ps_ret (by exact (pe_ix ix_seq (pv 1) (pe_call G__law_draw HR__law_draw (by rfl) X.g__law_draw X.F__law_draw.kp X.b__law_draw .nil pass0 (pa_cons (pv 0) (pa_cons (pe_callB call_len (by rfl) X.m_len (by decide +kernel) (pa_cons (pv 1) pa_nil)) pa_nil))) (fun _ _ => rfl))))), ?_⟩
    rcases h with ⟨z, rfl, z0, z1, q⟩ | ⟨a, xs, rfl, hap, ha, x0, x1, q⟩
    · refine ⟨.str z, rfl, .ref p, rfl, .str z, rfl, .str z, z.length, rfl, ⟨by rw [sizeLine_eq]; omega, rfl⟩, p, (z.length : Int), rfl, hp, by omega, log_small (by omega) (by omega), fun d H' d0 d1 hp' hb => ?_⟩
      obtain ⟨j, rfl⟩ := Int.eq_ofNat_of_zero_le d0
      have hj : j < z.cps.toList.length := by
        have e : z.cps.toList.length = z.length := by simp [Str.length]
        omega
      have hg : z.cps.toList[j]? = some z.cps.toList[j] := List.getElem?_eq_getElem hj
      refine .inr (.inr ⟨z, (j : Int), z.cps.toList[j], rfl, rfl, by rw [sizeLine_eq]; omega, atI_nat hg, ?_⟩)
      exact q _ _ (List.getElem_mem hj) hp' hb
    · refine ⟨.ref a, rfl, .ref p, rfl, .ref a, rfl, .ref a, xs.length, rfl, .inl ⟨_, SqL.of ha, rfl⟩, p, (xs.length : Int), rfl, hp, by omega, log_small (by omega) (by omega), fun d H' d0 d1 hp' hb => ?_⟩
      obtain ⟨j, rfl⟩ := Int.eq_ofNat_of_zero_le d0
      have hj : j < xs.length := by omega
      refine .inl ⟨a, xs, (j : Int), xs[j], rfl, rfl, SqL.of (hb _ _ hap ha), atI_nat (List.getElem?_eq_getElem hj), ?_⟩
      exact q _ _ (List.getElem_mem hj) hp' hb
end
end K88
end

section
set_option maxHeartbeats 4000000
/-! the pot -/
namespace K88
open PySem PySem.Spec PyProof.Rows L2
section
variable {P : Program} {w : World} {K : PySem.W.Frag} {mg : Str → Option Value} {base : Heap} {ad : Str → Addr} {fd : Str → FuncData}
theorem scPot : FnScope ["_law_script", "_law_k", "_law_cell"] ["_law_script", "_law_k"] (defScope sPot) := ⟨rfl, rfl, rfl, by decide +kernel, rfl, by decide +kernel, by decide +kernel⟩
theorem ok_pot (X : Tx K mg ad fd) : FnOk P w K mg base CX0 1 (ad "_law_pot") (fd "_law_pot") ["_law_script", "_law_k"] (spPot K) := by
  refine X.F__law_pot.ok scPot (fun vs H Q E h => ?_) (fun cdv A outer s H vs Q E hr h => ?_)
  · obtain ⟨a, ns, k, rfl, _⟩ := h
    rfl
  · obtain ⟨a, ns, k, rfl, hS, hk0, hk1, q⟩ := h
    refine ⟨_, (pss_cons (ps_set (i := 2) scPot.nd rfl (.inl rfl) (by exact (pe_op op_add (pe_op op_mul pe_int (pv 1)) pe_int)))
  (pss_cons (ps_if (pt_cmpR op_lt (pv 1) (pe_callB call_len (by rfl) X.m_len (by decide +kernel) (pa_cons (pv 0) pa_nil)) (nomark _))
  (pss_one (ps_set (i := 2) scPot.nd rfl (.inl rfl) (by exact (pe_callB call_abs (by rfl) X.m_abs (by decide +kernel) (pa_cons (pe_ix ix_list (pv 0) (pv 1) (fun _ _ => rfl)) pa_nil)))))
  pss_nil)
  (pss_one (ps_ret (by exact (pe_lst (pa_cons (pe_callB (call_max2 rfl) (by rfl) X.m_max (by decide +kernel) (pa_cons pe_int (pa_cons (pe_op op_sub (pv 2) (pe_op op_pow pe_int pe_int)) pa_nil))) (pa_cons (pe_op op_add (pe_op op_mod (pe_op op_mul (pe_callTy call_int1 (by rfl) X.m_int (by decide +kernel) (pa_cons (pe_op op_add (pe_op op_mod (pe_callTy call_int1 (by rfl) X.m_int (by decide +kernel) (pa_cons (pv 2) pa_nil)) pe_int) pe_int) pa_nil)) (pe_op op_pow (pe_op op_add (pe_op op_mul pe_int (pv 1)) pe_int) pe_int)) pe_int) pe_int) pa_nil)))))))), ?_⟩
    refine ⟨_, rfl, 31, k, rfl, rfl, .inl ⟨by decide, by decide⟩, _, _, rfl, rfl, .int k, rfl, .ref a, rfl, _, _, rfl, .inl ⟨_, hS, rfl⟩, _, _, rfl, rfl, _, rfl, ite2 (fun e => ?_) (fun e => ?_)⟩
    · have hlt : k < ((ns.map V.int).length : Int) := of_decide_eq_true e
      obtain ⟨j, rfl⟩ := Int.eq_ofNat_of_zero_le hk0
      have hj : j < ns.length := by rw [List.length_map] at hlt; omega
      have hg : (ns.map V.int)[j]? = some (.int ns[j]) := by rw [List.getElem?_map, List.getElem?_eq_getElem hj]; rfl
      refine ⟨.ref a, rfl, .int j, rfl, a, _, _, _, rfl, rfl, hS, atI_nat hg, _, rfl, ?_⟩
      have c0 : 0 ≤ (if ns[j] < 0 then -ns[j] else ns[j]) := by split <;> omega
      generalize (if ns[j] < 0 then -ns[j] else ns[j]) = c at c0
      refine ⟨.int c, rfl, 10, 18, rfl, rfl, ⟨by decide, by decide, by decide⟩, c, 10 ^ 18, rfl, rfl, 0, c - 10 ^ 18, rfl, ?_⟩
      refine ⟨.int c, rfl, .inl ⟨c, rfl, c, 2147483549, rfl, rfl, (by show (0 : Int) < 2147483549; decide), c % 2147483549, 13, rfl, rfl, .inl ⟨_, rfl, ?_⟩⟩⟩
      have y0 : 0 ≤ c % 2147483549 := Int.emod_nonneg _ (by decide)
      have y1 : c % 2147483549 < 2147483549 := Int.emod_lt_of_pos _ (by decide)
      refine ⟨.int (j : Int), rfl, 2, (j : Int), rfl, rfl, .inl ⟨by decide, by decide⟩, _, 5, rfl, rfl, _, 3, rfl, rfl, ⟨by decide, by decide, by omega⟩, _, _, rfl, rfl, .inl ⟨by omega, by omega⟩, _, 2147483477, rfl, rfl, (by show (0 : Int) < 2147483477; decide), _, 1, rfl, rfl, (by show 2 ≤ sizeLine; decide), fun p hp => ?_⟩
      have z0 : 0 ≤ ((c % 2147483549 + 13) * (2 * (j : Int) + 5) ^ 3) % 2147483477 := Int.emod_nonneg _ (by decide)
      have z1 : ((c % 2147483549 + 13) * (2 * (j : Int) + 5) ^ 3) % 2147483477 < 2147483477 := Int.emod_lt_of_pos _ (by decide)
      exact q p _ hp ⟨if c - 10 ^ 18 > 0 then c - 10 ^ 18 else 0, ((c % 2147483549 + 13) * (2 * (j : Int) + 5) ^ 3) % 2147483477 + 1, upd_same, by split <;> omega, by omega, by omega⟩ (Same.new hp)
    · have c0 : 0 ≤ 31 * k + 19 := by omega
      refine ⟨.int (31 * k + 19), rfl, 10, 18, rfl, rfl, ⟨by decide, by decide, by decide⟩, (31 * k + 19), 10 ^ 18, rfl, rfl, 0, (31 * k + 19) - 10 ^ 18, rfl, ?_⟩
      refine ⟨.int (31 * k + 19), rfl, .inl ⟨31 * k + 19, rfl, (31 * k + 19), 2147483549, rfl, rfl, (by show (0 : Int) < 2147483549; decide), (31 * k + 19) % 2147483549, 13, rfl, rfl, .inl ⟨_, rfl, ?_⟩⟩⟩
      have y0 : 0 ≤ (31 * k + 19) % 2147483549 := Int.emod_nonneg _ (by decide)
      have y1 : (31 * k + 19) % 2147483549 < 2147483549 := Int.emod_lt_of_pos _ (by decide)
      refine ⟨.int k, rfl, 2, k, rfl, rfl, .inl ⟨by decide, by decide⟩, _, 5, rfl, rfl, _, 3, rfl, rfl, ⟨by decide, by decide, by omega⟩, _, _, rfl, rfl, .inl ⟨by omega, by omega⟩, _, 2147483477, rfl, rfl, (by show (0 : Int) < 2147483477; decide), _, 1, rfl, rfl, (by show 2 ≤ sizeLine; decide), fun p hp => ?_⟩
      have z0 : 0 ≤ (((31 * k + 19) % 2147483549 + 13) * (2 * k + 5) ^ 3) % 2147483477 := Int.emod_nonneg _ (by decide)
      have z1 : (((31 * k + 19) % 2147483549 + 13) * (2 * k + 5) ^ 3) % 2147483477 < 2147483477 := Int.emod_lt_of_pos _ (by decide)
      exact q p _ hp ⟨if (31 * k + 19) - 10 ^ 18 > 0 then (31 * k + 19) - 10 ^ 18 else 0, (((31 * k + 19) % 2147483549 + 13) * (2 * k + 5) ^ 3) % 2147483477 + 1, upd_same, by split <;> omega, by omega, by omega⟩ (Same.new hp)
end
end K88
end

section
set_option maxHeartbeats 4000000
/-! tables drawn -/
namespace K88
open PySem PySem.Spec PyProof.Rows L2
theorem okR_nil (w : Nat) : okR w [] := by
  unfold okR keysR
  simp
theorem okR_zero : okR 0 [] := okR_nil 0
theorem sgs_take_succ {j : Nat} {z : Str} (h : sgs[j]? = some z) : sgs.take (j + 1) = sgs.take j ++ [z] := by
  rw [List.take_add_one, h]; rfl
theorem sgs_not {j : Nat} {z : Str} (h : sgs[j]? = some z) : z ∉ sgs.take j := fun m => by
  obtain ⟨i, hi, e⟩ := List.mem_iff_getElem.mp m
  rw [List.getElem_take] at e
  obtain ⟨hj, e2⟩ := List.getElem?_eq_some_iff.mp h
  have := (List.getElem_inj (h₀ := by rw [List.length_take] at hi; omega) (h₁ := hj) sgs_nd).mp (e.trans e2.symm)
  rw [List.length_take] at hi
  omega
theorem okR_skip {j : Nat} {z : Str} {r : List (Str × Nat)} (h : sgs[j]? = some z) (ok : okR j r) : okR (j + 1) r := by
  have nz : z ∉ keysR r := fun m => sgs_not h (okR_in ok m)
  unfold okR at ok ⊢
  rw [sgs_take_succ h, List.filter_append, ← ok]
  have : ([z].filter fun y => decide (y ∈ keysR r)) = [] := by
    rw [List.filter_cons, decide_eq_false nz]; rfl
  rw [this, List.append_nil]
theorem okR_add {j : Nat} {z : Str} {r : List (Str × Nat)} (h : sgs[j]? = some z) (ok : okR j r) (g : Nat) : okR (j + 1) (r ++ [(z, g)]) := by
  have nz := sgs_not h
  have ek : keysR (r ++ [(z, g)]) = keysR r ++ [z] := by unfold keysR; rw [List.map_append]; rfl
  unfold okR at ok ⊢
  rw [ek, sgs_take_succ h, List.filter_append]
  have e1 : ((sgs.take j).filter fun y => decide (y ∈ keysR r ++ [z])) = (sgs.take j).filter fun y => decide (y ∈ keysR r) := by
    refine List.filter_congr fun y hy => decide_eq_decide.mpr ?_
    rw [List.mem_append, List.mem_singleton]
    exact ⟨fun q => q.elim id fun e => absurd (e ▸ hy) nz, .inl⟩
  have e2 : ([z].filter fun y => decide (y ∈ keysR r ++ [z])) = [z] := by
    rw [List.filter_cons, decide_eq_true (List.mem_append_right _ (List.mem_singleton.mpr rfl))]; rfl
  rw [e1, e2, ← ok]
theorem okR_one {w : Nat} {z : Str} (h : z ∈ sgs.take w) (g : Nat) : okR w [(z, g)] := by
  unfold okR
  show [z] = (sgs.take w).filter fun y => decide (y ∈ [z])
  have nd : (sgs.take w).Nodup := sgs_nd.sublist (List.take_sublist w sgs)
  have key : ∀ l : List Str, l.Nodup → z ∈ l → (l.filter fun y => decide (y ∈ [z])) = [z] := by
    intro l
    induction l with
    | nil => exact fun _ h => by cases h
    | cons x l ih =>
      intro nd hz
      obtain ⟨n1, n2⟩ := List.nodup_cons.mp nd
      rw [List.filter_cons]
      by_cases e : x = z
      · subst e
        rw [if_pos (by simp)]
        have : (l.filter fun y => decide (y ∈ [x])) = [] := List.filter_eq_nil_iff.mpr fun y hy q => n1 (by simp at q; exact q ▸ hy)
        rw [this]
      · rw [if_neg (by simpa using e)]
        exact ih n2 ((List.mem_cons.mp hz).resolve_left fun q => e q.symm)
  exact (key _ nd h).symm
/-- rows that stand at ds, all new since H -/
structure NewR (H H' : Hp) (D : Addr) (ds : List Addr) (c : Ch) : Prop where
  l : ds.length = c.length
  k : ∀ (i : Nat) (d : Addr), ds[i]? = some d → H d = none ∧ d ≠ D ∧ H' d = some (.dK (rowK (rowC c i)))
theorem NewR.keep {H H1 H2 : Hp} {D : Addr} {ds : List Addr} {c : Ch} (h : NewR H H1 D ds c) (s : ∀ b kvs, H b = none → b ≠ D → H1 b = some (.dK kvs) → H2 b = some (.dK kvs)) : NewR H H2 D ds c := ⟨h.l, fun i d q => let ⟨a, b, e⟩ := h.k i d q; ⟨a, b, s _ _ a b e⟩⟩
theorem rowC_app {c : Ch} {r : List (Str × Nat)} {i : Nat} (h : i < c.length) : rowC (c ++ [r]) i = rowC c i := by
  unfold rowC
  rw [List.getD_eq_getElem?_getD, List.getElem?_append_left h, ← List.getD_eq_getElem?_getD]
theorem rowC_lst {c : Ch} {r : List (Str × Nat)} : rowC (c ++ [r]) c.length = r := by
  unfold rowC
  rw [List.getD_eq_getElem?_getD, List.getElem?_append_right (Nat.le_refl _), Nat.sub_self]; rfl
theorem NewR.add {H H' : Hp} {D d : Addr} {ds : List Addr} {c : Ch} {r : List (Str × Nat)} (h : NewR H H' D ds c) (h1 : H d = none) (h2 : d ≠ D) (h3 : H' d = some (.dK (rowK r))) : NewR H H' D (ds ++ [d]) (c ++ [r]) := by
  refine ⟨by rw [List.length_append, List.length_append, h.l]; rfl, fun i x hx => ?_⟩
  by_cases q : i < c.length
  · rw [List.getElem?_append_left (by rw [h.l]; exact q)] at hx
    rw [rowC_app q]
    exact h.k i x hx
  · rw [List.getElem?_append_right (by rw [h.l]; omega)] at hx
    have e : i - ds.length = 0 := by
      by_cases z : i - ds.length = 0
      · exact z
      · rw [List.getElem?_eq_none (by simp; omega)] at hx; cases hx
    rw [e] at hx
    cases hx
    have : i = c.length := by have hl := h.l; omega
    subst this
    rw [rowC_lst]
    exact ⟨h1, h2, h3⟩
theorem NewR.newT {H H' : Hp} {D : Addr} {ds : List Addr} {c : Ch} (h : NewR H H' D ds c) (e : H' D = some (.lst (ds.map V.ref))) : NewT H H' D c := ⟨ds, e, h.l, fun i d q => let ⟨a, _, b⟩ := h.k i d q; ⟨a, b⟩⟩
def spLines : Sp := fun vs H Q _ => ∃ (pt : Addr) (w mo : Nat), vs = [.ref pt, .int (w : Int), .int (mo : Int)] ∧ PotAt H pt ∧ 2 ≤ w ∧ w ≤ 4 ∧ 1 ≤ mo ∧ mo ≤ 6 ∧
  ∀ (D : Addr) (c : Ch) (H' : Hp), H D = none → NewT H H' D c → WfC c → okT w c → c.length ≤ mo → PotAt H' pt → But pt H H' → Q (.ref D) H'
section
variable {P : Program} {w : World} {K : PySem.W.Frag} {mg : Str → Option Value} {base : Heap} {ad : Str → Addr} {fd : Str → FuncData}
theorem scLines : FnScope ["_law_pot_here", "_law_width", "_law_most", "_law_size", "_law_found", "_law_at", "_law_here", "_law_letter"] ["_law_pot_here", "_law_width", "_law_most"] (defScope sLines) := ⟨rfl, rfl, rfl, by decide +kernel, rfl, by decide +kernel, by decide +kernel⟩
theorem ok_lines (X : Tx K mg ad fd) : FnOk P w K mg base CX0 2 (ad "_law_lines") (fd "_law_lines") ["_law_pot_here", "_law_width", "_law_most"] spLines := by
  have G__law_draw := ok_draw (P := P) (w := w) (base := base) X
  refine X.F__law_lines.ok scLines (fun vs H Q E h => ?_) (fun cdv A outer s H vs Q E hr h => ?_)
  · obtain ⟨pt, w, mo, rfl, hp, w2, w4, m1, m6, k⟩ := h
    rfl
  · obtain ⟨pt, w, mo, rfl, hp, w2, w4, m1, m6, k⟩ := h
    have HR__law_draw : Room 1 _ := hr
    have HU : (A.deeper (envOfC "_law_lines" (defScope sLines) s.heap.objs.size (ad "_law_lines") cdv)).units + 1 < cLine := by have := hr.un; omega
    refine ⟨_, (pss_cons (ps_par (i := 3) (j := 4) rfl scLines.nd rfl rfl (by decide) rfl rfl (by exact (pa_cons (pe_op op_add pe_int (pe_call G__law_draw HR__law_draw (by rfl) X.g__law_draw X.F__law_draw.kp X.b__law_draw .nil pass0 (pa_cons (pv 0) (pa_cons (pv 2) pa_nil)))) (pa_cons (pe_lst pa_nil) pa_nil))) (by rfl))
  (pss_cons (ps_for PassesOwn.never rfl (pi_range1 (by rfl) X.m_range (pa_cons (pv 3) pa_nil)) (pg_name (i := 5) scLines.nd rfl (.inl rfl))
  (pss_cons (ps_set (i := 6) scLines.nd rfl (.inl rfl) (by exact pe_dnewK))
  (pss_cons (ps_for PassesOwn.never rfl (pi_str (pe_slice sl_str pe_str po_none (po_some (pv 1)))) (pg_name (i := 7) scLines.nd rfl (.inl rfl))
  (pss_one (ps_if (pt_cmpR op_gt (pe_call G__law_draw HR__law_draw (by rfl) X.g__law_draw X.F__law_draw.kp X.b__law_draw .nil pass0 (pa_cons (pv 0) (pa_cons pe_int pa_nil))) pe_int (nomark _))
  (pss_one (ps_asg (by exact (pe_call G__law_draw HR__law_draw (by rfl) X.g__law_draw X.F__law_draw.kp X.b__law_draw .nil pass0 (pa_cons (pv 0) (pa_cons (pv 3) pa_nil)))) (pg_sub (pv 6) (pv 7) (set_dict HU))))
  pss_nil)))
  (pss_one (ps_expr (by exact (pe_bm PySem.F.plainAttrs_list PySem.F.slot_list_append PySem.F.type_list_append mt_append (pv 4) (pa_cons (pv 6) pa_nil))))))))
  (pss_one (ps_ret (by exact (pv 4)))))), ?_⟩
    have sg := cut_let w2 w4
    have gs := okSg_size sg w4
    refine ⟨.ref pt, rfl, .int (mo : Int), rfl, pt, (mo : Int), rfl, hp, by omega, log_small (by omega) (by omega), fun d0 H1 d00 d01 hp1 b1 => ?_⟩
    obtain ⟨m, rfl⟩ := Int.eq_ofNat_of_zero_le d00
    refine ⟨1, (m : Int), rfl, rfl, (by show 0 ≤ sizeLine; omega), fun D nD => ⟨_, _, rfl, ?_⟩⟩
    have nDH : H D = none := by
      cases e : H D with
      | none => rfl
      | some u =>
        by_cases z : D = pt
        · rw [z] at nD
          obtain ⟨_, _, q, _⟩ := hp1
          rw [nD] at q; cases q
        · rw [b1 _ _ z e] at nD; cases nD
    have nDp : D ≠ pt := hp1.ne nD
    have b2 : But pt H (upd H1 D (.lst [])) := b1.trans (But.new nD)
    have hp2 : PotAt (upd H1 D (.lst [])) pt := hp1.same (Same.new nD)
    have eD : (upd H1 D (.lst [])) D = some (.lst (([] : List Addr).map V.ref)) := upd_same
    generalize (upd H1 D (.lst [])) = H2 at b2 hp2 eD ⊢
    refine ⟨.int ((1 + m : Nat) : Int), rfl, ((1 + m : Nat) : Int), rfl, by omega, by omega, ?_⟩
    refine for_range (lo := 0) (n := (((1 + m : Nat) : Int)).toNat) (fun i σ H' => ∃ (ds : List Addr) (c : Ch) (r5 r6 r7 : Option V), σ = [some (.ref pt), some (.int (w : Int)), some (.int (mo : Int)), some (.int ((1 + m : Nat) : Int)), some (.ref D), r5, r6, r7] ∧ PotAt H' pt ∧ But pt H H' ∧ H' D = some (.lst (ds.map V.ref)) ∧ NewR H H' D ds c ∧ c.length = i ∧ ∀ r ∈ c, okR w r ∧ ∀ e ∈ r, e.2 < 1 + m) ⟨[], [], _, _, _, rfl, hp2, b2, eD, ⟨rfl, fun i d q => by cases q⟩, rfl, fun r h => by cases h⟩ ?_ ?_
    · rintro i σ H3 hi ⟨ds, c, r5, r6, r7, rfl, hp3, b3, eD3, nr, lc, okc⟩
      refine gN ?_
      refine fun R nR => ?_
      refine gN ?_
      have nRp : R ≠ pt := hp3.ne nR
      have nRD : R ≠ D := fun z => by rw [z, eD3] at nR; cases nR
      have nRH : H R = none := by
        cases e : H R with
        | none => rfl
        | some u => rw [b3 _ _ nRp e] at nR; cases nR
      have b4 : But pt H (upd H3 R (.dK [])) := b3.trans (But.new nR)
      have hp4 : PotAt (upd H3 R (.dK [])) pt := hp3.same (Same.new nR)
      have eD4 := Same.new nR (o := .dK []) _ _ eD3
      have nr4 : NewR H (upd H3 R (.dK [])) D ds c := nr.keep fun b kvs _ _ e => Same.new nR _ _ e
      have eR4 : (upd H3 R (.dK [])) R = some (.dK (rowK [])) := upd_same
      have nin : R ∉ ds := fun q => by
        obtain ⟨j, hj, e⟩ := List.mem_iff_getElem.mp q
        have := (nr.k j R (by rw [List.getElem?_eq_getElem hj, e])).2.2
        rw [nR] at this; cases this
      generalize (upd H3 R (.dK [])) = H4 at b4 hp4 eD4 nr4 eR4 ⊢
      refine ⟨.int (w : Int), rfl, (w : Int), rfl, "abcd", rfl, abcd_len, _, rfl, ?_⟩
      have keep : ∀ {Ha Hb : Hp}, NewR H Ha D ds c → (∀ b o, b ≠ pt → b ≠ R → Ha b = some o → Hb b = some o) → NewR H Hb D ds c := fun {Ha Hb} n s => ⟨n.l, fun i d q => by
        obtain ⟨x, y, z⟩ := n.k i d q
        refine ⟨x, y, s _ _ (fun e => ?_) (fun e => nin (e ▸ List.mem_of_getElem? q)) z⟩
        obtain ⟨_, _, u, _⟩ := hp
        rw [e, u] at x; cases x⟩
      have keepD : ∀ {Ha Hb : Hp}, Ha D = some (.lst (ds.map V.ref)) → (∀ b o, b ≠ pt → b ≠ R → Ha b = some o → Hb b = some o) → Hb D = some (.lst (ds.map V.ref)) := fun e s => s _ _ nDp nRD.symm e
      have keepB : ∀ {Ha Hb : Hp}, But pt H Ha → (∀ b o, b ≠ pt → b ≠ R → Ha b = some o → Hb b = some o) → But pt H Hb := fun e s b o n q => s _ _ n (fun z => by rw [z, nRH] at q; cases q) (e _ _ n q)
      refine for_it (w := walk_str (z := cutS "abcd" none (some (w : Int)))) (fun j σ H' => ∃ (r : List (Str × Nat)) (r7 : Option V), σ = [some (.ref pt), some (.int (w : Int)), some (.int (mo : Int)), some (.int ((1 + m : Nat) : Int)), some (.ref D), some (.int (0 + (i : Int))), some (.ref R), r7] ∧ PotAt H' pt ∧ But pt H H' ∧ H' D = some (.lst (ds.map V.ref)) ∧ NewR H H' D ds c ∧ H' R = some (.dK (rowK r)) ∧ okR j r ∧ ∀ e ∈ r, e.2 < 1 + m) ⟨[], _, rfl, hp4, b4, eD4, nr4, eR4, okR_zero, fun e h => by cases h⟩ (fun _ _ _ _ _ => True.intro) ?_ ?_
      · rintro j x σ H5 H6 hj ⟨r, r7, rfl, hp5, b5, eD5, nr5, eR5, okr, ltr⟩ ⟨rfl, cc, hcc, rfl⟩
        have hz : sgs[j]? = some (⟨#[cc]⟩ : Str) := by
          have := okSg_at sg hcc
          rw [List.getElem?_take] at this
          split at this
          · exact this
          · cases this
        refine gN ?_
        refine ⟨.ref pt, rfl, pt, 3, rfl, hp5, by decide, by decide, fun g0 H7 g00 g01 hp7 b7 => ?_⟩
        have s57 : ∀ b o, b ≠ pt → b ≠ R → H6 b = some o → H7 b = some o := fun b o n _ e => b7 _ _ n e
        have eR7 := b7 _ _ nRp eR5
        refine ⟨g0, 0, rfl, rfl, _, rfl, ite2 (fun z => ?_) (fun z => ?_)⟩
        · refine ⟨.ref pt, rfl, .int ((1 + m : Nat) : Int), rfl, pt, _, rfl, hp7, by omega, log_small (by omega) (by omega), fun g H8 g0 g1 hp8 b8 => ?_⟩
          obtain ⟨g, rfl⟩ := Int.eq_ofNat_of_zero_le g0
          have s58 : ∀ b o, b ≠ pt → b ≠ R → H6 b = some o → H8 b = some o := fun b o n n2 e => b8 _ _ n (s57 _ _ n n2 e)
          have eR8 := b8 _ _ nRp eR7
          have l4 := okR_len okr
          refine ⟨.ref R, rfl, .str ⟨#[cc]⟩, rfl, R, _, rfl, .inl ⟨_, .inr ⟨#[cc]⟩, eR8, rfl, by rw [rowK_len, sizeLine_eq]; omega, rfl⟩, ?_⟩
          have nz : lkp r (⟨#[cc]⟩ : Str) = none := lkp_none fun q => sgs_not hz (okR_in okr q)
          rw [rowK_put nz]
          have s89 : ∀ b o, b ≠ pt → b ≠ R → H8 b = some o → (upd H8 R (.dK (rowK (r ++ [(⟨#[cc]⟩, g)])))) b = some o := fun b o _ n e => by rw [upd_ne n]; exact e
          refine ⟨_, _, rfl, ?_, keepB (keepB b5 s58) s89, keepD (keepD eD5 s58) s89, keep (keep nr5 s58) s89, upd_same, okR_add hz okr g, fun e he => ?_⟩
          · obtain ⟨x, y, q, q2⟩ := hp8
            exact ⟨x, y, by rw [upd_ne nRp.symm]; exact q, q2⟩
          · rcases List.mem_append.mp he with q | q
            · exact ltr e q
            · rw [List.mem_singleton.mp q]; exact Int.ofNat_lt.mp g1
        · exact ⟨_, _, rfl, hp7, keepB b5 s57, keepD eD5 s57, keep nr5 s57, eR7, okR_skip hz okr, ltr⟩
      · rintro σ H5 ⟨r, r7, rfl, hp5, b5, eD5, nr5, eR5, okr, ltr⟩
        rw [gs] at okr
        refine ⟨.ref D, rfl, .inl ⟨rfl, _, SqL.of eD5⟩, .ref R, rfl, D, _, _, rfl, rfl, eD5, (by rw [List.length_map, nr5.l, lc, sizeLine_eq]; omega), ?_⟩
        refine ⟨ds ++ [R], c ++ [r], _, _, _, rfl, ?_, fun b o n e => ?_, by rw [upd_same, List.map_append]; rfl, ?_, by rw [List.length_append, lc]; rfl, fun q hq => ?_⟩
        · obtain ⟨x, y, q, q2⟩ := hp5
          exact ⟨x, y, by rw [upd_ne nDp.symm]; exact q, q2⟩
        · rw [upd_ne (ne_of_none e nDH)]; exact b5 _ _ n e
        · refine (nr5.add nRH nRD eR5).keep fun b kvs _ n e => ?_
          rw [upd_ne n]; exact e
        · rcases List.mem_append.mp hq with q' | q'
          · exact okc q q'
          · rw [List.mem_singleton.mp q']; exact ⟨okr, ltr⟩
    · rintro σ H3 ⟨ds, c, r5, r6, r7, rfl, hp3, b3, eD3, nr, lc, okc⟩
      have lc' : c.length = 1 + m := by omega
      exact ⟨.ref D, rfl, k D c H3 nDH (nr.newT eD3) ⟨by omega, fun r hr e he => by rw [lc']; exact (okc r hr).2 e he⟩ (fun r hr => ⟨(okc r hr).1, trivial⟩) (by omega) hp3 b3⟩
end
end K88
end

section
set_option maxHeartbeats 4000000
/-! list(d.values()) -/
namespace K88
open PySem PySem.Spec PyProof.Rows L2
def rValsL : V → Hp → VK → Prop := fun x H Q => ∃ (d : Addr) (kvs : List (Key × V)), x = .ref d ∧ Rd H d (.dK kvs) ∧ ∀ p, H p = none → Q (.ref p) (upd H p (.lst (kvs.map (·.2))))
def tListVals (te : TE) : TE := fun σ H Q => te σ H fun x H1 => rValsL x H1 Q
theorem vals_at' : ∀ {us : List Value} {vs : List (Key × Value)}, us.length = vs.length → (∀ (j : Nat) (v : Value), us[j]? = some v → ∃ k : Key, vs[j]? = some (k, v)) → us = vs.map (·.2)
  | [], [], _, _ => rfl
  | [], _ :: _, h, _ => by cases h
  | _ :: _, [], h, _ => by cases h
  | u :: us, q :: vs, hl, h => by
    obtain ⟨k, e⟩ := h 0 u rfl
    have e : q = (k, u) := Option.some.inj e
    subst e
    rw [List.map_cons, ← vals_at' (us := us) (vs := vs) (by simpa using hl) fun j v hv => h (j + 1) v hv]
section
variable {X : Cx} {e : Expr} {te : TE} {p apos cpos pos : Pos}
/-- list(e.values()) -/
theorem pe_listVals (hc : X.calm = true) (he : PE X e te) (hg : Gl X "list") (hm : X.mg "list" = none) (hv : bootBuiltins "list" = some (.type "list")) (hbase : attributeBase e "values" X.env (eval e X.env) = eval e X.env := by rfl) (hline : (apos.endLine == cpos.line) = true := by rfl)
    (hs : starEach [.Call (.Attribute e "values" apos) [] [] cpos] X.env = (false, eval (.Call (.Attribute e "values" apos) [] [] cpos) X.env) :: starEach [] X.env := by rfl) :
    PE X (.Call (.Name "list" p) [.Call (.Attribute e "values" apos) [] [] cpos] [] pos) (tListVals te) := by
  refine ⟨fun pins s σ H Q I hq => ?_⟩
  refine wpAny_Call_Name_kw (ld_blt I hg hm hv ?_)
  refine PyProof.Rows.callWith_type1 ?_ hs rfl
  rw [hs]
  show wpAny _ _ (spliced ((false, eval (.Call (.Attribute e "values" apos) [] [] cpos) X.env) :: backTo pos (starEach [] X.env))) _ _ s
  refine Calls.spliced_cons ?_
  refine wpAny_Call_method (T := "dict") (id := "dict.values") hbase rfl hline F.plainAttrs_dict F.slot_dict_values F.type_dict_values (thn (he.run pins s σ H _ I hq) fun u s1 ⟨x, H1, I1, rx, d, kvs, ex, hd, q⟩ => ?_)
  subst ex
  obtain rfl : u = Value.ref d := rx
  obtain ⟨hz, hs0, vs, kv, hdo⟩ := dk_rd I1.hok hd
  obtain ⟨ep, hat⟩ := hdo.dictAt
  have lk : kvs.length = vs.length := Paired.length kv
  have I2 : Inv X pins σ H1 { s1 with heap := s1.heap.push { cls := .type "dict_values", data := .fields #[.ref d] } } := I1.kept (t' := s1.toks) fun b ob q => Heap.get?_push_of_some _ q
  refine ⟨hdo.typeIs, hdo.mapOf.noDict, ?_⟩
  show wpAny _ _ (callWith cpos (.builtin "dict.values") [.ref d] [] []) _ X.xe s1
  refine method_meetsIn F.slot_dict_values F.entry_dict_values rfl (PySem.evalArgs_none ⟨rfl, hdo.typeIs, F.args_dict_values_1 _, _, meets_dict_values (mixKind X.prog X.w) d hs0, ⟨vs, hdo⟩, ?_⟩)
  refine Calls.spliced_nil ?_
  refine PySem.W.kdl_call (PySem.W.kdl_values (knd := mixKind X.prog X.w) (kvs := vs) (ep := ep) (r := s1.heap.objs.size) (d := d)) (I1.ok.hd hc) ⟨⟨_, Heap.get?_push_size _ rfl, rfl, rfl⟩, hat.push _⟩ (by omega) fun h' tk acc c' hk hD hacc => ?_
  have ev : acc.toList = vs.map (·.2) := vals_at' (by rw [Array.length_toList]; exact hacc.1) fun j v e => hacc.2 j v (by rw [← Array.getElem?_toList]; exact e)
  have lay := I2.laid (t' := tk) (o := .lst (kvs.map (·.2))) hk (Nat.le_refl _)
    (show ObjOk X.prog X.w _ _ _ (.lst (kvs.map (·.2))) from ⟨by rw [List.length_map]; exact hz, acc.toList, c', by rw [ev]; exact kv_snd kv, by rw [Array.toArray_toList]; exact hD⟩)
  exact ⟨.ref _, _, lay, rfl, q _ (I2.hok.fresh (Nat.le_refl _))⟩
end
end K88
end

section
set_option maxHeartbeats 4000000
/-! who is alive -/
namespace K88
open PySem PySem.Spec PyProof.Rows L2
theorem nums_shaped (l : List Nat) : SeqAt.shaped (numsD l) = true := by
  unfold SeqAt.shaped numsD
  rw [Bool.and_eq_true]
  constructor
  · have := can_map (f := fun n : Nat => PyData.int (n : Int)) (l := l) fun x hx => by simp [PyData.canLay0]
    simpa [PyData.canLay0] using this
  · refine decide_eq_true ?_
    have := depth_map (f := fun n : Nat => PyData.int (n : Int)) (n := 1) (l := l) fun x _ => by simp [PyData.depth]
    simp only [PyData.depth]
    omega
theorem nums_plain (l : List Nat) : plainD (numsD l) = true := plain_map (f := fun n : Nat => PyData.int (n : Int)) fun x _ => rfl
theorem nums_eqv (xs ys : List Nat) : PyData.eqv (numsD xs) (numsD ys) = decide (xs = ys) := by
  have := eqv_map (f := fun n : Nat => PyData.int (n : Int)) (fun x y => by simp only [PyData.eqv]; rw [Bool.eq_iff_iff]; simp; constructor <;> intro h <;> omega) xs ys
  simpa [PyData.eqv, numsD] using this
theorem dx_numsD {H : Hp} {D : Addr} {l : List Nat} (e : H D = some (.lst (intsV l))) : Dx H (.ref D) (numsD l) := .lst e (dx_nums l)
theorem inV_ints {g : Nat} : ∀ {l : List Nat}, inV (.int (g : Int)) (intsV l) = decide (g ∈ l)
  | [] => rfl
  | x :: l => by
    have ih := inV_ints (g := g) (l := l)
    unfold inV at ih ⊢
    show (eqV (.int (x : Int)) (.int (g : Int)) || (intsV l).any fun y => eqV y (.int (g : Int))) = _
    rw [ih]
    have e : eqV (.int (x : Int)) (.int (g : Int)) = decide (x = g) := (by show decide ((x : Int) = (g : Int)) = decide (x = g); rw [decide_eq_decide]; exact ⟨Int.ofNat.inj, fun h => by rw [h]⟩)
    rw [e, Bool.eq_iff_iff, Bool.or_eq_true, decide_eq_true_iff, decide_eq_true_iff, decide_eq_true_iff, List.mem_cons]
    exact ⟨fun h => h.elim (fun z => .inl z.symm) .inr, fun h => h.elim (fun z => .inl z.symm) .inr⟩
theorem op_inK {X : Cx} {K : PySem.W.Frag} (e : X.K = K) : OpR X (compareOp .In) (rIn K false) := e ▸ op_in_seq
theorem op_notInK {X : Cx} {K : PySem.W.Frag} (e : X.K = K) : OpR X (compareOp .NotIn) (rIn K true) := e ▸ op_notIn_seq
theorem flat_ints (l : List Nat) : (intsV l).all flatV = true := by
  rw [List.all_eq_true]
  intro x hx
  obtain ⟨n, _, rfl⟩ := List.mem_map.mp hx
  rfl
/-- a comprehension with a condition -/
theorem lc_sel {J : It} {n : Nat} {G : Hp → Prop} {Y : Nat → Hp → V → Hp → Prop} (w : Walk J n G Y) {j : Nat} {tt : TT} {te : TE} {vs : List Nat} {σ : L2.St} {H1 : Hp} {D : Addr} {Qd : Hp → Prop} (b : Nat → Bool) (f : Nat → V) (hn : H1 D = none) (hsz : n ≤ 100000)
    (hG : ∀ i H, i ≤ n → Same H1 H → G H) (hw : ∀ x, wipe ((wipe σ vs).set j (some x)) vs = wipe σ vs)
    (hstep : ∀ i x H H', i < n → Same H1 H → Y i H x H' → Same H H' ∧ (∀ Q : Bool → Hp → Prop, (∀ H2, Same H' H2 → Q (b i) H2) → tt ((wipe σ vs).set j (some x)) H' Q) ∧ ∀ (H2 : Hp) (Q : VK), Same H' H2 → b i = true → (∀ H3, Same H2 H3 → Q (f i) H3) → te ((wipe σ vs).set j (some x)) H2 Q)
    (hend : ∀ H', Same H1 H' → H' D = some (.lst (((List.range n).filter b).map f)) → Qd H') :
    ∃ W : Nat → Nat → Hp → Prop, (∃ m, W 0 m (upd H1 D (.lst []))) ∧ ∀ i m H, W i m H →
      (J.stop i H ∧ Qd H) ∨ (J.go i H ∧ ∃ Nx : Hp → Prop, (∀ H', Nx H' → ∃ m', m' < m ∧ W (i + 1) m' H') ∧ ∀ x H', J.yld i H x H' → gName j x (wipe σ vs) H' fun σ2 H2 => wipe σ2 vs = wipe σ vs ∧ tt σ2 H2 fun b H3 =>
        if b = true then te σ2 H3 fun y H4 => ∃ acc, H4 D = some (.lst acc) ∧ acc.length < sizeLine ∧ Nx (upd H4 D (.lst (acc ++ [y]))) else Nx H3) := by
  refine lc_it (w := w) (g := gName j) (tt := tt) (fun i H' => Same H1 H' ∧ H' D = some (.lst (((List.range i).filter b).map f))) ⟨Same.new hn, upd_same⟩ (fun i H hi hP => hG i H hi hP.1) (fun i x H' H2 hi hP hy => ?_) (fun H' hP => hend H' hP.1 hP.2)
  obtain ⟨s, eD⟩ := hP
  obtain ⟨s2, st, se⟩ := hstep i x H' H2 hi s hy
  refine ⟨hw x, ?_⟩
  refine st _ fun H3 s3 => ?_
  have sn : (List.range (i + 1)).filter b = if b i = true then (List.range i).filter b ++ [i] else (List.range i).filter b := by
    rw [List.range_succ, List.filter_append, List.filter_cons]
    split <;> simp
  cases q : b i with
  | true =>
    rw [q] at sn
    refine iteT (se H3 _ s3 q fun H4 s4 => ⟨_, s4 _ _ (s3 _ _ (s2 _ _ eD)), ?_, ?_, ?_⟩)
    · have := List.length_filter_le b (List.range i)
      rw [List.length_range] at this
      rw [List.length_map, sizeLine_eq]; omega
    · intro c o e
      rw [upd_ne (ne_of_none e hn)]
      exact s4 _ _ (s3 _ _ (s2 _ _ (s _ _ e)))
    · rw [upd_same, sn, if_pos rfl, List.map_append]; rfl
  | false =>
    rw [q] at sn
    refine iteF ⟨Same.trans s (Same.trans s2 s3), ?_⟩
    rw [sn, if_neg Bool.false_ne_true]
    exact s3 _ _ (s2 _ _ eD)
def aliveX (c : Ch) (k : Nat) : List Nat := (List.range c.length).filter (aliveF c k)
noncomputable def liveX (c : Ch) : List Nat := (List.range c.length).filter (liveB c)
theorem aliveX_mem {c : Ch} {k s : Nat} : s ∈ aliveX c k ↔ aliveF c k s = true := by
  unfold aliveX
  rw [List.mem_filter, List.mem_range]
  exact ⟨fun h => h.2, fun h => ⟨alive_lt h, h⟩⟩
theorem aliveX_zero (c : Ch) : aliveX c 0 = List.range c.length := by
  unfold aliveX
  refine List.filter_eq_self.mpr fun s hs => ?_
  exact decide_eq_true (List.mem_range.mp hs)
theorem aliveX_still {c : Ch} {k : Nat} : aliveX c (k + 1) = aliveX c k ↔ Still c k := by
  constructor
  · intro h s
    rw [Bool.eq_iff_iff, ← aliveX_mem, ← aliveX_mem, h]
  · intro h
    unfold aliveX
    exact List.filter_congr fun s _ => h s
theorem aliveX_live {c : Ch} {k : Nat} (h : Still c k) : aliveX c k = liveX c := by
  unfold aliveX liveX
  exact List.filter_congr fun s _ => h.live s
theorem cntT_X (c : Ch) (k : Nat) : cntT c k = (aliveX c k).length := rfl
/-- those of them that go on -/
theorem aliveX_next (c : Ch) (k : Nat) : ((List.range (aliveX c k).length).filter (fun i => aliveF c (k + 1) ((aliveX c k).getD i 0))).map (fun i => (aliveX c k).getD i 0) = aliveX c (k + 1) := by
  have key : ∀ (l : List Nat) (p : Nat → Bool), ((List.range l.length).filter fun i => p (l.getD i 0)).map (fun i => l.getD i 0) = l.filter p := by
    intro l p
    have e : l = (List.range l.length).map fun i => l.getD i 0 := by
      refine List.ext_getElem (by simp) fun i h1 h2 => ?_
      rw [List.getElem_map, List.getElem_range, List.getD_eq_getElem?_getD, List.getElem?_eq_getElem h1]; rfl
    conv => rhs; rw [e, List.filter_map]
    rfl
  rw [key]
  unfold aliveX
  rw [List.filter_filter]
  refine List.filter_congr fun s _ => ?_
  cases q : aliveF c (k + 1) s with
  | false => rfl
  | true => rw [alive_less q]; rfl
def spAlive : Sp := fun vs H Q _ => ∃ (F : Addr) (ls : List Addr) (c : Ch), vs = [.ref F] ∧ TbR H F ls c ∧ WfC c ∧ SmT c ∧ ∀ (D : Addr) (H' : Hp), Same H H' → H D = none → H' D = some (.lst (intsV (liveX c))) → Q (.ref D) H'
section
variable {P : Program} {w : World} {K : PySem.W.Frag} {mg : Str → Option Value} {base : Heap} {ad : Str → Addr} {fd : Str → FuncData}
theorem scAlive : FnScope ["_law_lines_here", "_law_alive_here", "_law_turn", "_law_later", "_law_at", "_law_goal"] ["_law_lines_here"] (defScope sAlive) := ⟨rfl, rfl, rfl, by decide +kernel, rfl, by decide +kernel, by decide +kernel⟩
theorem ok_alive (X : Tx K mg ad fd) : FnOk P w K mg base CX0 1 (ad "_law_alive") (fd "_law_alive") ["_law_lines_here"] spAlive := by
  refine X.F__law_alive.ok scAlive (fun vs H Q E h => ?_) (fun cdv A outer s H vs Q E hr h => ?_)
  · obtain ⟨F, ls, c, rfl, tb, wf, sm, k⟩ := h
    rfl
  · obtain ⟨F, ls, c, rfl, tb, wf, sm, k⟩ := h
    have hu64 : (A.deeper (envOfC "_law_alive" (defScope sAlive) s.heap.objs.size (ad "_law_alive") cdv)).units + 64 < cLine := by have := hr.un; omega
    refine ⟨_, (pss_cons (ps_set (i := 1) scAlive.nd rfl (.inr rfl) (by exact (pe_listRg rfl (by rfl) X.m_list (prg_1 (by rfl) X.m_range (pe_callB (call_lenK (K := K) rfl) (by rfl) X.m_len (by decide +kernel) (pa_cons (pv 0) pa_nil))))))
  (pss_cons (ps_for PassesOwn.never rfl (pi_range1 (by rfl) X.m_range (pa_cons (pe_callB (call_lenK (K := K) rfl) (by rfl) X.m_len (by decide +kernel) (pa_cons (pv 0) pa_nil)) pa_nil)) (pg_name (i := 2) scAlive.nd rfl (.inl rfl))
  (pss_cons (ps_setLc (i := 3) (own := [("_law_at", 4)]) (g := gName 4) rfl scAlive.nd rfl rfl (by rfl) (pi_listK (K := K) rfl (pv 1)) (blkOk_by (own := [("_law_at", 4)]) (N := ["_law_lines_here", "_law_alive_here", "_law_turn", "_law_later", "_law_at", "_law_goal"]) (sc := defScope sAlive) (by decide +kernel)) (fun _ _ _ _ _ => pg_name (i := 4) scAlive.nd rfl (Or.inl rfl)) (fun _ _ _ _ _ => pts_one (pt_val (pe_callB (cr_anyK (K := K) rfl) (by rfl) X.m_any (by decide +kernel) (pa_cons (pe_lc (own := [("_law_goal", 5)]) (g := gName 5) rfl scAlive.nd (pi_listK (K := K) rfl (pe_listVals rfl (pe_ix (ix_listK (K := K) rfl) (pv 0) (pv 4) (fun _ _ => rfl)) (by rfl) X.m_list (by decide +kernel))) (blkOk_by (own := [("_law_goal", 5)]) (N := ["_law_lines_here", "_law_alive_here", "_law_turn", "_law_later", "_law_at", "_law_goal"]) (by kernel_rfl)) (fun _ _ _ _ _ => pg_name (i := 5) scAlive.nd rfl (Or.inl rfl)) (fun _ _ _ _ _ => pts_nil) (fun _ _ _ _ _ => (pe_cmpR (op_inK (K := K) rfl) (pv 5) (pv 1) rfl))) pa_nil)))) (fun _ _ _ _ _ => (pv 4)))
  (pss_cons (ps_if (pt_cmpR (op_eqD hu64) (pv 3) (pv 1) (nomark _))
  (pss_one (ps_ret (by exact (pv 1))))
  pss_nil)
  (pss_one (ps_set (i := 1) scAlive.nd rfl (.inr rfl) (by exact (pv 3)))))))
  (pss_one (ps_ret (by exact (pv 1)))))), ?_⟩
    have cl := sm.1
    have hl : (ls.map V.ref).length = c.length := by rw [List.length_map, tb.l]
    refine ⟨.ref F, rfl, .ref F, _, rfl, .inl ⟨_, SqL.of tb.e, rfl⟩, _, rfl, ?_⟩
    rw [hl]
    refine ⟨RgOk.of_le (by decide) (by omega) (by decide) (by omega), fun A0 nA0 => ?_⟩
    have e0 : rgV 0 (c.length : Int) = intsV (aliveX c 0) := by
      rw [aliveX_zero]
      unfold rgV intsV
      rw [show ((c.length : Int) - 0).toNat = c.length by omega]
      exact List.map_congr_left fun i _ => by rw [Int.zero_add]
    rw [e0]
    refine gN ?_
    have s1 : Same H (upd H A0 (.lst (intsV (aliveX c 0)))) := Same.new nA0
    have eA : (upd H A0 (.lst (intsV (aliveX c 0)))) A0 = some (.lst (intsV (aliveX c 0))) := upd_same
    generalize (upd H A0 (.lst (intsV (aliveX c 0)))) = H1 at s1 eA ⊢
    refine ⟨.ref F, rfl, .ref F, _, rfl, .inl ⟨_, SqL.of (s1 _ _ tb.e), rfl⟩, _, rfl, by omega, by omega, ?_⟩
    rw [hl]
    refine for_range (lo := 0) (n := ((c.length : Int)).toNat) (fun i σ H' => ∃ (A1 : Addr) (r2 r3 r4 r5 : Option V), σ = [some (.ref F), some (.ref A1), r2, r3, r4, r5] ∧ Same H H' ∧ H A1 = none ∧ H' A1 = some (.lst (intsV (aliveX c i))) ∧ cntT c i + i ≤ c.length) ⟨A0, _, _, _, _, rfl, s1, nA0, eA, by have := cnt_le_n c 0; omega⟩ ?_ ?_
    · rintro i σ H2 hi ⟨A1, r2, r3, r4, r5, rfl, s2, nA1, eA1, ci⟩
      refine gN ?_
      have la : (intsV (aliveX c i)).length = (aliveX c i).length := by unfold intsV; rw [List.length_map]
      have le : (aliveX c i).length ≤ c.length := cnt_le_n c i
      refine ⟨.ref A1, rfl, A1, rfl, ⟨_, SqL.of eA1⟩, fun D nD => ?_⟩
      refine lc_sel (w := walk_list (K := K) (a := A1) (xs := intsV (aliveX c i))) (fun j => aliveF c (i + 1) ((aliveX c i).getD j 0)) (fun j => V.int (((aliveX c i).getD j 0 : Nat) : Int)) nD (by rw [la]; omega) (fun j H' _ s => SqL.of (s _ _ eA1)) (fun _ => rfl) (fun j x H3 H4 hj s3 y => ?_) (fun H3 s3 eD => ?_)
      · obtain ⟨rfl, hx⟩ := y
        rw [la] at hj
        have ex : x = V.int (((aliveX c i).getD j 0 : Nat) : Int) := by
          unfold intsV at hx
          rw [List.getElem?_map, List.getElem?_eq_getElem hj] at hx
          rw [List.getD_eq_getElem?_getD, List.getElem?_eq_getElem hj]
          exact (Option.some.inj hx).symm
        have lt : (aliveX c i).getD j 0 < c.length := by
          rw [List.getD_eq_getElem?_getD, List.getElem?_eq_getElem hj]
          exact alive_lt (aliveX_mem.mp (List.getElem_mem hj))
        subst ex
        generalize (aliveX c i).getD j 0 = g at lt
        have s4 := Same.trans s2 s3
        refine ⟨Same.refl, fun Q' hQ => ?_, fun H5 Q' s5 _ hQ => ⟨_, rfl, hQ _ Same.refl⟩⟩
        obtain ⟨a, r, pm, h1, h2, h3⟩ := tb.row lt
        have r4' : r.length ≤ 4 := by
          rw [pm.length_eq]
          have := (sm.2 _ (List.mem_of_getElem? (row_get lt))).1
          exact this
        refine ⟨.ref F, rfl, .int (g : Int), rfl, F, _, (g : Int), .ref a, rfl, rfl, SqL.of (s4 _ _ tb.e), h2, a, rowK r, rfl, Rd.same s4 h3, fun p np => ⟨p, rfl, ⟨_, SqL.of upd_same⟩, fun D2 nD2 => ?_⟩⟩
        have s5 : Same H4 (upd H4 p (.lst ((rowK r).map (·.2)))) := Same.new np
        have ep : (upd H4 p (.lst ((rowK r).map (·.2)))) p = some (.lst ((rowK r).map (·.2))) := upd_same
        generalize (upd H4 p (.lst ((rowK r).map (·.2)))) = H5 at s5 ep nD2 ⊢
        refine lc_map (w := walk_list (K := K) (a := p) (xs := (rowK r).map (·.2))) (fun m => V.bl (decide ((r.getD m ("", 0)).2 ∈ aliveX c i))) nD2 (by rw [List.length_map, rowK_len]; omega) (fun m H' _ s => SqL.of (s _ _ ep)) (fun _ => rfl) (fun m x H6 H7 hm s6 y => ?_) (fun H6 s6 eD2 => ?_)
        · obtain ⟨rfl, hx⟩ := y
          rw [List.length_map, rowK_len] at hm
          have ex : x = V.int ((r.getD m ("", 0)).2 : Int) := by
            unfold rowK at hx
            rw [List.getElem?_map, List.getElem?_map, List.getElem?_eq_getElem hm] at hx
            rw [List.getD_eq_getElem?_getD, List.getElem?_eq_getElem hm]
            exact (Option.some.inj hx).symm
          subst ex
          refine ⟨Same.refl, fun Q2 hQ2 => ?_⟩
          refine ⟨_, rfl, .ref A1, rfl, A1, _, rfl, .inl (SqL.of (s6 _ _ (s5 _ _ (s3 _ _ eA1)))), rfl, flat_ints _, ?_⟩
          show Q2 (.bl (inV _ _)) _
          rw [inV_ints]
          exact hQ2 _ Same.refl
        · rw [List.length_map, rowK_len] at eD2
          have eb : (List.range r.length).map (fun m => V.bl (decide ((r.getD m ("", 0)).2 ∈ aliveX c i))) = (r.map fun e => decide (e.2 ∈ aliveX c i)).map V.bl := by
            rw [List.map_map]
            exact range_map fun m e he => by rw [List.getD_eq_getElem?_getD, he]; rfl
          rw [eb] at eD2
          refine ⟨D2, _, rfl, SqL.of eD2, _, rfl, ?_⟩
          have ev : (r.map fun e => decide (e.2 ∈ aliveX c i)).any id = aliveF c (i + 1) g := by
            rw [List.any_map, any_perm pm]
            show ((rowC c g).any fun e => decide (e.2 ∈ aliveX c i)) = (rowC c g).any fun e => aliveF c i e.2
            congr 1
            funext e
            rw [Bool.eq_iff_iff, decide_eq_true_iff]
            exact aliveX_mem
          rw [ev]
          exact hQ _ (Same.trans s5 s6)
      · rw [la] at eD
        have en : ((List.range (aliveX c i).length).filter fun j => aliveF c (i + 1) ((aliveX c i).getD j 0)).map (fun j => V.int (((aliveX c i).getD j 0 : Nat) : Int)) = intsV (aliveX c (i + 1)) := by
          rw [← aliveX_next]
          unfold intsV
          rw [List.map_map]; rfl
        rw [en] at eD
        refine gN ?_
        have s23 := Same.trans s2 s3
        have eA3 := s3 _ _ eA1
        have nDH := none_back s2 nD
        refine ⟨.ref D, rfl, .ref A1, rfl, _, _, Dx.dp (dx_numsD eD) (nums_plain _), Dx.dp (dx_numsD eA3) (nums_plain _), nums_shaped _, nums_shaped _, ?_⟩
        rw [nums_eqv]
        by_cases st : aliveX c (i + 1) = aliveX c i
        · rw [decide_eq_true st]
          refine ⟨_, rfl, iteT ?_⟩
          rw [aliveX_live (aliveX_still.mp st)] at eA3
          exact ⟨.ref A1, rfl, k A1 H3 s23 nA1 eA3⟩
        · rw [decide_eq_false st]
          refine ⟨_, rfl, iteF ?_⟩
          refine ⟨.ref D, rfl, ?_⟩
          refine gN ?_
          have less : cntT c (i + 1) < cntT c i := cnt_less fun z => st (aliveX_still.mpr (still_of z))
          exact ⟨D, _, _, _, _, rfl, s23, nDH, eD, by omega⟩
    · rintro σ H2 ⟨A1, r2, r3, r4, r5, rfl, s2, nA1, eA1, ci⟩
      have z : cntT c ((c.length : Int)).toNat = 0 := by omega
      have st : Still c ((c.length : Int)).toNat := still_of fun s _ => by
        have no : ∀ s, aliveF c ((c.length : Int)).toNat s = false := fun s => by
          cases q : aliveF c ((c.length : Int)).toNat s with
          | false => rfl
          | true =>
            have := List.length_pos_of_mem (aliveX_mem.mpr q)
            rw [← cntT_X] at this
            omega
        rw [no]
        cases q : aliveF c (((c.length : Int)).toNat + 1) s with
        | false => rfl
        | true => exact absurd (alive_less q) (by rw [no]; exact Bool.false_ne_true)
      rw [aliveX_live st] at eA1
      exact ⟨.ref A1, rfl, k A1 H2 s2 nA1 eA1⟩
end
end K88
end

section
set_option maxHeartbeats 4000000
/-! texts of rows tell the rows -/
namespace K88
open PySem PySem.Spec PyProof.Rows L2
def wkD (ps : List (Str × Nat)) : PyData := .list (ps.map fun p => .tuple [.str p.1, .int (p.2 : Int)])
theorem sm_weight {n : Nat} (h : n ≤ 4096) : (PyData.int (n : Int)).weight ≤ 13 := by
  simp only [PyData.weight, Int.natAbs_natCast]
  split
  · omega
  · rename_i q
    have z : n ≠ 0 := fun y => q (by rw [y]; rfl)
    have := (Nat.log2_lt (k := 13) z).mpr (by omega)
    omega
theorem wk_all {i : Nat} (hi : i ≤ 6) : ∀ {ps : List (Str × Nat)}, (∀ p ∈ ps, p.1.length = i ∧ p.2 < 64 ∧ (p.1.cps.toList.all fun c => decide (c < 16 ^ 8)) = true) →
    PyData.showableAll (ps.map fun p => PyData.tuple [.str p.1, .int (p.2 : Int)]) = true ∧ PyData.leavesShortAll 13 (ps.map fun p => PyData.tuple [.str p.1, .int (p.2 : Int)]) = true ∧ PyData.weightAll (ps.map fun p => PyData.tuple [.str p.1, .int (p.2 : Int)]) ≤ 24 * ps.length ∧ PyData.depthAll (ps.map fun p => PyData.tuple [.str p.1, .int (p.2 : Int)]) ≤ 1
  | [], _ => ⟨rfl, rfl, by simp [PyData.weightAll], by simp [PyData.depthAll]⟩
  | p :: ps, h => by
    obtain ⟨h1, h2, h3⟩ := h p List.mem_cons_self
    obtain ⟨a, b, c, d⟩ := wk_all hi fun x hx => h x (List.mem_cons_of_mem _ hx)
    have w2 : (PyData.int (p.2 : Int)).weight ≤ 13 := sm_weight (by omega)
    have w1 : (PyData.str p.1).weight ≤ 6 := by
      simp only [PyData.weight]
      have : p.1.cps.size = i := h1
      omega
    rw [List.map_cons]
    refine ⟨?_, ?_, ?_, ?_⟩
    · simp only [PyData.showableAll, PyData.showable, Bool.and_eq_true]
      exact ⟨⟨trivial, decide_eq_true (by rw [Int.natAbs_natCast]; have := Nat.log2_le_self p.2; omega), trivial⟩, a⟩
    · simp only [PyData.leavesShortAll, PyData.leavesShort, Bool.and_eq_true]
      refine ⟨⟨h3, decide_eq_true ?_, trivial⟩, b⟩
      rw [PyData.shown_int]
      show (Str.ofString (toString ((p.2 : Nat) : Int))).length ≤ 13
      rw [PySem.ofString_length]
      refine int_text_length_le (k := 12) (by decide) ?_
      rw [Int.natAbs_natCast]
      by_cases z : p.2 = 0
      · rw [z]; decide
      · exact (Nat.log2_lt (k := 12) z).mpr (by omega)
    · rw [List.length_cons]
      simp only [PyData.weightAll, PyData.weight] at w1 w2 ⊢
      omega
    · simp only [PyData.depthAll, PyData.depth]
      omega
/-- small rows of signs and digits -/
def DigR (ps : List (Str × Nat)) : Prop := ps.length ≤ 4 ∧ ∀ p ∈ ps, p.1 ∈ sgs ∧ p.2 < 10
theorem wk_r3 {ps : List (Str × Nat)} (h : DigR ps) : R3 (wkD ps) := by
  have z2 : ∀ z ∈ sgs, (z.cps.toList.all fun c => decide (c < 16 ^ 8)) = true := by decide +kernel
  obtain ⟨a, b, e, d⟩ := wk_all (i := 1) (by decide) (ps := ps) fun p hp => ⟨sgs_one _ (h.2 p hp).1, by have := (h.2 p hp).2; omega, z2 _ (h.2 p hp).1⟩
  have hl := h.1
  refine ⟨?_, ?_, ?_⟩
  · simp only [wkD, PyData.showable]; exact a
  · simp only [wkD, PyData.depth]; omega
  · have h1 := PyData.shown_le 13 (by decide) (wkD ps) (by simp only [wkD, PyData.leavesShort]; exact b)
    have h2 : (wkD ps).weight ≤ 200 := by
      simp only [wkD, PyData.weight]
      omega
    rw [sizeLine_eq]
    omega
/-- one of them, as it is shown -/
def pieceS (z : Str) (m : Nat) : Str := (PyData.tuple [.str z, .int (m : Int)]).shown
theorem piece_codes : ∀ z ∈ sgs, ∀ m ∈ List.range 10, (pieceS z m).cps.toList = [40, 39, cz z, 39, 44, 32, 48 + m, 41] := by decide +kernel
theorem shownAll_map {α : Type} (f : α → PyData) : ∀ l : List α, PyData.shownAll (l.map f) = l.map fun x => (f x).shown
  | [] => by simp [PyData.shownAll]
  | x :: l => by rw [List.map_cons, List.map_cons]; simp only [PyData.shownAll]; rw [shownAll_map f l]
def tailL : Nat → List (List Nat) → List Nat
  | _, [] => []
  | k, t :: r => (if k > 0 then [44, 32] else []) ++ t ++ tailL (k + 1) r
theorem text_codes : ∀ (ts : List Str) (k : Nat) (acc : Str), (textFrom k acc ts).cps.toList = acc.cps.toList ++ tailL k (ts.map fun t => t.cps.toList)
  | [], k, acc => by
    show acc.cps.toList = acc.cps.toList ++ []
    rw [List.append_nil]
  | t :: ts, k, acc => by
    show (textFrom (k + 1) (acc ++ (if k > 0 then ", " else "" : String) ++ t) ts).cps.toList = _
    rw [text_codes ts]
    show ((acc.cps ++ (Str.ofString (if k > 0 then ", " else "" : String)).cps) ++ t.cps).toList ++ _ = _
    rw [Array.toList_append, Array.toList_append, List.append_assoc, List.append_assoc]
    congr 1
    show _ = (if k > 0 then [44, 32] else []) ++ t.cps.toList ++ tailL (k + 1) (ts.map fun t => t.cps.toList)
    rw [List.append_assoc]
    congr 1
    by_cases q : k > 0
    · rw [if_pos q, if_pos q]; decide +kernel
    · rw [if_neg q, if_neg q]; decide +kernel
theorem tail_len : ∀ (ts : List (List Nat)) (k : Nat), (∀ t ∈ ts, t.length = 8) → 8 * ts.length ≤ (tailL k ts).length
  | [], k, h => Nat.zero_le _
  | t :: ts, k, h => by
    have ih := tail_len ts (k + 1) fun x hx => h x (List.mem_cons_of_mem _ hx)
    have h1 := h t List.mem_cons_self
    show _ ≤ ((if k > 0 then [44, 32] else []) ++ t ++ tailL (k + 1) ts).length
    rw [List.length_append, List.length_append, List.length_cons, h1]
    omega
theorem tail_inj : ∀ {ts us : List (List Nat)} {k : Nat}, (∀ t ∈ ts, t.length = 8) → (∀ t ∈ us, t.length = 8) → tailL k ts ++ [93] = tailL k us ++ [93] → ts = us
  | [], [], _, _, _, _ => rfl
  | [], u :: us, k, _, h2, e => by
    have := tail_len (u :: us) k h2
    have e := congrArg List.length e
    rw [List.length_append, List.length_append] at e
    rw [List.length_cons] at this
    have z : (tailL k []).length = 0 := rfl
    rw [z] at e
    omega
  | t :: ts, [], k, h1, _, e => by
    have := tail_len (t :: ts) k h1
    have e := congrArg List.length e
    rw [List.length_append, List.length_append] at e
    rw [List.length_cons] at this
    have z : (tailL k []).length = 0 := rfl
    rw [z] at e
    omega
  | t :: ts, u :: us, k, h1, h2, e => by
    have e : ((if k > 0 then [44, 32] else []) ++ t ++ tailL (k + 1) ts) ++ [93] = ((if k > 0 then [44, 32] else []) ++ u ++ tailL (k + 1) us) ++ [93] := e
    rw [List.append_assoc, List.append_assoc, List.append_assoc, List.append_assoc] at e
    have e := List.append_cancel_left e
    obtain ⟨e1, e2⟩ := List.append_inj e ((h1 t List.mem_cons_self).trans (h2 u List.mem_cons_self).symm)
    rw [e1, tail_inj (fun x hx => h1 x (List.mem_cons_of_mem _ hx)) (fun x hx => h2 x (List.mem_cons_of_mem _ hx)) e2]
theorem codes_inj {a b : Str} (h : a.cps.toList = b.cps.toList) : a = b := by
  obtain ⟨x⟩ := a
  obtain ⟨y⟩ := b
  obtain ⟨x⟩ := x
  obtain ⟨y⟩ := y
  have h : x = y := h
  rw [h]
theorem wk_text (ps : List (Str × Nat)) : (wkD ps).shown = listText (ps.map fun p => pieceS p.1 p.2) := by
  unfold wkD
  simp only [PyData.shown]
  rw [shownAll_map]; rfl
theorem wk_inj {ps qs : List (Str × Nat)} (hp : DigR ps) (hq : DigR qs) (h : (wkD ps).shown = (wkD qs).shown) : ps = qs := by
  rw [wk_text, wk_text] at h
  have h := congrArg (fun x : Str => x.cps.toList) h
  have open_ : ∀ ts : List Str, (listText ts).cps.toList = (Str.ofString "[").cps.toList ++ (tailL 0 (ts.map fun t => t.cps.toList) ++ [93]) := fun ts => by
    show ((textFrom 0 "[" ts).cps ++ (Str.ofString "]").cps).toList = _
    rw [Array.toList_append, text_codes, List.append_assoc]
    congr 1
  have h : (listText (ps.map fun p => pieceS p.1 p.2)).cps.toList = (listText (qs.map fun p => pieceS p.1 p.2)).cps.toList := h
  rw [open_, open_] at h
  have h := List.append_cancel_left h
  have l8 : ∀ {ps : List (Str × Nat)}, DigR ps → ∀ t ∈ (ps.map fun p => pieceS p.1 p.2).map fun t => t.cps.toList, t.length = 8 := fun {ps} hp t ht => by
    rw [List.map_map] at ht
    obtain ⟨p, m, rfl⟩ := List.mem_map.mp ht
    obtain ⟨h1, h2⟩ := hp.2 p m
    show (pieceS p.1 p.2).cps.toList.length = 8
    rw [piece_codes p.1 h1 p.2 (List.mem_range.mpr h2)]; rfl
  have e := tail_inj (l8 hp) (l8 hq) h
  rw [List.map_map, List.map_map] at e
  have hl : ps.length = qs.length := by have := congrArg List.length e; rwa [List.length_map, List.length_map] at this
  refine List.ext_getElem hl fun i h1 h2 => ?_
  have ei := congrArg (fun l => l[i]?) e
  simp only [List.getElem?_map, List.getElem?_eq_getElem h1, List.getElem?_eq_getElem h2, Option.map_some] at ei
  have ei := Option.some.inj ei
  obtain ⟨a1, a2⟩ := hp.2 _ (List.getElem_mem h1)
  obtain ⟨b1, b2⟩ := hq.2 _ (List.getElem_mem h2)
  have ei : (pieceS (ps[i]).1 (ps[i]).2).cps.toList = (pieceS (qs[i]).1 (qs[i]).2).cps.toList := ei
  rw [piece_codes _ a1 _ (List.mem_range.mpr a2), piece_codes _ b1 _ (List.mem_range.mpr b2)] at ei
  have c1 : cz (ps[i]).1 = cz (qs[i]).1 := by simp at ei; exact ei.1
  have c2 : (ps[i]).2 = (qs[i]).2 := by simp at ei; exact ei.2
  refine Prod.ext ?_ c2
  rw [sgs_code _ a1, sgs_code _ b1, c1]
end K88
end

section
set_option maxHeartbeats 4000000
/-! like states, by their first ones -/
namespace K88
open PySem PySem.Spec PyProof.Rows L2
open Classical in
/-- the first state that is like s to the depth k -/
noncomputable def repK (c : Ch) (k s : Nat) : Nat := ((List.range c.length).find? fun t => decide (Lk c k s t)).getD 0
open Classical in
theorem repK_ok {c : Ch} {k s : Nat} (h : s < c.length) : repK c k s < c.length ∧ Lk c k s (repK c k s) ∧ ∀ t, t < repK c k s → ¬ Lk c k s t := by
  unfold repK
  cases e : (List.range c.length).find? fun t => decide (Lk c k s t) with
  | none =>
    have := List.find?_eq_none.mp e s (List.mem_range.mpr h)
    exact absurd (Lk.refl c k s) (by simpa using this)
  | some t =>
    have h1 := List.find?_some e
    have h2 := List.mem_of_find?_eq_some e
    refine ⟨List.mem_range.mp h2, by simpa using h1, fun u hu l => ?_⟩
    obtain ⟨_, as, bs, e1, e2⟩ := List.find?_eq_some_iff_append.mp e
    have hu : u < t := hu
    have : u ∈ as := by
      have hm : u ∈ List.range c.length := List.mem_range.mpr (by have := List.mem_range.mp h2; omega)
      rw [e1] at hm
      rcases List.mem_append.mp hm with q | q
      · exact q
      · exfalso
        have pw : (as ++ t :: bs).Pairwise (· < ·) := e1 ▸ List.pairwise_lt_range
        rcases List.mem_cons.mp q with q | q
        · omega
        · have := (List.pairwise_cons.mp (List.pairwise_append.mp pw).2.1).1 u q
          omega
    have := e2 u this
    simp at this
    exact this l
theorem repK_eq {c : Ch} {k s t : Nat} (hs : s < c.length) (ht : t < c.length) : repK c k s = repK c k t ↔ Lk c k s t := by
  obtain ⟨a1, a2, a3⟩ := repK_ok (k := k) hs
  obtain ⟨b1, b2, b3⟩ := repK_ok (k := k) ht
  constructor
  · intro e
    rw [e] at a2
    exact a2.trans b2.symm
  · intro l
    rcases Nat.lt_trichotomy (repK c k s) (repK c k t) with q | q | q
    · exact absurd (l.symm.trans a2) (b3 _ q)
    · exact q
    · exact absurd (l.trans b2) (a3 _ q)
theorem repK_zero {c : Ch} {s : Nat} (h : s < c.length) : repK c 0 s = 0 := by
  obtain ⟨_, _, a3⟩ := repK_ok (c := c) (k := 0) h
  by_cases q : repK c 0 s = 0
  · exact q
  · exact absurd True.intro (a3 0 (by omega))
theorem repK_rep {c : Ch} {k s : Nat} (h : s < c.length) (d : ∀ t, t < c.length → Lk c k s t → Lw c s t) : repK c k s = rep c s := by
  obtain ⟨a1, a2, a3⟩ := repK_ok (c := c) (k := k) h
  obtain ⟨b1, b2, b3⟩ := rep_ok h
  rcases Nat.lt_trichotomy (repK c k s) (rep c s) with q | q | q
  · exact absurd (d _ a1 a2) (b3 _ q)
  · exact q
  · exact absurd (b2 k) (a3 _ q)
noncomputable def marksL (c : Ch) (k : Nat) : List Nat := (List.range c.length).map (repK c k)
noncomputable def repsL (c : Ch) : List Nat := (List.range c.length).map (rep c)
noncomputable def keyR (c : Ch) (k s : Nat) : List (Str × Nat) := (rowC c s).map fun e => (e.1, repK c k e.2)
theorem marksL_len (c : Ch) (k : Nat) : (marksL c k).length = c.length := by unfold marksL; rw [List.length_map, List.length_range]
theorem marksL_at {c : Ch} {k s : Nat} (h : s < c.length) : (marksL c k)[s]? = some (repK c k s) := by unfold marksL; rw [List.getElem?_map, List.getElem?_range h]; rfl
theorem keyR_eq {c : Ch} {w k s t : Nat} (wf : WfC c) (ok : okT w c) (hs : s < c.length) (ht : t < c.length) : keyR c k s = keyR c k t ↔ Lk c (k + 1) s t := by
  have ek : ∀ s, keysR (keyR c k s) = keysR (rowC c s) := fun s => by unfold keyR keysR; rw [List.map_map]; rfl
  have el : ∀ s z, lkp (keyR c k s) z = (lkp (rowC c s) z).map (repK c k) := fun s z => by
    unfold keyR
    exact lkp_map z (repK c k) (rowC c s)
  have nd := okR_nd (rowOk ok hs).1
  constructor
  · intro e
    refine ⟨by rw [← ek s, e, ek t], fun z a b ha hb => ?_⟩
    have h1 := el s z
    rw [e, el t z, ha, hb] at h1
    exact (repK_eq (lkp_lt wf ha) (lkp_lt wf hb)).mp (Option.some.inj h1).symm
  · rintro ⟨h1, h2⟩
    refine row_ext (by rw [ek]; exact nd) (by rw [ek, ek, h1]) fun z hz => ?_
    rw [ek] at hz
    have hz' := hz
    rw [h1] at hz'
    obtain ⟨e, he, rfl⟩ := List.mem_map.mp hz
    obtain ⟨e', he', q⟩ := List.mem_map.mp hz'
    have q : e'.1 = e.1 := q
    have la := lkp_at nd he
    have lb := lkp_at (okR_nd (rowOk ok ht).1) he'
    rw [q] at lb
    rw [el, el, la, lb]
    exact congrArg some ((repK_eq (rowC_lt wf he) (rowC_lt wf he')).mpr (h2 e.1 _ _ la lb))
theorem marks_still {c : Ch} {k : Nat} (wf : WfC c) (h : marksL c (k + 1) = marksL c k) : marksL c k = repsL c := by
  unfold marksL repsL
  refine List.map_congr_left fun s hs => ?_
  have hs := List.mem_range.mp hs
  have same : ∀ s, s < c.length → repK c (k + 1) s = repK c k s := fun s hs => by
    have := congrArg (fun l => l[s]?) h
    simp only [marksL_at hs] at this
    exact Option.some.inj this
  refine repK_rep hs fun t ht l => stable wf (r := k) (fun s t hs ht l => ?_) hs ht l
  have := (repK_eq hs ht).mpr l
  rw [← same s hs, ← same t ht] at this
  exact (repK_eq hs ht).mp this
theorem marks_last {c : Ch} {w : Nat} (wf : WfC c) (ok : okT w c) : marksL c c.length = repsL c := by
  unfold marksL repsL
  refine List.map_congr_left fun s hs => ?_
  have hs := List.mem_range.mp hs
  exact repK_rep hs fun t ht l => deep wf ok hs ht l
theorem keyR_dig {c : Ch} {w k s : Nat} (wf : WfC c) (ok : okT w c) (hs : s < c.length) (c10 : c.length ≤ 10) : DigR (keyR c k s) := by
  have okr := (rowOk ok hs).1
  refine ⟨by unfold keyR; rw [List.length_map]; exact okR_len okr, fun p hp => ?_⟩
  obtain ⟨e, he, rfl⟩ := List.mem_map.mp hp
  refine ⟨List.mem_of_mem_take (okR_in okr (show e.1 ∈ keysR (rowC c s) from List.mem_map_of_mem (f := fun e : Str × Nat => e.1) he)), ?_⟩
  have := (repK_ok (k := k) (rowC_lt wf he)).1
  show repK c k e.2 < 10
  omega
def WxAt (H : Hp) (D : Addr) (ps : List (Str × Nat)) : Prop := ∃ ts : List Addr, H D = some (.lst (ts.map V.ref)) ∧ ts.length = ps.length ∧ ∀ (j : Nat) (t : Addr), ts[j]? = some t → ∃ p, ps[j]? = some p ∧ H t = some (.tup [.str p.1, .int ((p.2 : Nat) : Int)])
theorem WxAt.dx {H : Hp} {D : Addr} {ps : List (Str × Nat)} (h : WxAt H D ps) : Dx H (.ref D) (wkD ps) := by
  obtain ⟨ts, e, l, k⟩ := h
  refine .lst e (dxAll_of (by rw [List.length_map, List.length_map, l]) fun j v hv => ?_)
  rw [List.getElem?_map] at hv
  cases el : ts[j]? with
  | none => rw [el] at hv; cases hv
  | some t =>
    rw [el] at hv
    cases hv
    obtain ⟨p, hp, et⟩ := k j t el
    exact ⟨.tuple [.str p.1, .int (p.2 : Int)], by rw [List.getElem?_map, hp]; rfl, .tup et (.cons (.str _) (.cons (.int _) .nil))⟩
theorem pe_index {X : Cx} {K : PySem.W.Frag} {o e : Expr} {to te : TE} {apos cpos : Pos} (hK : X.K = K) (ho : PE X o to) (ha : PE X e te)
    (hbase : attributeBase o "index" X.env (eval o X.env) = eval o X.env := by rfl)
    (hfew : ((backTo cpos (starEach [e] X.env)).all (fun x => !x.1) && (backToKw cpos (keywordEach [] X.env)).all (fun x => x.1.isSome) && decide ([e].length + ([] : List Keyword).length + (if ([] : List Keyword).isEmpty then 0 else 1) < 30)) = true := by rfl)
    (hline : (apos.endLine == cpos.line) = true := by rfl) (hs : starEach [e] X.env = (false, eval e X.env) :: starEach [] X.env := by rfl) (hplain : (backTo cpos (starEach [] X.env)).any (·.1) = false := by rfl) :
    PE X (.Call (.Attribute o "index" apos) [e] [] cpos) (tBM K "list" (rIndex K) to (tCons te tNil)) := by
  subst hK
  exact pe_bm PySem.F.plainAttrs_list PySem.F.slot_list_index PySem.F.type_list_index mt_index ho (pa_cons ha pa_nil hs) hbase hfew hline hs hplain
def spMarks : Sp := fun vs H Q _ => ∃ (F : Addr) (ls : List Addr) (c : Ch) (w : Nat), vs = [.ref F] ∧ TbR H F ls c ∧ WfC c ∧ okT w c ∧ c.length ≤ 10 ∧ ∀ (D : Addr) (H' : Hp), Same H H' → H D = none → H' D = some (.lst (intsV (repsL c))) → Q (.ref D) H'
section
variable {P : Program} {w : World} {K : PySem.W.Frag} {mg : Str → Option Value} {base : Heap} {ad : Str → Addr} {fd : Str → FuncData}
theorem scMarks : FnScope ["_law_lines_here", "_law_marks_here", "_law_turn", "_law_keys", "_law_later", "_law_here", "_law_letter", "_law_key"] ["_law_lines_here"] (defScope sMarks) := ⟨rfl, rfl, rfl, by decide +kernel, rfl, by decide +kernel, by decide +kernel⟩
theorem ok_marks (X : Tx K mg ad fd) : FnG P w K mg base 1 (ad "_law_marks") (fd "_law_marks") ["_law_lines_here"] spMarks := by
  refine fnG_body X.F__law_marks scMarks (fun vs H Q E h => ?_) (fun cdv A outer s H vs Q E hr h => ?_)
  · obtain ⟨F, ls, c, w, rfl, tb, wf, ok, c10, k⟩ := h
    rfl
  · obtain ⟨F, ls, c, w, rfl, tb, wf, ok, c10, k⟩ := h
    have hg := hr.gd
    have hs := X.sys
    have hu64 : (A.deeper (envOfC "_law_marks" (defScope sMarks) s.heap.objs.size (ad "_law_marks") cdv)).units + 64 < cLine := by have := hr.rm.un; omega
    have HU : (A.deeper (envOfC "_law_marks" (defScope sMarks) s.heap.objs.size (ad "_law_marks") cdv)).units + 1 < cLine := by have := hr.rm.un; omega
    refine ⟨_, (pss_cons (ps_set (i := 1) scMarks.nd rfl (.inr rfl) (by exact (pe_lc (own := [("_law_here", 5)]) (g := gName 5) rfl scMarks.nd (pi_listK (K := K) rfl (pv 0)) (blkOk_by (own := [("_law_here", 5)]) (N := ["_law_lines_here", "_law_marks_here", "_law_turn", "_law_keys", "_law_later", "_law_here", "_law_letter", "_law_key"]) (sc := defScope sMarks) (by decide +kernel)) (fun _ _ _ _ _ => pg_name (i := 5) scMarks.nd rfl (Or.inl rfl)) (fun _ _ _ _ _ => pts_nil) (fun _ _ _ _ _ => pe_int))))
  (pss_cons (ps_for PassesOwn.never rfl (pi_range1 (by rfl) X.m_range (pa_cons (pe_callB (call_lenK (K := K) rfl) (by rfl) X.m_len (by decide +kernel) (pa_cons (pv 0) pa_nil)) pa_nil)) (pg_name (i := 2) scMarks.nd rfl (.inl rfl))
  (pss_cons (ps_set (i := 3) scMarks.nd rfl (.inr rfl) (by exact (pe_lc (own := [("_law_here", 5)]) (g := gName 5) rfl scMarks.nd (pi_listK (K := K) rfl (pv 0)) (blkOk_by (own := [("_law_here", 5)]) (N := ["_law_lines_here", "_law_marks_here", "_law_turn", "_law_keys", "_law_later", "_law_here", "_law_letter", "_law_key"]) (sc := defScope sMarks) (by decide +kernel)) (fun _ _ _ _ _ => pg_name (i := 5) scMarks.nd rfl (Or.inr rfl)) (fun _ _ _ _ _ => pts_nil) (fun _ _ _ _ _ => (pe_callB (call_repr hg hu64 hs) (by rfl) X.m_repr (by decide +kernel) (pa_cons (pe_lc (own := [("_law_letter", 6)]) (g := gName 6) rfl scMarks.nd (pi_listK (K := K) rfl (pe_callB (call_sortedD rfl) (by rfl) X.m_sorted (by decide +kernel) (pa_cons (pv 5) pa_nil))) (blkOk_by (own := [("_law_letter", 6)]) (N := ["_law_lines_here", "_law_marks_here", "_law_turn", "_law_keys", "_law_later", "_law_here", "_law_letter", "_law_key"]) (by kernel_rfl)) (fun _ _ _ _ _ => pg_name (i := 6) scMarks.nd rfl (Or.inl rfl)) (fun _ _ _ _ _ => pts_nil) (fun _ _ _ _ _ => (pe_tup (pa_cons (pv 6) (pa_cons (pe_ix (ix_listK (K := K) rfl) (pv 1) (pe_dget HU (pv 5) (pv 6) (fun _ _ => rfl)) (fun _ _ => rfl)) pa_nil))))) pa_nil))))))
  (pss_cons (ps_setLc (i := 4) (own := [("_law_key", 7)]) (g := gName 7) rfl scMarks.nd rfl rfl (by rfl) (pi_listK (K := K) rfl (pv 3)) (blkOk_by (own := [("_law_key", 7)]) (N := ["_law_lines_here", "_law_marks_here", "_law_turn", "_law_keys", "_law_later", "_law_here", "_law_letter", "_law_key"]) (sc := defScope sMarks) (by decide +kernel)) (fun _ _ _ _ _ => pg_name (i := 7) scMarks.nd rfl (Or.inl rfl)) (fun _ _ _ _ _ => pts_nil) (fun _ _ _ _ _ => (pe_index (K := K) rfl (pv 3) (pv 7))))
  (pss_cons (ps_if (pt_cmpR (op_eqD hu64) (pv 4) (pv 1) (nomark _))
  (pss_one (ps_ret (by exact (pv 1))))
  pss_nil)
  (pss_one (ps_set (i := 1) scMarks.nd rfl (.inr rfl) (by exact (pv 4))))))))
  (pss_one (ps_ret (by exact (pv 1)))))), ?_⟩
    have hl : (ls.map V.ref).length = c.length := by rw [List.length_map, tb.l]
    refine ⟨.ref F, rfl, F, rfl, ⟨_, SqL.of tb.e⟩, fun M0 nM0 => ?_⟩
    refine lc_map (w := walk_list (K := K) (a := F) (xs := ls.map V.ref)) (fun _ => V.int ((0 : Nat) : Int)) nM0 (by rw [hl]; omega) (fun i H' _ s => SqL.of (s _ _ tb.e)) (fun _ => rfl) (fun i x H2 H3 hi s y => ?_) (fun H1 s1 eM => ?_)
    · obtain ⟨rfl, _⟩ := y
      exact ⟨Same.refl, fun Q' hQ => hQ _ Same.refl⟩
    have e0 : (List.range (ls.map V.ref).length).map (fun _ => V.int ((0 : Nat) : Int)) = intsV (marksL c 0) := by
      rw [hl]
      unfold intsV marksL
      rw [List.map_map]
      exact List.map_congr_left fun s hs => by
        show V.int ((0 : Nat) : Int) = V.int ((repK c 0 s : Nat) : Int)
        rw [repK_zero (List.mem_range.mp hs)]
    rw [e0] at eM
    refine gN ?_
    refine ⟨.ref F, rfl, .ref F, _, rfl, .inl ⟨_, SqL.of (s1 _ _ tb.e), rfl⟩, _, rfl, by omega, by omega, ?_⟩
    rw [hl]
    refine for_range (lo := 0) (n := ((c.length : Int)).toNat) (fun i σ H' => ∃ (M1 : Addr) (r2 r3 r4 r5 r6 r7 : Option V), σ = [some (.ref F), some (.ref M1), r2, r3, r4, r5, r6, r7] ∧ Same H H' ∧ H M1 = none ∧ H' M1 = some (.lst (intsV (marksL c i)))) ⟨M0, _, _, _, _, _, _, rfl, s1, nM0, eM⟩ ?_ ?_
    · rintro i σ H2 hi ⟨M1, r2, r3, r4, r5, r6, r7, rfl, s2, nM1, eM1⟩
      refine gN ?_
      have mat : ∀ {g : Nat}, g < c.length → atI (intsV (marksL c i)) (g : Int) = some (.int ((repK c i g : Nat) : Int)) := fun {g} hg => atI_nat (by unfold intsV; rw [List.getElem?_map, marksL_at hg]; rfl)
      refine ⟨.ref F, rfl, F, rfl, ⟨_, SqL.of (s2 _ _ tb.e)⟩, fun D nD => ?_⟩
      refine lc_map (w := walk_list (K := K) (a := F) (xs := ls.map V.ref)) (fun s => V.str (wkD (keyR c i s)).shown) nD (by rw [hl]; omega) (fun s H' _ sm => SqL.of (sm _ _ (s2 _ _ tb.e))) (fun _ => rfl) (fun s x H3 H4 hs s3 y => ?_) (fun H3 s3 eD => ?_)
      · obtain ⟨rfl, hx⟩ := y
        rw [hl] at hs
        obtain ⟨a, r, pm, h1, _, h3⟩ := tb.row hs
        rw [List.getElem?_map, h1] at hx
        cases hx
        refine ⟨Same.refl, fun Q' hQ => ?_⟩
        have s23 := Same.trans s2 s3
        have okr := (rowOk ok hs).1
        have nd := okR_nd okr
        have rd := Rd.same s23 h3
        refine ⟨.ref a, rfl, a, rowK r, keysR r, rfl, rd, rowK_keys _, by unfold keysR; rw [List.length_map, pm.length_eq]; exact Nat.lt_of_le_of_lt (okR_len okr) (by decide), fun ys S pm2 st nS => ?_⟩
        obtain rfl := sorted_keys okr (pm2.trans (pm.map fun e : Str × Nat => e.1)) st
        have sS : Same H4 (upd H4 S (.lst ((keysR (rowC c s)).map V.str))) := Same.new nS
        have eS : (upd H4 S (.lst ((keysR (rowC c s)).map V.str))) S = some (.lst ((keysR (rowC c s)).map V.str)) := upd_same
        generalize (upd H4 S (.lst ((keysR (rowC c s)).map V.str))) = H5 at sS eS ⊢
        have lxs : ((keysR (rowC c s)).map V.str).length = (rowC c s).length := by unfold keysR; rw [List.length_map, List.length_map]
        refine ⟨S, rfl, ⟨_, SqL.of eS⟩, fun T nT => ?_⟩
        refine lc_rel (w := walk_list (K := K) (a := S) (xs := (keysR (rowC c s)).map V.str)) (fun j v H' => ∃ t, v = .ref t ∧ t ≠ T ∧ ∃ p, (keyR c i s)[j]? = some p ∧ H' t = some (.tup [.str p.1, .int ((p.2 : Nat) : Int)])) nT (by rw [lxs]; have := okR_len okr; omega) (fun j H' _ sm => SqL.of (sm _ _ eS)) (fun j v H' H6 up ⟨t, e1, e2, p, e3, e4⟩ => ⟨t, e1, e2, p, e3, up _ _ e2 e4⟩) (fun j x H6 H7 hj s6 ⟨acc, eT⟩ y Nx hN => ?_) (mn_name _) (fun H6 zs s6 eT lz R => ?_)
        · obtain ⟨rfl, hx⟩ := y
          rw [lxs] at hj
          have he : (rowC c s)[j]? = some (rowC c s)[j] := List.getElem?_eq_getElem hj
          generalize (rowC c s)[j] = e at he
          have ex : x = V.str e.1 := by
            unfold keysR at hx
            rw [List.getElem?_map, List.getElem?_map, he] at hx
            exact (Option.some.inj hx).symm
          subst ex
          have me := List.mem_of_getElem? he
          have le := rowC_lt wf me
          have s56 := Same.trans sS s6
          have dg : DGet H7 a (.str e.1) (some (.int (e.2 : Int))) := .inl ⟨rowK r, .inr e.1, Rd.same s56 rd, rfl, by rw [rowK_val, lkp_perm nd pm, lkp_at nd me]; rfl⟩
          refine gN ⟨rfl, ?_⟩
          refine ⟨.str e.1, rfl, .ref M1, rfl, .ref a, rfl, .str e.1, rfl, a, .int (e.2 : Int), rfl, dg, M1, _, (e.2 : Int), _, rfl, rfl, SqL.of (s56 _ _ (s3 _ _ eM1)), mat le, sz2, fun t nt => ?_⟩
          refine hN _ _ (Same.new nt) ⟨t, rfl, (fun z : t = T => by rw [z, eT] at nt; cases nt), (e.1, repK c i e.2), by unfold keyR; rw [List.getElem?_map, he]; rfl, upd_same⟩
        · obtain ⟨ts, rfl, hts⟩ := refs_of (R := fun j t => ∃ p, (keyR c i s)[j]? = some p ∧ H6 t = some (.tup [.str p.1, .int ((p.2 : Nat) : Int)])) fun j z hz => let ⟨t, e1, _, p, e3, e4⟩ := R j z hz; ⟨t, e1, p, e3, e4⟩
          have wx : WxAt H6 T (keyR c i s) := ⟨ts, eT, by unfold keyR; rw [List.length_map, ← List.length_map (f := V.ref) (as := ts), lz, lxs], hts⟩
          have r3 := wk_r3 (keyR_dig (k := i) wf ok hs c10)
          exact ⟨T, _, rfl, wx.dx, r3.1, r3.2.1, r3.2.2, hQ _ (Same.trans sS s6)⟩
      · rw [hl] at eD
        refine gN ?_
        have s23 := Same.trans s2 s3
        have eM3 := s3 _ _ eM1
        have lk : ((List.range c.length).map fun s => V.str (wkD (keyR c i s)).shown).length = c.length := by rw [List.length_map, List.length_range]
        have kat : ∀ {s : Nat}, s < c.length → ((List.range c.length).map fun s => V.str (wkD (keyR c i s)).shown)[s]? = some (V.str (wkD (keyR c i s)).shown) := fun {s} hs => by rw [List.getElem?_map, List.getElem?_range hs]; rfl
        refine ⟨.ref D, rfl, D, rfl, ⟨_, SqL.of eD⟩, fun L nL => ?_⟩
        refine lc_map (w := walk_list (K := K) (a := D) (xs := (List.range c.length).map fun s => V.str (wkD (keyR c i s)).shown)) (fun s => V.int ((repK c (i + 1) s : Nat) : Int)) nL (by rw [lk]; omega) (fun s H' _ sm => SqL.of (sm _ _ eD)) (fun _ => rfl) (fun s x H4 H5 hs s4 y => ?_) (fun H4 s4 eL => ?_)
        · obtain ⟨rfl, hx⟩ := y
          rw [lk] at hs
          rw [kat hs] at hx
          cases hx
          refine ⟨Same.refl, fun Q' hQ => ?_⟩
          obtain ⟨a1, a2, a3⟩ := repK_ok (k := i + 1) hs
          have eqk : ∀ {t : Nat}, t < c.length → ((wkD (keyR c i t)).shown = (wkD (keyR c i s)).shown ↔ Lk c (i + 1) s t) := fun {t} ht => by
            constructor
            · intro h
              exact ((keyR_eq wf ok hs ht).mp (wk_inj (keyR_dig wf ok ht c10) (keyR_dig wf ok hs c10) h).symm)
            · intro l
              rw [(keyR_eq wf ok hs ht).mpr l]
          refine ⟨.ref D, rfl, .inl ⟨rfl, _, SqL.of (s4 _ _ eD)⟩, _, rfl, D, _, _, repK c (i + 1) s, _, rfl, rfl, SqL.of (s4 _ _ eD), rfl, ?_, kat a1, ?_, fun m z' hm hz => ?_, hQ _ Same.refl⟩
          · rw [List.all_eq_true]
            intro x hx
            obtain ⟨n, _, rfl⟩ := List.mem_map.mp hx
            rfl
          · show ((wkD (keyR c i (repK c (i + 1) s))).shown == (wkD (keyR c i s)).shown) = true
            exact beq_iff_eq.mpr ((eqk a1).mpr a2)
          · have hm' : m < c.length := by omega
            rw [kat hm'] at hz
            cases hz
            show ((wkD (keyR c i m)).shown == (wkD (keyR c i s)).shown) = false
            exact beq_eq_false_iff_ne.mpr fun e => a3 m hm ((eqk hm').mp e)
        · rw [lk] at eL
          have el : (List.range c.length).map (fun s => V.int ((repK c (i + 1) s : Nat) : Int)) = intsV (marksL c (i + 1)) := by
            unfold intsV marksL
            rw [List.map_map]; rfl
          rw [el] at eL
          refine gN ?_
          have s24 := Same.trans s23 s4
          have eM4 := s4 _ _ eM3
          have nLH := none_back s23 nL
          refine ⟨.ref L, rfl, .ref M1, rfl, _, _, Dx.dp (dx_numsD eL) (nums_plain _), Dx.dp (dx_numsD eM4) (nums_plain _), nums_shaped _, nums_shaped _, ?_⟩
          rw [nums_eqv]
          by_cases st : marksL c (i + 1) = marksL c i
          · rw [decide_eq_true st]
            refine ⟨_, rfl, iteT ?_⟩
            rw [marks_still wf st] at eM4
            exact ⟨.ref M1, rfl, k M1 H4 s24 nM1 eM4⟩
          · rw [decide_eq_false st]
            refine ⟨_, rfl, iteF ?_⟩
            refine ⟨.ref L, rfl, ?_⟩
            refine gN ?_
            exact ⟨L, _, _, _, _, _, _, rfl, s24, nLH, eL⟩
    · rintro σ H2 ⟨M1, r2, r3, r4, r5, r6, r7, rfl, s2, nM1, eM1⟩
      rw [show ((c.length : Int)).toNat = c.length by omega, marks_last wf ok] at eM1
      exact ⟨.ref M1, rfl, k M1 H2 s2 nM1 eM1⟩
end
end K88
end

section
set_option maxHeartbeats 4000000
/-! the least table, by the law -/
namespace K88
open PySem PySem.Spec PyProof.Rows L2
theorem call_dictPK {X : Cx} {K : PySem.W.Frag} (e : X.K = K) (hc : X.calm = true) : CallR X (.type "dict") (fun xs H Q => ∃ (a : Addr) (ps : List Addr) (kvs : List (Key × V)), xs = [.ref a] ∧ SqL K H a (ps.map V.ref) ∧ Paired (fun p kv => SqT K H p [kV kv.1, kv.2]) ps kvs ∧ ∀ p, H p = none → Q (.ref p) (upd H p (.dK (mergeK [] kvs)))) := by
  subst e
  exact call_dictP hc
theorem rowK_merge : ∀ (r acc : List (Str × Nat)), (keysR (acc ++ r)).Nodup → mergeK (rowK acc) (rowK r) = rowK (acc ++ r)
  | [], acc, _ => by rw [List.append_nil]; rfl
  | e :: r, acc, nd => by
    have nd' : (keysR ((acc ++ [e]) ++ r)).Nodup := by rw [List.append_assoc]; exact nd
    have no : lkp acc e.1 = none := lkp_none fun q => by
      have h : keysR (acc ++ e :: r) = keysR acc ++ e.1 :: keysR r := by unfold keysR; rw [List.map_append]; rfl
      rw [h] at nd
      have := (List.nodup_append.mp nd).2.2 e.1 q e.1 List.mem_cons_self
      exact this rfl
    have ih := rowK_merge r (acc ++ [e]) nd'
    rw [List.append_assoc] at ih
    show mergeK (putK (rowK acc) (.inr e.1) (.int (e.2 : Int))) (rowK r) = _
    rw [show putK (rowK acc) (.inr e.1) (.int (e.2 : Int)) = rowK (acc ++ [(e.1, e.2)]) from rowK_put no e.2]
    exact ih
/-- small tuples at ts, one for each of r -/
theorem row_paired {K : PySem.W.Frag} {H : Hp} : ∀ {ts : List Addr} {r : List (Str × Nat)}, ts.length = r.length → (∀ (j : Nat) (t : Addr), ts[j]? = some t → ∃ p, r[j]? = some p ∧ H t = some (.tup [.str p.1, .int ((p.2 : Nat) : Int)])) → Paired (fun p kv => SqT K H p [kV kv.1, kv.2]) ts (rowK r)
  | [], [], _, _ => .nil
  | [], _ :: _, h, _ => by cases h
  | _ :: _, [], h, _ => by cases h
  | t :: ts, e :: r, hl, h => by
    obtain ⟨p, hp, et⟩ := h 0 t rfl
    cases hp
    exact .cons (SqT.of et) (row_paired (by simpa using hl) fun j t q => h (j + 1) t q)
theorem mem_liveX {c : Ch} {s : Nat} (h : s < c.length) : decide (s ∈ liveX c) = liveB c s := by
  unfold liveX
  rw [Bool.eq_iff_iff, decide_eq_true_iff, List.mem_filter, List.mem_range]
  exact ⟨fun q => q.2, fun q => ⟨h, q⟩⟩
theorem WxAt.same {H H' : Hp} {D : Addr} {ps : List (Str × Nat)} (h : WxAt H D ps) (s : Same H H') : WxAt H' D ps := by
  obtain ⟨ts, e, l, k⟩ := h
  exact ⟨ts, s _ _ e, l, fun j t q => let ⟨p, a, b⟩ := k j t q; ⟨p, a, s _ _ b⟩⟩
theorem WxAt.add {H H' : Hp} {D T : Addr} {l : List (Str × Nat)} {e : Str × Nat} (h : WxAt H D l) (s : ∀ b o, b ≠ D → H b = some o → H' b = some o) (eT : H' T = some (.tup [.str e.1, .int ((e.2 : Nat) : Int)])) {xs : List V} (eD : H D = some (.lst xs)) (eD' : H' D = some (.lst (xs ++ [.ref T]))) : WxAt H' D (l ++ [e]) := by
  obtain ⟨ps, q, ln, k⟩ := h
  rw [q] at eD
  obtain rfl := HO.lst.inj (Option.some.inj eD)
  refine ⟨ps ++ [T], by rw [eD', List.map_append]; rfl, by rw [List.length_append, List.length_append, ln]; rfl, fun i p hp => ?_⟩
  by_cases hi : i < ps.length
  · rw [List.getElem?_append_left hi] at hp
    obtain ⟨x, a, b⟩ := k i p hp
    exact ⟨x, by rw [List.getElem?_append_left (by omega)]; exact a, s _ _ (fun z => by rw [z, q] at b; cases b) b⟩
  · rw [List.getElem?_append_right (by omega)] at hp
    have z : i - ps.length = 0 := by
      by_cases z : i - ps.length = 0
      · exact z
      · rw [List.getElem?_eq_none (by simp; omega)] at hp; cases hp
    rw [z] at hp
    cases hp
    exact ⟨e, by rw [List.getElem?_append_right (by omega), show i - l.length = 0 by omega]; rfl, eT⟩
def spLeastL : Sp := fun vs H Q _ => ∃ (F : Addr) (ls : List Addr) (c : Ch) (w : Nat), vs = [.ref F] ∧ TbR H F ls c ∧ WfC c ∧ okT w c ∧ c.length ≤ 10 ∧
  (liveB c 0 = false → ∀ H', Same H H' → Q .non H') ∧ (liveB c 0 = true → ∀ (D : Addr) (H' : Hp), Same H H' → H D = none → NewT H H' D (leastC c) → Q (.ref D) H')
section
variable {P : Program} {w : World} {K : PySem.W.Frag} {mg : Str → Option Value} {base : Heap} {ad : Str → Addr} {fd : Str → FuncData}
theorem scLeast : FnScope ["_law_lines_here", "_law_alive_here", "_law_kept", "_law_marks_here", "_law_order", "_law_at", "_law_goal", "_law_found", "_law_spot", "_law_here", "_law_letter"] ["_law_lines_here"] (defScope sLeast) := ⟨rfl, rfl, rfl, by decide +kernel, rfl, by decide +kernel, by decide +kernel⟩
theorem ok_lawleast (X : Tx K mg ad fd) : FnG P w K mg base 2 (ad "_law_least") (fd "_law_least") ["_law_lines_here"] spLeastL := by
  have G__law_alive := ok_alive (P := P) (w := w) (base := base) X
  have G__law_marks := ok_marks (P := P) (w := w) (base := base) X
  refine fnG_body X.F__law_least scLeast (fun vs H Q E h => ?_) (fun cdv A outer s H vs Q E hr h => ?_)
  · obtain ⟨F, ls, c, w, rfl, tb, wf, ok, c10, k0, k1⟩ := h
    rfl
  · obtain ⟨F, ls, c, w, rfl, tb, wf, ok, c10, k0, k1⟩ := h
    have hg := hr.gd
    have hs := X.sys
    have hu64 : (A.deeper (envOfC "_law_least" (defScope sLeast) s.heap.objs.size (ad "_law_least") cdv)).units + 64 < cLine := by have := hr.rm.un; omega
    have HU : (A.deeper (envOfC "_law_least" (defScope sLeast) s.heap.objs.size (ad "_law_least") cdv)).units + 1 < cLine := by have := hr.rm.un; omega
    have HR__law_alive : Room 1 _ := hr.rm.mono (by decide)
    have HG__law_marks : RoomG 1 _ := hr
    refine ⟨_, (pss_cons (ps_set (i := 1) scLeast.nd rfl (.inr rfl) (by exact (pe_call G__law_alive HR__law_alive (by rfl) X.g__law_alive X.F__law_alive.kp X.b__law_alive .nil pass0 (pa_cons (pv 0) pa_nil))))
  (pss_cons (ps_if (pt_cmpR op_notIn_seq pe_int (pv 1) rfl)
  (pss_one (ps_ret (by exact pe_non)))
  pss_nil)
  (pss_cons (ps_setLc (i := 2) (own := [("_law_here", 9)]) (g := gName 9) rfl scLeast.nd rfl rfl (by rfl) (pi_listK (K := K) rfl (pv 0)) (blkOk_by (own := [("_law_here", 9)]) (N := ["_law_lines_here", "_law_alive_here", "_law_kept", "_law_marks_here", "_law_order", "_law_at", "_law_goal", "_law_found", "_law_spot", "_law_here", "_law_letter"]) (sc := defScope sLeast) (by decide +kernel)) (fun _ _ _ _ _ => pg_name (i := 9) scLeast.nd rfl (Or.inr rfl)) (fun _ _ _ _ _ => pts_nil) (fun _ _ _ _ _ => (pe_callTy (call_dictPK (K := K) rfl rfl) (by rfl) X.m_dict (by decide +kernel) (pa_cons (pe_lc (own := [("_law_letter", 10)]) (g := gName 10) rfl scLeast.nd (pi_listK (K := K) rfl (pe_callB (call_sortedD rfl) (by rfl) X.m_sorted (by decide +kernel) (pa_cons (pv 9) pa_nil))) (blkOk_by (own := [("_law_letter", 10)]) (N := ["_law_lines_here", "_law_alive_here", "_law_kept", "_law_marks_here", "_law_order", "_law_at", "_law_goal", "_law_found", "_law_spot", "_law_here", "_law_letter"]) (by kernel_rfl)) (fun _ _ _ _ _ => pg_name (i := 10) scLeast.nd rfl (Or.inl rfl)) (fun _ _ _ _ _ => pts_one (pt_cmpR (op_inK (K := K) rfl) (pe_dget HU (pv 9) (pv 10) (fun _ _ => rfl)) (pv 1) rfl)) (fun _ _ _ _ _ => (pe_tup (pa_cons (pv 10) (pa_cons (pe_dget HU (pv 9) (pv 10) (fun _ _ => rfl)) pa_nil))))) pa_nil))))
  (pss_cons (ps_set (i := 3) scLeast.nd rfl (.inr rfl) (by exact (pe_callG (E := E0) G__law_marks HG__law_marks (by rfl) X.g__law_marks X.F__law_marks.kp X.b__law_marks (pa_cons (pe_lock (pv 2)) pa_nil))))
  (pss_cons (ps_asg (by exact (pe_tup (pa_cons (pe_lst (pa_cons (pe_ix (ix_listK (K := K) rfl) (pv 3) pe_int (fun _ _ => rfl)) pa_nil)) (pa_cons pe_int pa_nil)))) (pg_tup rfl (pgs_cons (pg_name (i := 4) scLeast.nd rfl (.inr rfl)) (pgs_cons (pg_name (i := 5) scLeast.nd rfl (.inl rfl)) pgs_nil))))
  (pss_cons (ps_while PassesOwn.never (pt_cmpR op_lt (pv 5) (pe_callB (call_lenK (K := K) rfl) (by rfl) X.m_len (by decide +kernel) (pa_cons (pv 4) pa_nil)) (nomark _))
  (pss_cons (ps_for PassesOwn.never rfl (pi_list (pe_listVals rfl (pe_ix (ix_listK (K := K) rfl) (pv 2) (pe_ix (ix_listK (K := K) rfl) (pv 4) (pv 5) (fun _ _ => rfl)) (fun _ _ => rfl)) (by rfl) X.m_list (by decide +kernel))) (pg_name (i := 6) scLeast.nd rfl (.inl rfl))
  (pss_one (ps_if (pt_cmpR op_notIn_seq (pe_ix (ix_listK (K := K) rfl) (pv 3) (pv 6) (fun _ _ => rfl)) (pv 4) rfl)
  (pss_one (ps_expr (by exact (pe_bm PySem.F.plainAttrs_list PySem.F.slot_list_append PySem.F.type_list_append mt_append (pv 4) (pa_cons (pe_ix (ix_listK (K := K) rfl) (pv 3) (pv 6) (fun _ _ => rfl)) pa_nil)))))
  pss_nil)))
  (pss_one (ps_set (i := 5) scLeast.nd rfl (.inl rfl) (by exact (pe_op op_add (pv 5) pe_int))))))
  (pss_cons (ps_set (i := 7) scLeast.nd rfl (.inl rfl) (by exact (pe_lst pa_nil)))
  (pss_cons (ps_for PassesOwn.never rfl (pi_list (pv 4)) (pg_name (i := 8) scLeast.nd rfl (.inl rfl))
  (pss_cons (ps_set (i := 9) scLeast.nd rfl (.inr rfl) (by exact (pe_ix (ix_listK (K := K) rfl) (pv 2) (pv 8) (fun _ _ => rfl))))
  (pss_one (ps_expr (by exact (pe_bm PySem.F.plainAttrs_list PySem.F.slot_list_append PySem.F.type_list_append mt_append (pv 7) (pa_cons (pe_callTy (call_dictPK (K := K) rfl rfl) (by rfl) X.m_dict (by decide +kernel) (pa_cons (pe_lc (own := [("_law_letter", 10)]) (g := gName 10) rfl scLeast.nd (pi_keys (pv 9)) (blkOk_by (own := [("_law_letter", 10)]) (N := ["_law_lines_here", "_law_alive_here", "_law_kept", "_law_marks_here", "_law_order", "_law_at", "_law_goal", "_law_found", "_law_spot", "_law_here", "_law_letter"]) (sc := defScope sLeast) (by decide +kernel)) (fun _ _ _ _ _ => pg_name (i := 10) scLeast.nd rfl (Or.inl rfl)) (fun _ _ _ _ _ => pts_nil) (fun _ _ _ _ _ => (pe_tup (pa_cons (pv 10) (pa_cons (pe_index (K := K) rfl (pv 4) (pe_ix (ix_listK (K := K) rfl) (pv 3) (pe_dget HU (pv 9) (pv 10) (fun _ _ => rfl)) (fun _ _ => rfl))) pa_nil))))) pa_nil)) pa_nil)))))))
  (pss_one (ps_ret (by exact (pv 7)))))))))))), ?_⟩
    have sm := smT_of wf ok (by omega)
    refine ⟨.ref F, rfl, F, ls, c, rfl, tb, wf, sm, fun A0 H1 s1 nA eA => ?_⟩
    refine gN ?_
    have ev : (if true = true then !inV (V.int 0) (intsV (liveX c)) else inV (V.int 0) (intsV (liveX c))) = !liveB c 0 := by
      rw [if_pos rfl]
      exact congrArg (!·) ((inV_ints (g := 0)).trans (mem_liveX wf.1))
    refine ⟨.ref A0, rfl, A0, _, rfl, .inl (SqL.of eA), rfl, flat_ints _, _, rfl, ?_⟩
    rw [ev]
    cases hv : liveB c 0 with
    | false => exact iteT (k0 hv H1 s1)
    | true =>
    refine iteF ?_
    have hl : (ls.map V.ref).length = c.length := by rw [List.length_map, tb.l]
    refine ⟨.ref F, rfl, F, rfl, ⟨_, SqL.of (s1 _ _ tb.e)⟩, fun K0 nK => ?_⟩
    refine lc_rel (w := walk_list (K := K) (a := F) (xs := ls.map V.ref)) (fun i v H' => ∃ d, v = .ref d ∧ d ≠ K0 ∧ H d = none ∧ H' d = some (.dK (rowK (rowC (living c) i)))) nK (by rw [hl]; omega) (fun i H' _ s => SqL.of (s _ _ (s1 _ _ tb.e))) (fun i v H' H6 up ⟨d, e1, e2, e3, e4⟩ => ⟨d, e1, e2, e3, up _ _ e2 e4⟩) (fun i x H2 H3 hi s2 ⟨acc, eK⟩ y Nx hN => ?_) (mn_name _) (fun H2 zs s2 eK lz R => ?_)
    · obtain ⟨rfl, hx⟩ := y
      rw [hl] at hi
      obtain ⟨a, r, pm, h1, _, h3⟩ := tb.row hi
      rw [List.getElem?_map, h1] at hx
      cases hx
      have s12 := Same.trans s1 s2
      have okr := (rowOk ok hi).1
      have nd := okR_nd okr
      have l4 := okR_len okr
      have rd := Rd.same s12 h3
      refine gN ⟨rfl, ?_⟩
      refine ⟨.ref a, rfl, a, rowK r, keysR r, rfl, rd, rowK_keys _, by unfold keysR; rw [List.length_map, pm.length_eq]; exact Nat.lt_of_le_of_lt l4 (by decide), fun ys S pm2 st nS => ?_⟩
      obtain rfl := sorted_keys okr (pm2.trans (pm.map fun e : Str × Nat => e.1)) st
      have sS : Same H3 (upd H3 S (.lst ((keysR (rowC c i)).map V.str))) := Same.new nS
      have eS : (upd H3 S (.lst ((keysR (rowC c i)).map V.str))) S = some (.lst ((keysR (rowC c i)).map V.str)) := upd_same
      generalize (upd H3 S (.lst ((keysR (rowC c i)).map V.str))) = H4 at sS eS ⊢
      have lxs : ((keysR (rowC c i)).map V.str).length = (rowC c i).length := by unfold keysR; rw [List.length_map, List.length_map]
      refine ⟨S, rfl, ⟨_, SqL.of eS⟩, fun T nT => ?_⟩
      refine lc_it (w := walk_list (K := K) (a := S) (xs := (keysR (rowC c i)).map V.str)) (fun j H' => Same H4 H' ∧ WxAt H' T (((rowC c i).take j).filter fun e => liveB c e.2)) ⟨Same.new nT, [], upd_same, rfl, fun j t h => by cases h⟩ (fun j H' _ hP => SqL.of (hP.1 _ _ eS)) (fun j x H5 H6 hj hP y => ?_) (fun H5 hP => ?_)
      · obtain ⟨s4, wx⟩ := hP
        obtain ⟨rfl, hx⟩ := y
        rw [lxs] at hj
        have he : (rowC c i)[j]? = some (rowC c i)[j] := List.getElem?_eq_getElem hj
        generalize (rowC c i)[j] = e at he
        have ex : x = V.str e.1 := by
          unfold keysR at hx
          rw [List.getElem?_map, List.getElem?_map, he] at hx
          exact (Option.some.inj hx).symm
        subst ex
        have me := List.mem_of_getElem? he
        have le := rowC_lt wf me
        have s34 := Same.trans sS s4
        have dg : ∀ {Hx : Hp}, Same H6 Hx → DGet Hx a (.str e.1) (some (.int (e.2 : Int))) := fun sx => .inl ⟨rowK r, .inr e.1, Rd.same (Same.trans s34 sx) rd, rfl, by rw [rowK_val, lkp_perm nd pm, lkp_at nd me]; rfl⟩
        have tk : (rowC c i).take (j + 1) = (rowC c i).take j ++ [e] := by rw [List.take_add_one, he]; rfl
        refine gN ⟨rfl, ?_⟩
        refine ⟨.ref a, rfl, .str e.1, rfl, a, .int (e.2 : Int), rfl, dg Same.refl, .ref A0, rfl, A0, _, rfl, .inl (SqL.of (s34 _ _ (s2 _ _ eA))), rfl, flat_ints _, _, rfl, ?_⟩
        rw [show (if false = true then !inV (V.int (e.2 : Int)) (intsV (liveX c)) else inV (V.int (e.2 : Int)) (intsV (liveX c))) = liveB c e.2 by rw [if_neg Bool.false_ne_true]; exact inV_ints.trans (mem_liveX le)]
        cases q : liveB c e.2 with
        | false =>
          refine iteF ⟨s4, ?_⟩
          rw [tk, List.filter_append, List.filter_cons, if_neg (by rw [q]; exact Bool.false_ne_true), List.filter_nil, List.append_nil]
          exact wx
        | true =>
          refine iteT ?_
          refine ⟨.str e.1, rfl, .ref a, rfl, .str e.1, rfl, a, .int (e.2 : Int), rfl, dg Same.refl, sz2, fun t nt => ?_⟩
          have nTt : t ≠ T := fun z => by
            obtain ⟨_, eT, _⟩ := wx
            rw [z, eT] at nt; cases nt
          obtain ⟨ts, eT, lt, kt⟩ := id wx
          refine ⟨_, Same.new nt _ _ eT, ?_, ?_, ?_⟩
          · have := List.length_filter_le (fun e : Str × Nat => liveB c e.2) ((rowC c i).take j)
            rw [List.length_take] at this
            rw [List.length_map, lt, sizeLine_eq]; omega
          · intro b o eb
            rw [upd_ne (ne_of_none eb nT)]
            exact Same.new nt _ _ (s4 _ _ eb)
          · rw [tk, List.filter_append, List.filter_cons, if_pos q, List.filter_nil]
            refine (wx.same (Same.new nt)).add (T := t) (fun b o n eb => by rw [upd_ne n]; exact eb) ?_ (Same.new nt _ _ eT) upd_same
            rw [upd_ne nTt, upd_same]
      · obtain ⟨s4, wx⟩ := hP
        rw [lxs, List.take_length] at wx
        obtain ⟨ts, eT, lt, kt⟩ := wx
        have lr : rowC (living c) i = (rowC c i).filter fun e => liveB c e.2 := living_row ..
        have nd' : (keysR ((rowC c i).filter fun e => liveB c e.2)).Nodup := nd.sublist (List.Sublist.map _ List.filter_sublist)
        refine ⟨T, ts, _, rfl, SqL.of eT, row_paired lt kt, fun d nd0 => ?_⟩
        have s34 := Same.trans sS s4
        refine hN _ _ (Same.trans s34 (Same.new nd0)) ⟨d, rfl, (fun z : d = K0 => by rw [z, s34 _ _ eK] at nd0; cases nd0), none_back s1 (none_back s2 (none_back s34 nd0)), ?_⟩
        rw [upd_same, lr]
        have := rowK_merge ((rowC c i).filter fun e => liveB c e.2) [] nd'
        exact congrArg (fun z => some (HO.dK z)) this
    obtain ⟨ds, rfl, hds⟩ := refs_of (R := fun i d => H d = none ∧ H2 d = some (.dK (rowK (rowC (living c) i)))) fun i z hz => let ⟨d, e1, _, e3, e4⟩ := R i z hz; ⟨d, e1, e3, e4⟩
    have nt : NewT H H2 K0 (living c) := ⟨ds, eK, by rw [← List.length_map (f := V.ref), lz, hl, living_len], hds⟩
    have s02 := Same.trans s1 s2
    refine gN ?_
    refine ⟨.ref K0, rfl, fun b => H b = none, fun H3 LP => ?_⟩
    obtain ⟨ls3, tb3⟩ := nt.lock LP
    have s03 := LP.same s02
    have wf' := living_wf wf
    have ok' := living_ok ok
    have len' := living_len c
    unfold leastC at k1
    rw [← len'] at c10
    clear k0 ev nt hds R eK lz
    generalize living c = c' at wf' ok' tb3 c10 k1
    have h0 : 0 < c'.length := wf'.1
    refine ⟨K0, ls3, c', w, rfl, tb3.toR, wf', ok', c10, fun M H4 s4 nM eM => ?_⟩
    refine gN ?_
    have s04 := Same.trans s03 s4
    have tb4 := tb3.same s4
    have mat : ∀ {g : Nat}, g < c'.length → atI (intsV (repsL c')) (g : Int) = some (.int ((rep c' g : Nat) : Int)) := fun {g} hg => atI_nat (by unfold intsV repsL; rw [List.getElem?_map, List.getElem?_map, List.getElem?_range hg]; rfl)
    obtain ⟨q1, q2, q3, q4⟩ := reachS_ok wf' h0
    refine ⟨.ref M, rfl, M, _, 0, _, rfl, rfl, SqL.of eM, mat h0, sz1, fun O nO => ⟨sz2, fun T nT => ?_⟩⟩
    have nTO : T ≠ O := fun z => by rw [z, upd_same] at nT; cases nT
    have nOH : H O = none := none_back s04 nO
    refine ⟨T, _, rfl, SqT.of upd_same, rfl, _, _, rfl, _, _, rfl, rfl, ?_⟩
    have s5 : Same H4 (upd (upd H4 O (.lst [.int ((rep c' 0 : Nat) : Int)])) T (.tup [.ref O, .int 0])) := Same.trans (Same.new nO) (Same.new nT)
    have eO : (upd (upd H4 O (.lst [.int ((rep c' 0 : Nat) : Int)])) T (.tup [.ref O, .int 0])) O = some (.lst (intsV [rep c' 0])) := by rw [upd_ne nTO.symm, upd_same]; rfl
    generalize (upd (upd H4 O (.lst [.int ((rep c' 0 : Nat) : Int)])) T (.tup [.ref O, .int 0])) = H5 at s5 eO ⊢
    have kO : ∀ {b : Addr} {u : HO}, H4 b = some u → b ≠ O := fun e z => by rw [z, nO] at e; cases e
    have li : ∀ os : List Nat, (intsV os).length = os.length := fun os => by unfold intsV; rw [List.length_map]
    let W : Nat → L2.St → Hp → Prop := fun m σ H' => ∃ (n : Nat) (os : List Nat) (r6 r7 r8 r9 r10 : Option V), σ = [some (.ref F), some (.ref A0), some (.ref K0), some (.ref M), some (.ref O), some (.int (n : Int)), r6, r7, r8, r9, r10] ∧ m = c'.length + 1 - n ∧ n ≤ os.length ∧ n ≤ c'.length ∧ Same H4 H' ∧
      H' O = some (.lst (intsV os)) ∧ os.Nodup ∧ (∀ x ∈ os, x < c'.length ∧ rep c' x = x) ∧ goR (quo c') (c'.length + 1 - n) n os = reachS c' 0
    have lr0 := (rep_ok h0).1
    refine ⟨W, ⟨_, 0, [rep c' 0], _, _, _, _, _, rfl, rfl, Nat.zero_le _, Nat.zero_le _, s5, eO, by simp, (fun x hx => by rw [List.mem_singleton.mp hx]; exact ⟨lr0, rep_rep h0⟩), rfl⟩, ?_⟩
    rintro m σ H6 ⟨n, os, r6, r7, r8, r9, r10, rfl, rfl, hn, hn2, s6, eO6, nd, lt, go⟩
    have los : os.length ≤ c'.length := nodup_len nd fun x hx => (lt x hx).1
    refine ⟨.int (n : Int), rfl, .ref O, rfl, .ref O, _, rfl, .inl ⟨_, SqL.of eO6, rfl⟩, _, _, rfl, rfl, _, rfl, ?_⟩
    rw [li]
    by_cases hlt : n < os.length
    · rw [decide_eq_true (show (n : Int) < (os.length : Int) by omega)]
      refine iteT ⟨fun σ' H' => ∃ m', m' < c'.length + 1 - n ∧ W m' σ' H', fun _ _ z => z, ?_⟩
      obtain ⟨o, ho⟩ : ∃ o, os[n]? = some o := ⟨_, List.getElem?_eq_getElem hlt⟩
      obtain ⟨lo, ro⟩ := lt o (List.mem_of_getElem? ho)
      obtain ⟨a, ob, h1, h2, h30⟩ := tb4.row lo
      have h3 := s6 _ _ h30
      let r := rowC c' o
      have okr := (rowOk ok' lo).1
      have r4 := okR_len okr
      refine ⟨.ref K0, rfl, .ref O, rfl, .int (n : Int), rfl, O, _, (n : Int), .int (o : Int), rfl, rfl, SqL.of eO6, atI_nat (by unfold intsV; rw [List.getElem?_map, ho]; rfl), K0, _, (o : Int), .ref a, rfl, rfl, SqL.of (s6 _ _ tb4.e), h2, a, rowK r, rfl, .inr ⟨ob, h3⟩, fun S nS => ?_⟩
      have eS : (upd H6 S (.lst ((rowK r).map (·.2)))) S = some (.lst ((rowK r).map (·.2))) := upd_same
      have s7 := Same.trans s6 (Same.new nS (o := .lst ((rowK r).map (·.2))))
      have eO7 := Same.new nS (o := .lst ((rowK r).map (·.2))) _ _ eO6
      have nSO : S ≠ O := fun z => by rw [z, eO6] at nS; cases nS
      generalize (upd H6 S (.lst ((rowK r).map (·.2)))) = H7 at s7 eO7 eS ⊢
      have lxs : ((rowK r).map (·.2)).length = r.length := by rw [List.length_map, rowK_len]
      refine ⟨S, rfl, ⟨_, SqL.of eS⟩, ?_⟩
      have stepN : ∀ {j : Nat} {e : Str × Nat}, r[j]? = some e → addAll os (quoR c' (r.take (j + 1))) = addN (addAll os (quoR c' (r.take j))) (rep c' e.2) := fun {j e} he => by
        rw [List.take_add_one, he]
        unfold quoR addAll
        rw [Option.toList_some, List.map_append, List.foldl_append]; rfl
      have good : ∀ (j : Nat), ∀ x ∈ addAll os (quoR c' (r.take j)), x < c'.length ∧ rep c' x = x := fun j x hx => by
        rcases mem_addAll.mp hx with q | ⟨e', he', rfl⟩
        · exact lt x q
        · obtain ⟨e2, h2', rfl⟩ := List.mem_map.mp he'
          have l := rowC_lt wf' (List.mem_of_mem_take h2')
          exact ⟨(rep_ok l).1, rep_rep l⟩
      refine for_it (w := walk_list (K := K) (a := S) (xs := (rowK r).map (·.2))) (fun j σ H' => ∃ r6, σ = [some (.ref F), some (.ref A0), some (.ref K0), some (.ref M), some (.ref O), some (.int (n : Int)), r6, r7, r8, r9, r10] ∧ Same H4 H' ∧ H' S = some (.lst ((rowK r).map (·.2))) ∧ H' O = some (.lst (intsV (addAll os (quoR c' (r.take j)))))) ⟨_, rfl, s7, eS, eO7⟩ (fun i σ H' _ ⟨_, _, _, z, _⟩ => SqL.of z) ?_ ?_
      · rintro j x σ H' H8 hj ⟨r6, rfl, s8, eS8, eO8⟩ ⟨e0, hx⟩
        subst e0
        rw [lxs] at hj
        obtain ⟨e, he⟩ : ∃ e, r[j]? = some e := ⟨_, List.getElem?_eq_getElem hj⟩
        have ex : x = V.int (e.2 : Int) := by
          unfold rowK at hx
          rw [List.getElem?_map, List.getElem?_map, he] at hx
          exact (Option.some.inj hx).symm
        subst ex
        have me : e ∈ rowC c' o := List.mem_of_getElem? he
        have le := rowC_lt wf' me
        have nx := stepN he
        have nd8 : (addAll os (quoR c' (r.take j))).Nodup := nodup_addAll nd
        have l8 : (addAll os (quoR c' (r.take j))).length ≤ c'.length := nodup_len nd8 fun x hx => (good j x hx).1
        generalize addAll os (quoR c' (r.take j)) = os' at nx nd8 l8 eO8
        refine gN ?_
        refine ⟨.ref M, rfl, .int (e.2 : Int), rfl, M, _, (e.2 : Int), _, rfl, rfl, SqL.of (s8 _ _ eM), mat le, .ref O, rfl, O, _, rfl, .inl (SqL.of eO8), rfl, flat_ints _, _, rfl, ?_⟩
        rw [show (if true = true then !inV (V.int ((rep c' e.2 : Nat) : Int)) (intsV os') else inV (V.int ((rep c' e.2 : Nat) : Int)) (intsV os')) = !decide (rep c' e.2 ∈ os') by rw [if_pos rfl]; exact congrArg (!·) inV_ints]
        by_cases hm : rep c' e.2 ∈ os'
        · rw [decide_eq_true hm]
          refine iteF ⟨_, rfl, s8, eS8, ?_⟩
          rw [nx]
          unfold addN
          rw [if_pos hm]; exact eO8
        · rw [decide_eq_false hm]
          refine iteT ?_
          refine ⟨.ref O, rfl, .inl ⟨rfl, _, SqL.of eO8⟩, .ref M, rfl, .int (e.2 : Int), rfl, M, _, (e.2 : Int), _, rfl, rfl, SqL.of (s8 _ _ eM), mat le, O, _, _, rfl, rfl, eO8, by rw [li, sizeLine_eq]; omega, _, rfl, fun b u q => ?_, ?_, ?_⟩
          · rw [upd_ne (kO q)]; exact s8 _ _ q
          · rw [upd_ne nSO]; exact eS8
          · rw [upd_same, nx]
            unfold addN intsV
            rw [if_neg hm, List.map_append]; rfl
      · rintro σ H' ⟨r6, rfl, s8, eS8, eO8⟩
        rw [lxs, List.take_length] at eO8
        obtain ⟨t, ht⟩ := addAll_pre (r := quoR c' r) os
        have ll : os.length ≤ (addAll os (quoR c' r)).length := by rw [ht, List.length_append]; omega
        have gd := good r.length
        rw [List.take_length] at gd
        refine ⟨.int (n : Int), rfl, (n : Int), 1, rfl, rfl, ?_⟩
        refine gN ?_
        refine ⟨c'.length + 1 - (n + 1), by omega, n + 1, addAll os (quoR c' r), _, _, _, _, _, rfl, rfl, by omega, by omega, s8, eO8, nodup_addAll nd, gd, ?_⟩
        rw [← go, show c'.length + 1 - n = (c'.length + 1 - (n + 1)) + 1 by omega]
        conv => rhs; unfold goR
        rw [ho]
        show _ = goR (quo c') _ (n + 1) (addAll os (rowC (quo c') o))
        rw [quo_row lo]
    · rw [decide_eq_false (show ¬ (n : Int) < (os.length : Int) by omega)]
      refine iteF ?_
      have eo : os = reachS c' 0 := by
        rw [← go]
        have en : os[n]? = none := List.getElem?_eq_none (by omega)
        rw [show c'.length + 1 - n = (c'.length - n) + 1 by omega]
        unfold goR
        rw [en]
      subst eo
      refine ⟨(by show 0 ≤ sizeLine; omega), fun L nL => ?_⟩
      refine gN ?_
      have s7 : Same H6 (upd H6 L (.lst [])) := Same.new nL
      have eL : (upd H6 L (.lst [])) L = some (.lst (([] : List Addr).map V.ref)) := upd_same
      have nLH : H L = none := none_back s04 (none_back s6 nL)
      generalize (upd H6 L (.lst [])) = H7 at s7 eL ⊢
      refine ⟨.ref O, rfl, O, rfl, ⟨_, SqL.of (s7 _ _ eO6)⟩, ?_⟩
      refine for_it (w := walk_list (K := K) (a := O) (xs := intsV (reachS c' 0))) (fun i σ H' => ∃ (ds : List Addr) (r8 r9 r10 : Option V), σ = [some (.ref F), some (.ref A0), some (.ref K0), some (.ref M), some (.ref O), some (.int (n : Int)), r6, some (.ref L), r8, r9, r10] ∧ Same H6 H' ∧ H' L = some (.lst (ds.map V.ref)) ∧ NewR H H' L ds ((chartS c' 0).take i)) ⟨[], _, _, _, rfl, s7, eL, ⟨rfl, fun i d q => by cases q⟩⟩ (fun i σ H' _ ⟨_, _, _, _, _, s, _⟩ => SqL.of (s _ _ eO6)) ?_ ?_
      · rintro i x σ H' H8 hi ⟨ds, r8, r9, r10, rfl, s8, eL8, nr⟩ ⟨e0, hx⟩
        subst e0
        rw [li] at hi
        obtain ⟨o, ho⟩ : ∃ o, (reachS c' 0)[i]? = some o := ⟨_, List.getElem?_eq_getElem hi⟩
        have mo := List.mem_of_getElem? ho
        obtain ⟨lo, ro⟩ := q2 o mo
        have ex : x = V.int (o : Int) := by
          unfold intsV at hx
          rw [List.getElem?_map, ho] at hx
          exact (Option.some.inj hx).symm
        subst ex
        obtain ⟨a, ob, h1, h2, h30⟩ := tb4.row lo
        have s48 := Same.trans s6 s8
        let r := rowC c' o
        have okr := (rowOk ok' lo).1
        have nd_r := okR_nd okr
        have r4 : r.length ≤ 4 := okR_len okr
        refine gN ?_
        refine ⟨.ref K0, rfl, .int (o : Int), rfl, K0, _, (o : Int), .ref a, rfl, rfl, SqL.of (s48 _ _ tb4.e), h2, ?_⟩
        refine gN ?_
        have ea := s48 _ _ h30
        refine ⟨.ref L, rfl, .inl ⟨rfl, _, SqL.of eL8⟩, .ref a, rfl, a, ob, rfl, .inl ⟨_, ea, fun T nT => ?_⟩⟩
        let ro' : List (Str × Nat) := r.map fun e => (e.1, (reachS c' 0).idxOf (rep c' e.2))
        have lro : ro'.length = r.length := List.length_map ..
        refine lc_rel (w := walk_keys (d := a) (o := ob) (kvs := rowK r)) (fun j v H' => ∃ t, v = .ref t ∧ t ≠ T ∧ ∃ p, ro'[j]? = some p ∧ H' t = some (.tup [.str p.1, .int ((p.2 : Nat) : Int)])) nT (by rw [rowK_len]; omega) (fun j H' _ sm => sm _ _ ea) (fun j v H' H6 up ⟨t, e1, e2, p, e3, e4⟩ => ⟨t, e1, e2, p, e3, up _ _ e2 e4⟩) (fun j x H9 H10 hj s9 ⟨acc, eT⟩ y Nx hN => ?_) (mn_name _) (fun H9 zs s9 eT lz R => ?_)
        · obtain ⟨rfl, kk, vv, hk, rfl⟩ := y
          rw [rowK_len] at hj
          have he : r[j]? = some r[j] := List.getElem?_eq_getElem hj
          generalize r[j] = e at he
          have ek : (rowK r)[j]? = some ((.inr e.1 : Key), V.int (e.2 : Int)) := by
            unfold rowK
            rw [List.getElem?_map, he]; rfl
          rw [ek] at hk
          obtain ⟨rfl, rfl⟩ := Prod.mk.inj (Option.some.inj hk)
          have me := List.mem_of_getElem? he
          have le := rowC_lt wf' me
          have s49 := Same.trans s48 s9
          have dg : DGet H10 a (.str e.1) (some (.int (e.2 : Int))) := .inl ⟨rowK r, .inr e.1, .inr ⟨ob, s9 _ _ ea⟩, rfl, by rw [rowK_val, lkp_at nd_r me]; rfl⟩
          have mr := q3 o mo e me
          have lix := List.idxOf_lt_length_of_mem mr
          have eO9 := s9 _ _ (s8 _ _ eO6)
          have iat : (intsV (reachS c' 0))[(reachS c' 0).idxOf (rep c' e.2)]? = some (V.int ((rep c' e.2 : Nat) : Int)) := by
            unfold intsV
            rw [List.getElem?_map, List.getElem?_eq_getElem lix, List.getElem_idxOf]; rfl
          refine gN ⟨rfl, ?_⟩
          refine ⟨.str e.1, rfl, .ref O, rfl, .inl ⟨rfl, _, SqL.of eO9⟩, .ref M, rfl, .ref a, rfl, .str e.1, rfl, a, .int (e.2 : Int), rfl, dg, M, _, (e.2 : Int), _, rfl, rfl, SqL.of (s49 _ _ eM), mat le, O, _, _, (reachS c' 0).idxOf (rep c' e.2), _, rfl, rfl, SqL.of eO9, rfl, flat_ints _, iat, ?_, fun m z' hm hz => ?_, sz2, fun t nt => ?_⟩
          · show ((((rep c' e.2 : Nat) : Int)) == ((rep c' e.2 : Nat) : Int)) = true
            exact beq_self_eq_true _
          · unfold intsV at hz
            have hm' : m < (reachS c' 0).length := Nat.lt_trans hm lix
            rw [List.getElem?_map, List.getElem?_eq_getElem hm'] at hz
            cases hz
            show (((((reachS c' 0)[m]'hm' : Nat) : Int)) == ((rep c' e.2 : Nat) : Int)) = false
            refine beq_eq_false_iff_ne.mpr fun q => ?_
            have q := Int.ofNat.inj q
            have := q1.idxOf_getElem m hm'
            rw [q] at this
            omega
          · refine hN _ _ (Same.new nt) ⟨t, rfl, (fun z : t = T => by rw [z, eT] at nt; cases nt), (e.1, (reachS c' 0).idxOf (rep c' e.2)), ?_, upd_same⟩
            show (r.map _)[j]? = _
            rw [List.getElem?_map, he]; rfl
        · obtain ⟨ts, rfl, hts⟩ := refs_of (R := fun j t => ∃ p, ro'[j]? = some p ∧ H9 t = some (.tup [.str p.1, .int ((p.2 : Nat) : Int)])) fun j z hz => let ⟨t, e1, _, p, e3, e4⟩ := R j z hz; ⟨t, e1, p, e3, e4⟩
          have lts : ts.length = ro'.length := by rw [lro, ← List.length_map (f := V.ref) (as := ts), lz, rowK_len]
          have ndr : (keysR ro').Nodup := by
            have : keysR ro' = keysR r := keys_map (f := fun e => (reachS c' 0).idxOf (rep c' e.2))
            rw [this]; exact nd_r
          have eL9 := s9 _ _ eL8
          refine ⟨T, ts, _, rfl, SqL.of eT, row_paired lts hts, fun d nd0 => ?_⟩
          have em : (upd H9 d (.dK (mergeK [] (rowK ro')))) = upd H9 d (.dK (rowK ro')) := by rw [show mergeK [] (rowK ro') = rowK ro' from rowK_merge ro' [] ndr]
          rw [em]
          have nLd : d ≠ L := fun z => by rw [z, eL9] at nd0; cases nd0
          have s89 := Same.trans s8 s9
          have lds : ds.length ≤ (chartS c' 0).length := by
            rw [nr.l, List.length_take]; exact Nat.min_le_right ..
          have lch := chartS_le wf' h0
          refine ⟨L, _, _, rfl, rfl, Same.new nd0 _ _ eL9, by rw [List.length_map, sizeLine_eq]; omega, ds ++ [d], _, _, _, rfl, fun b u q => ?_, by rw [upd_same, List.map_append]; rfl, ?_⟩
          · rw [upd_ne (fun z => by rw [z, nL] at q; cases q)]
            exact Same.new nd0 _ _ (s89 _ _ q)
          · have tk : (chartS c' 0).take (i + 1) = (chartS c' 0).take i ++ [ro'] := by
              rw [List.take_add_one]
              have : (chartS c' 0)[i]? = some ro' := by
                unfold chartS
                rw [List.getElem?_map, ho]; rfl
              rw [this]; rfl
            rw [tk]
            have nr9 : NewR H (upd H9 d (.dK (rowK ro'))) L ds ((chartS c' 0).take i) := nr.keep fun b kvs _ _ e => Same.new nd0 _ _ (s9 _ _ e)
            have ndH : H d = none := none_back s04 (none_back s6 (none_back s89 nd0))
            refine (nr9.add ndH nLd upd_same).keep fun b kvs _ nb e => ?_
            rw [upd_ne nb]; exact e
      · rintro σ H' ⟨ds, r8, r9, r10, rfl, s8, eL8, nr⟩
        rw [li, ← chartS_len, List.take_length] at nr
        exact ⟨.ref L, rfl, k1 hv L H' (Same.trans s04 (Same.trans s6 s8)) nLH (nr.newT eL8)⟩
end
end K88
end

section
set_option maxHeartbeats 4000000
/-! the law walks; its words -/
namespace K88
open PySem PySem.Spec PyProof.Rows L2
def spLawWalked : Sp := fun vs H Q _ => ∃ (F : Addr) (ls : List Addr) (c : Ch) (s : Nat) (u : List Str), vs = [.ref F, .str (catL u), .int (s : Int)] ∧ TbR H F ls c ∧ NdT c ∧ WfC c ∧ s < c.length ∧ (∀ z ∈ u, z ∈ sgs) ∧ Q (optV (ledL c s u)) H
/-- all words of k signs, put together behind those of w -/
def layerW (w : Nat) : Nat → List (List Str)
  | 0 => [[]]
  | k + 1 => (layerW w k).flatMap fun u => (sgs.take w).map fun z => u ++ [z]
def wordsW (w : Nat) : Nat → List (List Str)
  | 0 => [[]]
  | k + 1 => wordsW w k ++ layerW w (k + 1)
theorem layer_len (w : Nat) (h : w ≤ 4) : ∀ k, (layerW w k).length = w ^ k
  | 0 => rfl
  | k + 1 => by
    show ((layerW w k).flatMap fun u => (sgs.take w).map fun z => u ++ [z]).length = _
    rw [List.length_flatMap]
    have : ∀ l : List (List Str), (l.map fun u => ((sgs.take w).map fun z => u ++ [z]).length).sum = l.length * w := by
      intro l
      induction l with
      | nil => simp
      | cons u l ih =>
        rw [List.map_cons, List.sum_cons, ih, List.length_cons, List.length_map, List.length_take, show min w sgs.length = w from Nat.min_eq_left h, Nat.succ_mul]
        omega
    rw [this, layer_len w h k, Nat.pow_succ]
theorem layer_mem {w : Nat} : ∀ {k : Nat} {u : List Str}, u ∈ layerW w k → u.length = k ∧ ∀ z ∈ u, z ∈ sgs
  | 0, u, h => by rw [List.mem_singleton.mp h]; exact ⟨rfl, fun z q => by cases q⟩
  | k + 1, u, h => by
    obtain ⟨v, hv, hu⟩ := List.mem_flatMap.mp h
    obtain ⟨z, hz, rfl⟩ := List.mem_map.mp hu
    obtain ⟨h1, h2⟩ := layer_mem hv
    refine ⟨by rw [List.length_append, h1]; rfl, fun y hy => ?_⟩
    rcases List.mem_append.mp hy with q | q
    · exact h2 y q
    · rw [List.mem_singleton.mp q]; exact List.mem_of_mem_take hz
theorem words_mem {w : Nat} : ∀ {k : Nat} {u : List Str}, u ∈ wordsW w k → u.length ≤ k ∧ ∀ z ∈ u, z ∈ sgs
  | 0, u, h => by rw [List.mem_singleton.mp h]; exact ⟨Nat.le_refl _, fun z q => by cases q⟩
  | k + 1, u, h => by
    rcases List.mem_append.mp h with q | q
    · exact ⟨Nat.le_succ_of_le (words_mem q).1, (words_mem q).2⟩
    · exact ⟨Nat.le_of_eq (layer_mem q).1, (layer_mem q).2⟩
section
variable {P : Program} {w : World} {K : PySem.W.Frag} {mg : Str → Option Value} {base : Heap} {ad : Str → Addr} {fd : Str → FuncData}
theorem scLawWalked : FnScope ["_law_lines_here", "_law_word_here", "_law_spot", "_law_here", "_law_letter"] ["_law_lines_here", "_law_word_here", "_law_spot"] (defScope sLawWalked) := ⟨rfl, rfl, rfl, by decide +kernel, rfl, by decide +kernel, by decide +kernel⟩
theorem ok_lawwalked (X : Tx K mg ad fd) : FnOk P w K mg base CX0 1 (ad "_law_walked") (fd "_law_walked") ["_law_lines_here", "_law_word_here", "_law_spot"] spLawWalked := by
  refine X.F__law_walked.ok scLawWalked (fun vs H Q E h => ?_) (fun cdv A outer s H vs Q E hr h => ?_)
  · obtain ⟨F, ls, c, s0, u, rfl, tb, nd, wf, hs, su, k⟩ := h
    rfl
  · obtain ⟨F, ls, c, s0, u, rfl, tb, nd, wf, hs, su, k⟩ := h
    have HU : (A.deeper (envOfC "_law_walked" (defScope sLawWalked) s.heap.objs.size (ad "_law_walked") cdv)).units + 1 < cLine := by have := hr.un; omega
    refine ⟨_, (pss_cons (ps_set (i := 3) scLawWalked.nd rfl (.inl rfl) (by exact (pv 2)))
  (pss_cons (ps_for PassesOwn.never rfl (pi_str (pv 1)) (pg_name (i := 4) scLawWalked.nd rfl (.inl rfl))
  (pss_cons (ps_if (pt_cmp (pc_dnotin HU (pv 4) (pe_ix (ix_listK (K := K) rfl) (pv 0) (pv 3) (fun _ _ => rfl))))
  (pss_one (ps_ret (by exact pe_non)))
  pss_nil)
  (pss_one (ps_set (i := 3) scLawWalked.nd rfl (.inl rfl) (by exact (pe_dget HU (pe_ix (ix_listK (K := K) rfl) (pv 0) (pv 3) (fun _ _ => rfl)) (pv 4) (fun _ _ => rfl)))))))
  (pss_one (ps_ret (by exact (pv 3)))))), ?_⟩
    refine ⟨.int (s0 : Int), rfl, ?_⟩
    refine gN ?_
    refine ⟨.str (catL u), rfl, catL u, rfl, ?_⟩
    refine for_it (w := walk_str (z := catL u)) (fun i σ H' => ∃ (t : Nat) (r4 : Option V), σ = [some (.ref F), some (.str (catL u)), some (.int (s0 : Int)), some (.int (t : Int)), r4] ∧ H' = H ∧ ledL c s0 (u.take i) = some t) ⟨s0, _, rfl, rfl, rfl⟩ (fun _ _ _ _ _ => True.intro) ?_ ?_
    · rintro i x σ H' H2 hi ⟨t, r4, rfl, rfl, lt⟩ ⟨rfl, cc, hc, rfl⟩
      obtain ⟨z, hz, ez⟩ := cat_at su hc
      have ht := led_lt wf hs lt
      obtain ⟨a, r, pm, a1, a2, a3⟩ := tb.row ht
      have l2 := led_snoc (z := z) lt
      have tk : u.take (i + 1) = u.take i ++ [z] := by rw [List.take_add_one, hz]; rfl
      rw [← tk] at l2
      refine gN ?_
      cases e : lkp (rowC c t) z with
      | none =>
        have dg : DGet H2 a (.str ⟨#[cc]⟩) none := .inl ⟨rowK r, .inr ⟨#[cc]⟩, a3, rfl, by rw [rowK_val, ← ez, lkp_perm (nd t ht) pm, e]; rfl⟩
        refine ⟨.str ⟨#[cc]⟩, rfl, .ref F, rfl, .int (t : Int), rfl, F, _, (t : Int), .ref a, rfl, rfl, SqL.of tb.e, a2, a, _, rfl, dg, _, rfl, iteT ?_⟩
        have en : ledL c s0 u = none := by
          have := led_app (c := c) (u := u.take (i + 1)) (v := u.drop (i + 1)) (s := s0)
          rw [List.take_append_drop, l2, e] at this
          exact this
        rw [en] at k
        exact k
      | some t' =>
        have dg : DGet H2 a (.str ⟨#[cc]⟩) (some (.int (t' : Int))) := .inl ⟨rowK r, .inr ⟨#[cc]⟩, a3, rfl, by rw [rowK_val, ← ez, lkp_perm (nd t ht) pm, e]; rfl⟩
        refine ⟨.str ⟨#[cc]⟩, rfl, .ref F, rfl, .int (t : Int), rfl, F, _, (t : Int), .ref a, rfl, rfl, SqL.of tb.e, a2, a, _, rfl, dg, _, rfl, iteF ?_⟩
        refine ⟨.ref F, rfl, .int (t : Int), rfl, F, _, (t : Int), .ref a, rfl, rfl, SqL.of tb.e, a2, .str ⟨#[cc]⟩, rfl, a, _, rfl, dg, ?_⟩
        exact ⟨t', _, rfl, rfl, by rw [l2, e]⟩
    · rintro σ H' ⟨t, r4, rfl, rfl, lt⟩
      have : u.take (catL u).cps.size = u := List.take_of_length_le (by rw [cat_size su]; exact Nat.le_refl _)
      rw [this] at lt
      rw [lt] at k
      exact ⟨.int (t : Int), rfl, k⟩
end
end K88
end

section
set_option maxHeartbeats 4000000
/-! the law: _law_end, _law_is_fine -/
namespace K88
open PySem PySem.Spec PyProof.Rows L2

theorem bord_drop1 {m x : NL} {k : Nat} (h : k + m.length ≤ x.length + 1) (n : ¬ m <:+ x) : bord m (x.drop k) = bord m x := by
  cases k with
  | zero => rfl
  | succ k =>
    have h1 := bord_drop m x k (by omega)
    have hk : k < x.length := by
      rcases Nat.lt_or_ge k x.length with l | l
      · exact l
      · exfalso
        have : m.length = 0 := by omega
        rw [List.eq_nil_of_length_eq_zero this] at n
        exact n List.nil_suffix
    rw [← h1, List.drop_eq_getElem_cons hk]
    conv => rhs; unfold bord
    rw [if_neg fun p => ?_]
    have l := p.length_le
    rw [List.length_cons, List.length_drop] at l
    have e := List.IsPrefix.eq_of_length p (by rw [List.length_cons, List.length_drop]; omega)
    rw [← List.drop_eq_getElem_cons hk] at e
    exact n (e ▸ List.drop_suffix k x)
def spEnd : Sp := fun vs H Q _ => ∃ m r : Str, vs = [.str m, .str r] ∧ 1 ≤ m.length ∧ m.length ≤ 100 ∧ r.length ≤ 5000 ∧ ∀ H', Same H H' → Q (.str (sl (bord (cl m) ((cl r).drop (r.length + 1 - m.length))))) H'
def spFine : Sp := fun vs H Q _ => ∃ (F : Addr) (ls : List Addr) (c : Ch) (x m : Str), vs = [.ref F, .str x, .str m] ∧ TbR H F ls c ∧ NdT c ∧ WfC c ∧ wordD (.str x) = true ∧ m.length ≤ x.length ∧ x.length ≤ 5000 ∧
  Q (.bl ((ledN c 0 (cl x)).isSome && (decide ((cl x).drop (x.length - m.length) = cl m) && !infB (cl m) (cl x).dropLast))) H
section
variable {P : Program} {w : World} {K : PySem.W.Frag} {mg : Str → Option Value} {base : Heap} {ad : Str → Addr} {fd : Str → FuncData}
theorem scEnd : FnScope ["_law_mark_word", "_law_word_here", "_law_ends", "_law_at", "_law_near"] ["_law_mark_word", "_law_word_here"] (defScope sEnd) := ⟨rfl, rfl, rfl, by decide +kernel, rfl, by decide +kernel, by decide +kernel⟩
theorem ok_end (X : Tx K mg ad fd) : FnOk P w K mg base CX0 1 (ad "_law_end") (fd "_law_end") ["_law_mark_word", "_law_word_here"] spEnd := by
  refine X.F__law_end.ok scEnd (fun vs H Q E h => ?_) (fun cdv A outer s H vs Q E hr h => ?_)
  · obtain ⟨m, r, rfl, hm1, hm, hr0, k⟩ := h
    rfl
  · obtain ⟨m, r, rfl, hm1, hm, hr0, k⟩ := h
    refine ⟨_, (pss_cons (ps_setLc (i := 2) (own := [("_law_at", 3)]) (g := gName 3) rfl scEnd.nd rfl rfl (by rfl) (pi_range2 (by rfl) X.m_range (pa_cons (pe_callB (call_max2 rfl) (by rfl) X.m_max (by decide +kernel) (pa_cons pe_int (pa_cons (pe_op op_add (pe_op op_sub (pe_callB (call_lenK (K := K) rfl) (by rfl) X.m_len (by decide +kernel) (pa_cons (pv 1) pa_nil)) (pe_callB (call_lenK (K := K) rfl) (by rfl) X.m_len (by decide +kernel) (pa_cons (pv 0) pa_nil))) pe_int) pa_nil))) (pa_cons (pe_op op_add (pe_callB (call_lenK (K := K) rfl) (by rfl) X.m_len (by decide +kernel) (pa_cons (pv 1) pa_nil)) pe_int) pa_nil))) (blkOk_by (own := [("_law_at", 3)]) (N := ["_law_mark_word", "_law_word_here", "_law_ends", "_law_at", "_law_near"]) (sc := defScope sEnd) (by decide +kernel)) (fun _ _ _ _ _ => pg_name (i := 3) scEnd.nd rfl (Or.inl rfl)) (fun _ _ _ _ _ => pts_nil) (fun _ _ _ _ _ => (pe_slice sl_str (pv 1) (po_some (pv 3)) po_none)))
  (pss_one (ps_ret (by exact (pe_ix (ix_listK (K := K) rfl) (pe_lc (own := [("_law_near", 4)]) (g := gName 4) rfl scEnd.nd (pi_listK (K := K) rfl (pv 2)) (blkOk_by (own := [("_law_near", 4)]) (N := ["_law_mark_word", "_law_word_here", "_law_ends", "_law_at", "_law_near"]) (sc := defScope sEnd) (by decide +kernel)) (fun _ _ _ _ _ => pg_name (i := 4) scEnd.nd rfl (Or.inl rfl)) (fun _ _ _ _ _ => pts_one (pt_val (pe_bmK (K := K) rfl PySem.F.plainAttrs_str PySem.F.slot_str_startswith PySem.F.type_str_startswith mt_startswith (pv 0) (pa_cons (pv 4) pa_nil)))) (fun _ _ _ _ _ => (pv 4))) pe_int (fun _ _ => rfl)))))), ?_⟩
    have e0 : (if ((r.length : Nat) : Int) - ((m.length : Nat) : Int) + 1 > (0 : Int) then ((r.length : Nat) : Int) - ((m.length : Nat) : Int) + 1 else (0 : Int)) = ((r.length + 1 - m.length : Nat) : Int) := by split <;> omega
    refine ⟨.str r, rfl, .str r, _, rfl, lenS (by omega), .str m, rfl, .str m, _, rfl, lenS (by omega), _, _, rfl, rfl, _, _, rfl, rfl, _, _, rfl, .str r, rfl, .str r, _, rfl, lenS (by omega), _, _, rfl, rfl, _, _, rfl, ?_⟩
    rw [e0]
    have cr := cl_len r
    let k0 := r.length + 1 - m.length
    have hk0 : k0 ≤ r.length := by show r.length + 1 - m.length ≤ _; omega
    have en : ((r.length : Int) + 1 - ((k0 : Nat) : Int)).toNat = r.length - k0 + 1 := by omega
    refine ⟨⟨by omega, by omega, by omega, by omega⟩, fun D hD => ?_⟩
    show ∃ W, _
    rw [show ((r.length : Int) + 1 - ((r.length + 1 - m.length : Nat) : Int)).toNat = r.length - k0 + 1 from en]
    have tl : ∀ i, i < r.length - k0 + 1 → (tlsN ((cl r).drop k0))[i]? = some ((cl r).drop (k0 + i)) := fun i hi => by
      rw [tls_drop, List.getElem?_map, List.getElem?_range (by rw [List.length_drop, cr]; omega), Option.map_some, List.drop_drop]
    have tn : (tlsN ((cl r).drop k0)).length = r.length - k0 + 1 := by
      rw [tls_drop, List.length_map, List.length_range, List.length_drop, cr]
    refine lc_range (lo := ((k0 : Nat) : Int)) (n := r.length - k0 + 1) (fun i H' => Same H H' ∧ H' D = some (.lst (((tlsN ((cl r).drop (k0))).take i).map fun y => V.str (sl y)))) ⟨Same.new hD, upd_same⟩ (fun i H' hi hP => ?_) (fun H' hP => ?_)
    · obtain ⟨s1, eD⟩ := hP
      refine gN ⟨rfl, yes_of (iteT ?_)⟩
      refine ⟨.str r, rfl, .int (((k0 : Nat) : Int) + (i : Int)), rfl, _, rfl, r, rfl, (by rw [sizeLine_eq]; omega), _, eD, ?_, ?_, ?_⟩
      · rw [List.length_map, List.length_take, sizeLine_eq]; omega
      · intro b o e
        rw [upd_ne (ne_of_none e hD)]
        exact s1 _ _ e
      · rw [upd_same, take_snoc (tl i hi), List.map_append]
        rw [show ((k0 : Nat) : Int) + (i : Int) = ((k0 + i : Nat) : Int) by omega, cut_from]
        rfl
    · obtain ⟨s1, eD⟩ := hP
      rw [← tn, List.take_length] at eD
      refine gN ?_
      have eL : H' D = some (.lst ((tlsN ((cl r).drop (k0))).map fun y => V.str (sl y))) := eD
      have ll : ∀ y ∈ tlsN ((cl r).drop (k0)), y.length ≤ 5000 := fun y hy => by
        rw [tls_drop] at hy
        obtain ⟨k, _, rfl⟩ := List.mem_map.mp hy
        rw [List.length_drop, List.length_drop, cr]; omega
      have bf := bord_first (cl m) ((cl r).drop (k0))
      have tn2 : (tlsN ((cl r).drop (k0))).length ≤ 5001 := by rw [tn]; omega
      generalize tlsN ((cl r).drop (k0)) = L at eL ll bf tn2
      clear eD
      refine ⟨.ref D, rfl, D, rfl, ⟨_, SqL.of eL⟩, fun D2 nD2 => ?_⟩
      refine lc_it (w := walk_list (K := K) (a := D) (xs := L.map fun y => V.str (sl y))) (g := gName 4) (fun i H2 => Same H' H2 ∧ H2 D2 = some (.lst (((L.take i).filter fun y => decide (y <+: cl m)).map fun y => V.str (sl y)))) ⟨Same.new nD2, upd_same⟩ (fun _ _ _ ⟨s2, _⟩ => SqL.of (s2 _ _ eL)) (fun i v Ha Hb hi hP hy => ?_) (fun H2 hP => ?_)
      · obtain ⟨s2, e2⟩ := hP
        obtain ⟨rfl, hv⟩ := hy
        rw [List.getElem?_map] at hv
        obtain ⟨y, hL, rfl⟩ := Option.map_eq_some_iff.mp hv
        rw [List.length_map] at hi
        refine gN ⟨rfl, .str m, rfl, rfl, .str (sl y), rfl, m, sl y, rfl, rfl, _, rfl, ?_⟩
        rw [show Txt.startswith m (sl y) = decide (y <+: cl m) from Bool.eq_iff_iff.mpr ((starts_iff m (sl y)).trans decide_eq_true_iff.symm)]
        have ft : (L.take (i + 1)).filter (fun y => decide (y <+: cl m)) = (L.take i).filter (fun y => decide (y <+: cl m)) ++ if y <+: cl m then [y] else [] := by
          rw [take_snoc hL, List.filter_append]
          congr 1
          by_cases p : y <+: cl m
          · rw [if_pos p, List.filter_cons, if_pos (decide_eq_true p)]; rfl
          · rw [if_neg p, List.filter_cons, if_neg (by rw [decide_eq_false p]; simp)]; rfl
        by_cases p : y <+: cl m
        · rw [decide_eq_true p]
          rw [if_pos p] at ft
          refine iteT ⟨.str (sl y), rfl, _, e2, ?_, ?_, ?_⟩
          · rw [List.length_map, sizeLine_eq]
            have := List.length_filter_le (fun y => decide (y <+: cl m)) (L.take i)
            rw [List.length_take] at this
            omega
          · intro b o e
            rw [upd_ne (ne_of_none e nD2)]
            exact s2 _ _ e
          · rw [upd_same, ft, List.map_append]; rfl
        · rw [decide_eq_false p]
          rw [if_neg p, List.append_nil] at ft
          exact iteF ⟨s2, by rw [ft]; exact e2⟩
      · obtain ⟨s2, e2⟩ := hP
        rw [List.length_map, List.take_length] at e2
        refine ⟨D2, _, 0, _, rfl, rfl, SqL.of e2, atI_nat (j := 0) ?_, k H2 (Same.trans s1 s2)⟩
        rw [List.getElem?_map, ← List.head?_eq_getElem?, bf]; rfl
theorem scIsFine : FnScope ["_law_lines_here", "_law_word_here", "_law_mark_word"] ["_law_lines_here", "_law_word_here", "_law_mark_word"] (defScope sIsFine) := ⟨rfl, rfl, rfl, by decide +kernel, rfl, by decide +kernel, by decide +kernel⟩
theorem ok_fine (X : Tx K mg ad fd) : FnOk P w K mg base CX0 2 (ad "_law_is_fine") (fd "_law_is_fine") ["_law_lines_here", "_law_word_here", "_law_mark_word"] spFine := by
  have G__law_walked := ok_lawwalked (P := P) (w := w) (base := base) X
  refine X.F__law_is_fine.ok scIsFine (fun vs H Q E h => ?_) (fun cdv A outer s H vs Q E hr h => ?_)
  · obtain ⟨F, ls, c, x, m, rfl, tb, nd, wf, wx, lm, lx, k⟩ := h
    rfl
  · obtain ⟨F, ls, c, x, m, rfl, tb, nd, wf, wx, lm, lx, k⟩ := h
    have HR__law_walked : Room 1 _ := hr
    refine ⟨_, (pss_cons (ps_if (PW.pt (pw_or (pt_cmpR op_isN (pe_call G__law_walked HR__law_walked (by rfl) X.g__law_walked X.F__law_walked.kp X.b__law_walked .nil pass0 (pa_cons (pv 0) (pa_cons (pv 1) (pa_cons pe_int pa_nil)))) pe_non (nomark _)) (pw_or1 (pt_cmpR op_ne (pe_slice sl_str (pv 1) (po_some (pe_op op_sub (pe_callB (call_lenK (K := K) rfl) (by rfl) X.m_len (by decide +kernel) (pa_cons (pv 1) pa_nil)) (pe_callB (call_lenK (K := K) rfl) (by rfl) X.m_len (by decide +kernel) (pa_cons (pv 2) pa_nil)))) po_none) (pv 2) (nomark _)))))
  (pss_one (ps_ret (by exact pe_bl)))
  pss_nil)
  (pss_one (ps_ret (by exact (pe_cmpR op_notIn_str (pv 2) (pe_slice sl_str (pv 1) po_none (po_some (pe_un un_neg pe_int))) rfl))))), ?_⟩
    refine ⟨.ref F, rfl, .str x, rfl, F, ls, c, 0, lettersS x, by rw [letters_cat]; rfl, tb, nd, wf, wf.1, letters_in wx, ?_⟩
    rw [show ledL c 0 (lettersS x) = ledN c 0 (cl x) from rfl]
    cases e : ledN c 0 (cl x) with
    | none =>
      rw [e] at k
      refine ⟨rfl, _, rfl, ?_⟩
      rw [decide_eq_true (show optV none = V.non from rfl)]
      exact iteT k
    | some v =>
      rw [e] at k
      refine ⟨rfl, _, rfl, ?_⟩
      rw [decide_eq_false (show ¬ optV (some v) = V.non from fun y => by cases y)]
      refine iteF ⟨.str x, rfl, .str x, rfl, .str x, _, rfl, lenS (by omega), .str m, rfl, .str m, _, rfl, lenS (by omega), _, _, rfl, rfl, _, rfl, x, rfl, (by rw [sizeLine_eq]; omega), .str m, rfl, rfl, _, rfl, ?_⟩
      rw [show ((x.length : Nat) : Int) - ((m.length : Nat) : Int) = ((x.length - m.length : Nat) : Int) by omega, cut_from]
      have dq : decide (V.str (sl ((cl x).drop (x.length - m.length))) = V.str m) = decide ((cl x).drop (x.length - m.length) = cl m) := decide_eq_decide.mpr ⟨fun h => by injection h with h; exact congrArg cl h, fun h => by rw [h]; rfl⟩
      rw [dq]
      by_cases p : (cl x).drop (x.length - m.length) = cl m
      · rw [decide_eq_true p] at k ⊢
        refine iteF ⟨.str m, rfl, .str x, rfl, _, rfl, _, rfl, x, rfl, (by rw [sizeLine_eq]; omega), m, _, rfl, rfl, ?_⟩
        rw [cut_m1, show (!(Builtin.Str.occurrences (sl (cl x).dropLast) m 0 (sl (cl x).dropLast).length 1).isEmpty) = infB (cl m) (cl x).dropLast from Bool.eq_iff_iff.mpr ((in_iff _ _).trans infB_iff.symm)]
        exact k
      · rw [decide_eq_false p] at k ⊢
        exact iteT k
end
end K88
end

section
set_option maxHeartbeats 4000000
/-! the law: _law_mark, _law_word -/
namespace K88
open PySem PySem.Spec PyProof.Rows L2

theorem TbR.butP {pt : Addr} {H H' : Hp} {F : Addr} {ls : List Addr} {c : Ch} (h : TbR H F ls c) (c0 : 0 < c.length) (hp : PotAt H pt) (n : But pt H H') : TbR H' F ls c := by
  obtain ⟨x, y, ep, _⟩ := hp
  refine ⟨n _ _ (fun z => ?_) h.e, h.l, fun i a q => ?_⟩
  · have e := h.e
    have l := h.l
    rw [z, ep] at e
    cases ls with
    | nil => simp at l; omega
    | cons a r => cases e
  · obtain ⟨r, p, e⟩ := h.k i a q
    refine ⟨r, p, ?_⟩
    rcases e with e | ⟨o, e⟩
    · exact .inl (n _ _ (fun z => by rw [z, ep] at e; cases e) e)
    · exact .inr ⟨o, n _ _ (fun z => by rw [z, ep] at e; cases e) e⟩
theorem word_app {a b : Str} (ha : wordD (.str a) = true) (hb : wordD (.str b) = true) : wordD (.str (a ++ b)) = true := by
  show ((cl (a ++ b)).all sgn) = true
  rw [cl_app, List.all_append, Bool.and_eq_true]
  exact ⟨ha, hb⟩
theorem word_one {a : Nat} (h : a ∈ cl "abcd") : wordD (.str (⟨#[a]⟩ : Str)) = true := by
  show (([a] : List Nat).all sgn) = true
  rw [List.all_cons, List.all_nil, Bool.and_true]
  exact decide_eq_true h
theorem cut_abcd {w cc : Nat} (h : cc ∈ (cutS "abcd" none (some (w : Int))).cps.toList) : cc ∈ cl "abcd" := by
  rw [cut_to] at h
  exact List.mem_of_mem_take h
theorem word_cut {x : Str} {k : Nat} (h : wordD (.str x) = true) : wordD (.str (sl ((cl x).drop k))) = true := by
  show (((cl x).drop k).all sgn) = true
  refine List.all_eq_true.mpr fun a ha => ?_
  exact List.all_eq_true.mp (show (cl x).all sgn = true from h) a (List.mem_of_mem_drop ha)
def spMark : Sp := fun vs H Q _ => ∃ (pt F : Addr) (ls : List Addr) (c : Ch) (w : Nat), vs = [.ref pt, .ref F, .int (w : Int)] ∧ PotAt H pt ∧ TbR H F ls c ∧ WfC c ∧ okT w c ∧ NdT c ∧ Full c ∧ c.length ≤ 64 ∧ 2 ≤ w ∧ w ≤ 4 ∧
  ∀ (m : Str) (H' : Hp), okMark m → PotAt H' pt → But pt H H' → Q (.str m) H'
section
variable {P : Program} {w : World} {K : PySem.W.Frag} {mg : Str → Option Value} {base : Heap} {ad : Str → Addr} {fd : Str → FuncData}
theorem scMark : FnScope ["_law_pot_here", "_law_lines_here", "_law_width", "_law_length", "_law_here", "_law_found", "_law_way", "_law_turn", "_law_letter"] ["_law_pot_here", "_law_lines_here", "_law_width"] (defScope sMark) := ⟨rfl, rfl, rfl, by decide +kernel, rfl, by decide +kernel, by decide +kernel⟩
theorem ok_mark (X : Tx K mg ad fd) : FnOk P w K mg base CX0 3 (ad "_law_mark") (fd "_law_mark") ["_law_pot_here", "_law_lines_here", "_law_width"] spMark := by
  have G__law_draw := ok_draw (P := P) (w := w) (base := base) X
  have G__law_pick := ok_pick (P := P) (w := w) (base := base) X
  refine X.F__law_mark.ok scMark (fun vs H Q E h => ?_) (fun cdv A outer s H vs Q E hr h => ?_)
  · obtain ⟨pt, F, ls, c, w0, rfl, pot, tb, wf, okt, nd, fu, cl64, w2, w4, k⟩ := h
    rfl
  · obtain ⟨pt, F, ls, c, w0, rfl, pot, tb, wf, okt, nd, fu, cl64, w2, w4, k⟩ := h
    have HR__law_draw : Room 1 _ := hr.mono (by decide)
    have HR__law_pick : Room 2 _ := hr
    have HU : (A.deeper (envOfC "_law_mark" (defScope sMark) s.heap.objs.size (ad "_law_mark") cdv)).units + 1 < cLine := by have := hr.un; omega
    refine ⟨_, (pss_cons (ps_par3 (i := 3) (j := 4) (l := 5) (by rfl) scMark.nd rfl rfl rfl (by decide) (by decide) (by decide) rfl rfl rfl (by exact (pa_cons (pe_op op_add pe_int (pe_call G__law_pick HR__law_pick (by rfl) X.g__law_pick X.F__law_pick.kp X.b__law_pick .nil pass0 (pa_cons (pv 0) (pa_cons (pe_lst (pa_cons pe_int (pa_cons pe_int (pa_cons pe_int (pa_cons pe_int (pa_cons (pe_call G__law_draw HR__law_draw (by rfl) X.g__law_draw X.F__law_draw.kp X.b__law_draw .nil pass0 (pa_cons (pv 0) (pa_cons pe_int pa_nil))) pa_nil)))))) pa_nil)))) (pa_cons pe_int (pa_cons pe_str pa_nil)))) (by rfl))
  (pss_cons (ps_set (i := 6) scMark.nd rfl (.inl rfl) (by exact (pe_call G__law_draw HR__law_draw (by rfl) X.g__law_draw X.F__law_draw.kp X.b__law_draw .nil pass0 (pa_cons (pv 0) (pa_cons pe_int pa_nil)))))
  (pss_cons (ps_for PassesOwn.never rfl (pi_range1 (by rfl) X.m_range (pa_cons (pv 3) pa_nil)) (pg_name (i := 7) scMark.nd rfl (.inl rfl))
  (pss_cons (ps_set (i := 8) scMark.nd rfl (.inl rfl) (by exact (pe_call G__law_pick HR__law_pick (by rfl) X.g__law_pick X.F__law_pick.kp X.b__law_pick .nil pass0 (pa_cons (pv 0) (pa_cons (pe_callB (call_sortedD rfl) (by rfl) X.m_sorted (by decide +kernel) (pa_cons (pe_ix (ix_listK (K := K) rfl) (pv 1) (pv 4) (fun _ _ => rfl)) pa_nil)) pa_nil)))))
  (pss_cons (ps_set (i := 4) scMark.nd rfl (.inl rfl) (by exact (pe_dget HU (pe_ix (ix_listK (K := K) rfl) (pv 1) (pv 4) (fun _ _ => rfl)) (pv 8) (fun _ _ => rfl))))
  (pss_one (ps_set (i := 5) scMark.nd rfl (.inl rfl) (by exact (pe_op op_add_str (pv 5) (pe_ifExp (pt_cmpR op_gt (pv 6) pe_int (nomark _)) (pv 8) (pe_call G__law_pick HR__law_pick (by rfl) X.g__law_pick X.F__law_pick.kp X.b__law_pick .nil pass0 (pa_cons (pv 0) (pa_cons (pe_slice sl_str pe_str po_none (po_some (pv 2))) pa_nil)))))))))))
  (pss_cons (ps_if (pt_cmpR op_eq (pe_call G__law_draw HR__law_draw (by rfl) X.g__law_draw X.F__law_draw.kp X.b__law_draw .nil pass0 (pa_cons (pv 0) (pa_cons pe_int pa_nil))) pe_int (nomark _))
  (pss_one (ps_set (i := 5) scMark.nd rfl (.inl rfl) (by exact (pe_op op_add_str (pe_slice sl_str (pv 5) (po_some pe_int) po_none) (pe_call G__law_pick HR__law_pick (by rfl) X.g__law_pick X.F__law_pick.kp X.b__law_pick .nil pass0 (pa_cons (pv 0) (pa_cons pe_str pa_nil)))))))
  pss_nil)
  (pss_one (ps_ret (by exact (pv 5)))))))), ?_⟩
    have fne : ∀ {H' : Hp}, But pt H H' → TbR H' F ls c := fun b => tb.butP wf.1 pot b
    have sg := cut_let w2 w4
    have gs := okSg_size sg w4
    refine ⟨.ref pt, rfl, .ref pt, rfl, pt, 8, rfl, pot, by decide, by decide, fun d H1 d0 d8 pot1 b1 => ⟨by show 5 ≤ _; rw [sizeLine_eq]; decide, fun L nL => ?_⟩⟩
    have b2 : But pt H (upd H1 L (.lst [.int 0, .int 1, .int 1, .int 2, .int d])) := b1.trans (But.new nL)
    refine ⟨pt, _, rfl, pot1.same (Same.new nL), .inr ⟨L, _, rfl, pot1.ne nL, upd_same, (by show 0 < 5; decide), (by show 5 ≤ 1000; decide), fun x H2 hx pot2 b3 => ?_⟩⟩
    have b4 := b2.trans b3
    obtain ⟨e, he, e7⟩ : ∃ e : Nat, x = .int (e : Int) ∧ e ≤ 7 := by
      simp only [List.mem_cons, List.not_mem_nil, or_false] at hx
      rcases hx with h | h | h | h | h
      · exact ⟨0, h, by decide⟩
      · exact ⟨1, h, by decide⟩
      · exact ⟨1, h, by decide⟩
      · exact ⟨2, h, by decide⟩
      · exact ⟨d.toNat, by rw [h]; congr 1; omega, by omega⟩
    subst he
    refine ⟨1, (e : Int), rfl, rfl, ?_⟩
    refine ⟨_, _, _, rfl, ?_⟩
    refine ⟨.ref pt, rfl, pt, 4, rfl, pot2, by decide, by decide, fun way H3 y0 y4 pot3 b5 => ?_⟩
    have b6 := b4.trans b5
    refine gN ?_
    clear b1 b2 b3 b4 b5 pot1 pot2
    refine ⟨.int (1 + (e : Int)), rfl, _, rfl, by omega, by omega, ?_⟩
    rw [show ((1 : Int) + (e : Int)).toNat = e + 1 by omega]
    refine for_range (lo := 0) (n := e + 1) (fun i σ H' => ∃ (s : Nat) (f : Str) (r7 r8 : Option V), σ = [some (.ref pt), some (.ref F), some (.int (w0 : Int)), some (.int (1 + (e : Int))), some (.int (s : Int)), some (.str f), some (.int way), r7, r8] ∧ PotAt H' pt ∧ But pt H H' ∧ s < c.length ∧ wordD (.str f) = true ∧ f.length = i) ⟨0, "", _, _, rfl, pot3, b6, wf.1, rfl, rfl⟩ ?_ ?_
    · rintro i σ H4 hi ⟨s, f, r7, r8, rfl, pot4, b7, hs, wd, fl⟩
      have tb4 := fne b7
      obtain ⟨a, r, pm, a1, a2, a3⟩ := tb4.row hs
      have kp : (keysR r).Perm (keysR (rowC c s)) := List.Perm.map (fun e : Str × Nat => e.1) pm
      have rl : r.length ≤ 4 := by rw [pm.length_eq]; exact okR_len (row_ok okt s)
      have kl : (keysR r).length = r.length := List.length_map ..
      have r1 : 1 ≤ r.length := by
        rw [pm.length_eq]
        refine List.length_pos_iff.mpr (fu _ ?_)
        unfold rowC
        rw [List.getD_eq_getElem?_getD, List.getElem?_eq_getElem hs]
        exact List.getElem_mem hs
      refine gN ?_
      refine ⟨.ref pt, rfl, .ref F, rfl, .int (s : Int), rfl, F, _, (s : Int), .ref a, rfl, rfl, SqL.of tb4.e, a2, a, rowK r, keysR r, rfl, a3, rowK_keys _, by omega, fun ys S py st nS => ?_⟩
      have yl : ys.length = r.length := by rw [py.length_eq, kl]
      have ylm : (ys.map V.str).length = ys.length := List.length_map ..
      have b8 : But pt H (upd H4 S (.lst (ys.map V.str))) := b7.trans (But.new nS)
      refine ⟨pt, _, rfl, pot4.same (Same.new nS), .inr ⟨S, _, rfl, pot4.ne nS, upd_same, by omega, by omega, fun x H5 hx pot5 b9 => ?_⟩⟩
      have b10 := b8.trans b9
      obtain ⟨z, hz, rfl⟩ := List.mem_map.mp hx
      have zk : z ∈ keysR (rowC c s) := kp.mem_iff.mp (py.mem_iff.mp hz)
      obtain ⟨g, hg⟩ := lkp_has zk
      have zs : z ∈ sgs := List.mem_of_mem_take (okR_in (row_ok okt s) zk)
      have tb5 := fne b10
      obtain ⟨a', r', pm', a1', a2', a3'⟩ := tb5.row hs
      have dg : DGet H5 a' (.str z) (some (.int (g : Int))) := .inl ⟨rowK r', .inr z, a3', rfl, by rw [rowK_val, lkp_perm (nd s hs) pm', hg]; rfl⟩
      refine gN ?_
      refine ⟨.ref F, rfl, .int (s : Int), rfl, F, _, (s : Int), .ref a', rfl, rfl, SqL.of tb5.e, a2', .str z, rfl, a', _, rfl, dg, ?_⟩
      refine gN ?_
      have z1 := sgs_one z zs
      have wz := sgs_word z zs
      have sl1 : f.length + 1 ≤ sizeLine := by rw [sizeLine_eq]; omega
      refine ⟨.str f, rfl, .int way, rfl, way, 0, rfl, rfl, _, rfl, ?_⟩
      by_cases wy : 0 < way
      · rw [decide_eq_true wy]
        refine iteT ⟨.str z, rfl, f, z, rfl, rfl, by omega, ?_⟩
        exact ⟨g, f ++ z, _, _, rfl, pot5, b10, lkp_lt wf hg, word_app wd wz, by rw [str_app_len, z1, fl]⟩
      · rw [decide_eq_false wy]
        have gl : (cutS "abcd" none (some (w0 : Int))).length = w0 := gs
        refine iteF ⟨.ref pt, rfl, .int (w0 : Int), rfl, _, rfl, "abcd", rfl, abcd_len, pt, _, rfl, pot5, .inl ⟨_, rfl, by omega, by omega, fun cc H6 hc pot6 b11 => ?_⟩⟩
        refine ⟨f, ⟨#[cc]⟩, rfl, rfl, by show f.length + 1 ≤ _; omega, ?_⟩
        exact ⟨g, f ++ ⟨#[cc]⟩, _, _, rfl, pot6, b10.trans b11, lkp_lt wf hg, word_app wd (word_one (cut_abcd hc)), by rw [str_app_len, fl]; rfl⟩
    · rintro σ H4 ⟨s, f, r7, r8, rfl, pot4, b7, hs, wd, fl⟩
      refine ⟨.ref pt, rfl, pt, 12, rfl, pot4, by decide, by decide, fun d H5 d0 d8 pot5 b8 => ⟨rfl, _, rfl, ?_⟩⟩
      have b9 := b7.trans b8
      by_cases q : V.int d = V.int 0
      · rw [decide_eq_true q]
        refine iteT ⟨.str f, rfl, _, rfl, f, rfl, (by rw [sizeLine_eq]; omega), .ref pt, rfl, pt, _, rfl, pot5, .inl ⟨"abcd", rfl, by decide +kernel, by decide +kernel, fun cc H6 hc pot6 b10 => ?_⟩⟩
        have e1 : cutS f (some 1) none = sl ((cl f).drop 1) := cut_from f 1
        rw [e1]
        have l1 : (sl ((cl f).drop 1)).length = e := by rw [sl_len, List.length_drop, cl_len, fl]; rfl
        refine ⟨_, ⟨#[cc]⟩, rfl, rfl, by rw [l1, sizeLine_eq]; show e + 1 ≤ _; omega, ?_⟩
        refine gN ?_
        refine ⟨_, rfl, k _ H6 ⟨word_app (word_cut wd) (word_one hc), ?_, ?_⟩ pot6 (b9.trans b10)⟩
        · rw [str_app_len, l1]; show 1 ≤ e + 1; omega
        · rw [str_app_len, l1]; show e + 1 ≤ 8; omega
      · rw [decide_eq_false q]
        exact iteF ⟨.str f, rfl, k f H5 ⟨wd, by omega, by omega⟩ pot5 b9⟩
end
end K88
end

section
set_option maxHeartbeats 4000000
/-! the law: _law_word -/
namespace K88
open PySem PySem.Spec PyProof.Rows L2

/-- what the law walks: allowed, no mark in it -/
def WalkOk (c : Ch) (m f : Str) (g : Nat) : Prop := wordD (.str f) = true ∧ f.length ≤ 8 ∧ ledN c 0 (cl f) = some g ∧ ¬ cl m <:+: cl f
def spWord : Sp := fun vs H Q _ => ∃ (pt F : Addr) (ls : List Addr) (c : Ch) (w : Nat) (m : Str), vs = [.ref pt, .ref F, .str m] ∧ PotAt H pt ∧ TbR H F ls c ∧ WfC c ∧ okT w c ∧ NdT c ∧ 2 ≤ w ∧ w ≤ 4 ∧ okMark m ∧
  ∀ (f : Str) (g : Nat) (H' : Hp), WalkOk c m f g → PotAt H' pt → But pt H H' → Q (.str f) H'
theorem strs_dpa {K : PySem.W.Frag} {H : Hp} : ∀ ys : List Str, DpAll K H (ys.map V.str) (ys.map PyData.str)
  | [] => .nil
  | _ :: ys => .cons (.str _) (strs_dpa ys)
theorem strs_shaped (l : List Str) (ok : ∀ x ∈ l, PyData.strOk x = true) : SeqAt.shaped (.list (l.map PyData.str)) = true := by
  unfold SeqAt.shaped
  rw [Bool.and_eq_true]
  constructor
  · have := can_map (f := fun n : Str => PyData.str n) (l := l) fun x hx => by simp [PyData.canLay0, ok x hx]
    simpa [PyData.canLay0] using this
  · refine decide_eq_true ?_
    have := depth_map (f := PyData.str) (n := 1) (l := l) fun x _ => by simp [PyData.depth]
    simp only [PyData.depth]
    omega
theorem sgs_strOk : ∀ z ∈ sgs, PyData.strOk z = true := by decide +kernel
theorem sel_list {α β : Type} (ys : List α) (d : α) (p : α → Bool) (g : α → β) : ((List.range ys.length).filter fun i => p (ys.getD i d)).map (fun i => g (ys.getD i d)) = (ys.filter p).map g := by
  have e : (List.range ys.length).map (fun i => ys.getD i d) = ys := by
    apply List.ext_getElem
    · simp
    · intro i h1 h2
      simp [List.getD_eq_getElem?_getD, List.getElem?_eq_getElem h2]
  conv => rhs; rw [← e, List.filter_map, List.map_map]
  rfl
section
variable {P : Program} {w : World} {K : PySem.W.Frag} {mg : Str → Option Value} {base : Heap} {ad : Str → Addr} {fd : Str → FuncData}
theorem scWord : FnScope ["_law_pot_here", "_law_lines_here", "_law_mark_word", "_law_found", "_law_here", "_law_turn", "_law_spare", "_law_letter"] ["_law_pot_here", "_law_lines_here", "_law_mark_word"] (defScope sWord) := ⟨rfl, rfl, rfl, by decide +kernel, rfl, by decide +kernel, by decide +kernel⟩
theorem ok_word (X : Tx K mg ad fd) : FnOk P w K mg base CX0 3 (ad "_law_word") (fd "_law_word") ["_law_pot_here", "_law_lines_here", "_law_mark_word"] spWord := by
  have G__law_draw := ok_draw (P := P) (w := w) (base := base) X
  have G__law_pick := ok_pick (P := P) (w := w) (base := base) X
  refine X.F__law_word.ok scWord (fun vs H Q E h => ?_) (fun cdv A outer s H vs Q E hr h => ?_)
  · obtain ⟨pt, F, ls, c, w0, m, rfl, pot, tb, wf, okt, nd, w2, w4, hm, k⟩ := h
    rfl
  · obtain ⟨pt, F, ls, c, w0, m, rfl, pot, tb, wf, okt, nd, w2, w4, hm, k⟩ := h
    have HR__law_draw : Room 1 _ := hr.mono (by decide)
    have HR__law_pick : Room 2 _ := hr
    have HU : (A.deeper (envOfC "_law_word" (defScope sWord) s.heap.objs.size (ad "_law_word") cdv)).units + 1 < cLine := by have := hr.un; omega
    have hu64 : (A.deeper (envOfC "_law_word" (defScope sWord) s.heap.objs.size (ad "_law_word") cdv)).units + 64 < cLine := by have := hr.un; omega
    refine ⟨_, (pss_cons (ps_asg (by exact (pe_tup (pa_cons pe_str (pa_cons pe_int pa_nil)))) (pg_tup rfl (pgs_cons (pg_name (i := 3) scWord.nd rfl (.inr rfl)) (pgs_cons (pg_name (i := 4) scWord.nd rfl (.inl rfl)) pgs_nil))))
  (pss_cons (ps_for PassesOwn.never rfl (pi_range1 (by rfl) X.m_range (pa_cons (pe_call G__law_draw HR__law_draw (by rfl) X.g__law_draw X.F__law_draw.kp X.b__law_draw .nil pass0 (pa_cons (pv 0) (pa_cons pe_int pa_nil))) pa_nil)) (pg_name (i := 5) scWord.nd rfl (.inl rfl))
  (pss_cons (ps_setLc (i := 6) (own := [("_law_letter", 7)]) (g := gName 7) rfl scWord.nd rfl rfl (by rfl) (pi_listK (K := K) rfl (pe_callB (call_sortedD rfl) (by rfl) X.m_sorted (by decide +kernel) (pa_cons (pe_ix (ix_listK (K := K) rfl) (pv 1) (pv 4) (fun _ _ => rfl)) pa_nil))) (blkOk_by (own := [("_law_letter", 7)]) (N := ["_law_pot_here", "_law_lines_here", "_law_mark_word", "_law_found", "_law_here", "_law_turn", "_law_spare", "_law_letter"]) (sc := defScope sWord) (by decide +kernel)) (fun _ _ _ _ _ => pg_name (i := 7) scWord.nd rfl (Or.inl rfl)) (fun _ _ _ _ _ => pts_one (pt_not (pt_val (pe_bmK (K := K) rfl PySem.F.plainAttrs_str PySem.F.slot_str_endswith PySem.F.type_str_endswith mt_endswith (pe_op op_add_str (pv 3) (pv 7)) (pa_cons (pv 2) pa_nil))))) (fun _ _ _ _ _ => (pv 7)))
  (pss_one (ps_if (pt_cmpR (op_neD hu64) (pv 6) (pe_lst pa_nil) (nomark _))
  (pss_cons (ps_set (i := 7) scWord.nd rfl (.inl rfl) (by exact (pe_call G__law_pick HR__law_pick (by rfl) X.g__law_pick X.F__law_pick.kp X.b__law_pick .nil pass0 (pa_cons (pv 0) (pa_cons (pv 6) pa_nil)))))
  (pss_one (ps_asg (by exact (pe_tup (pa_cons (pe_op op_add_str (pv 3) (pv 7)) (pa_cons (pe_dget HU (pe_ix (ix_listK (K := K) rfl) (pv 1) (pv 4) (fun _ _ => rfl)) (pv 7) (fun _ _ => rfl)) pa_nil)))) (pg_tup rfl (pgs_cons (pg_name (i := 3) scWord.nd rfl (.inr rfl)) (pgs_cons (pg_name (i := 4) scWord.nd rfl (.inl rfl)) pgs_nil))))))
  pss_nil))))
  (pss_one (ps_ret (by exact (pv 3)))))), ?_⟩
    have fne : ∀ {H' : Hp}, But pt H H' → TbR H' F ls c := fun b => tb.butP wf.1 pot b
    have m8 := hm.2.2
    refine ⟨by show 2 ≤ _; rw [sizeLine_eq]; decide, fun t nt => ?_⟩
    refine ⟨t, _, rfl, SqT.of upd_same, rfl, _, _, rfl, _, _, rfl, rfl, ?_⟩
    have b0 : But pt H (upd H t (.tup [.str "", .int 0])) := But.new nt
    have pot0 := pot.same (Same.new (o := .tup [.str "", .int 0]) nt)
    generalize upd H t (.tup [.str "", .int 0]) = H0 at b0 pot0 ⊢
    refine ⟨.ref pt, rfl, pt, 9, rfl, pot0, by decide, by decide, fun n9 H1 d0 d8 pot1 b1' => ?_⟩
    have b1 := b0.trans b1'
    refine ⟨_, rfl, by omega, by omega, ?_⟩
    refine for_range (lo := 0) (n := n9.toNat) (fun i σ H' => ∃ (s : Nat) (f : Str) (r5 r6 r7 : Option V), σ = [some (.ref pt), some (.ref F), some (.str m), some (.str f), some (.int (s : Int)), r5, r6, r7] ∧ PotAt H' pt ∧ But pt H H' ∧ WalkOk c m f s ∧ f.length ≤ i) ⟨0, "", _, _, _, rfl, pot1, b1, ⟨rfl, by decide, rfl, fun q => hm.ne (List.infix_nil.mp q)⟩, Nat.le_refl 0⟩ ?_ ?_
    · rintro i σ H4 hi ⟨s, f, r5, r6, r7, rfl, pot4, b7, ⟨wd, f8, lf, nf⟩, fl⟩
      have hs : s < c.length := ledN_lt wf wf.1 lf
      have tb4 := fne b7
      obtain ⟨a, r, pm, a1, a2, a3⟩ := tb4.row hs
      have kp : (keysR r).Perm (keysR (rowC c s)) := List.Perm.map (fun e : Str × Nat => e.1) pm
      have rl : r.length ≤ 4 := by rw [pm.length_eq]; exact okR_len (row_ok okt s)
      have kl : (keysR r).length = r.length := List.length_map ..
      refine gN ?_
      refine ⟨.ref F, rfl, .int (s : Int), rfl, F, _, (s : Int), .ref a, rfl, rfl, SqL.of tb4.e, a2, a, rowK r, keysR r, rfl, a3, rowK_keys _, by omega, fun ys S py st nS => ?_⟩
      have yl : ys.length = r.length := by rw [py.length_eq, kl]
      have zin : ∀ z ∈ ys, z ∈ sgs ∧ z ∈ keysR (rowC c s) := fun z hz => by
        have zk : z ∈ keysR (rowC c s) := kp.mem_iff.mp (py.mem_iff.mp hz)
        exact ⟨List.mem_of_mem_take (okR_in (row_ok okt s) zk), zk⟩
      have b8 : But pt H (upd H4 S (.lst (ys.map V.str))) := b7.trans (But.new nS)
      have pot5 := pot4.same (Same.new (o := .lst (ys.map V.str)) nS)
      have eS : (upd H4 S (.lst (ys.map V.str))) S = some (.lst (ys.map V.str)) := upd_same
      generalize upd H4 S (.lst (ys.map V.str)) = H5 at b8 pot5 eS ⊢
      clear b7 pot4 tb4 a3 nS
      refine ⟨S, rfl, ⟨_, SqL.of eS⟩, fun D nD => ?_⟩
      have ylm : (ys.map V.str).length = ys.length := List.length_map ..
      refine lc_sel (w := walk_list (K := K) (a := S) (xs := ys.map V.str)) (fun j => !Txt.endswith (f ++ ys.getD j "") m) (fun j => V.str (ys.getD j "")) nD (by rw [ylm]; omega) (fun j H' _ s => SqL.of (s _ _ eS)) (fun _ => rfl) (fun j x H6 H7 hj s6 y => ?_) (fun H6 s6 eD => ?_)
      · obtain ⟨rfl, hx⟩ := y
        rw [ylm] at hj
        have hj2 : ys[j]? = some (ys.getD j "") := by rw [List.getD_eq_getElem?_getD, List.getElem?_eq_getElem hj]; rfl
        rw [List.getElem?_map, hj2] at hx
        cases hx
        generalize ys.getD j "" = z at hj2
        have z1 := sgs_one z (zin z (List.mem_of_getElem? hj2)).1
        refine ⟨Same.refl, fun Q' hQ => ?_, fun H8 Q' s8 _ hQ => ⟨_, rfl, hQ _ Same.refl⟩⟩
        refine ⟨.str f, rfl, .str z, rfl, f, z, rfl, rfl, (by rw [sizeLine_eq]; omega), rfl, .str m, rfl, f ++ z, m, rfl, rfl, _, rfl, hQ _ Same.refl⟩
      · rw [ylm, sel_list ys "" (fun z => !Txt.endswith (f ++ z) m) V.str] at eD
        have zs2 : ∀ z ∈ ys.filter (fun z => !Txt.endswith (f ++ z) m), z ∈ ys ∧ ¬ cl m <:+ cl (f ++ z) := fun z hz => by
          obtain ⟨h1, h2⟩ := List.mem_filter.mp hz
          refine ⟨h1, fun q => ?_⟩
          rw [Bool.not_eq_true', ← Bool.not_eq_true, ends_iff] at h2
          exact h2 q
        have ll : (ys.filter (fun z => !Txt.endswith (f ++ z) m)).length ≤ ys.length := List.length_filter_le ..
        generalize ys.filter (fun z => !Txt.endswith (f ++ z) m) = L at eD zs2 ll
        have b9 := b8.trans (But.same s6)
        have pot6 := pot5.same s6
        refine ⟨.ref D, rfl, by show 0 ≤ _; omega, fun E nE => ?_⟩
        refine ⟨.list (L.map PyData.str), .list [], .lst (SqL.of (Same.new nE _ _ eD)) (strs_dpa L), .lst (SqL.of upd_same) .nil, strs_shaped L (fun z hz => sgs_strOk z (zin z (zs2 z hz).1).1), rfl, _, rfl, ?_⟩
        have b10 := b9.trans (But.new (o := .lst []) nE)
        have pot7 := pot6.same (Same.new (o := .lst []) nE)
        have eD7 := Same.new (o := .lst []) nE _ _ eD
        generalize upd H6 E (.lst []) = H7 at b10 pot7 eD7 ⊢
        cases L with
        | nil => exact iteF ⟨s, f, _, _, _, rfl, pot7, b10, ⟨wd, f8, lf, nf⟩, by omega⟩
        | cons z0 L0 =>
          refine iteT ⟨.ref pt, rfl, .ref D, rfl, pt, _, rfl, pot7, .inr ⟨D, _, rfl, pot5.ne nD, eD7, by rw [List.length_map]; show 0 < L0.length + 1; omega, by rw [List.length_map]; omega, fun x H8 hx pot8 b11 => ?_⟩⟩
          obtain ⟨z, hz, rfl⟩ := List.mem_map.mp hx
          obtain ⟨zy, zn⟩ := zs2 z hz
          obtain ⟨zs, zk⟩ := zin z zy
          obtain ⟨g, hg⟩ := lkp_has zk
          have z1 := sgs_one z zs
          have wz := sgs_word z zs
          have b12 := b10.trans b11
          have tb8 := fne b12
          obtain ⟨a', r', pm', a1', a2', a3'⟩ := tb8.row hs
          have dg : DGet H8 a' (.str z) (some (.int (g : Int))) := .inl ⟨rowK r', .inr z, a3', rfl, by rw [rowK_val, lkp_perm (nd s hs) pm', hg]; rfl⟩
          have sl1 : f.length + z.length ≤ sizeLine := by rw [sizeLine_eq]; omega
          have cz1 : cl z = [cz z] := congrArg cl (sgs_cz z zs)
          have wk2 : WalkOk c m (f ++ z) g := by
            refine ⟨word_app wd wz, ?_, ?_, ?_⟩
            · rw [str_app_len, z1]; omega
            · rw [cl_app, cz1, ledN_app, lf]
              show ledN c s [cz z] = _
              rw [ledN_one, ← sgs_cz z zs]; exact hg
            · rw [cl_app, cz1] at zn ⊢
              exact fun q => (infix_snoc q).elim nf zn
          refine gN ?_
          refine ⟨.str f, rfl, .str z, rfl, f, z, rfl, rfl, sl1, .ref F, rfl, .int (s : Int), rfl, F, _, (s : Int), .ref a', rfl, rfl, SqL.of tb8.e, a2', .str z, rfl, a', _, rfl, dg, (by show 2 ≤ _; rw [sizeLine_eq]; decide), fun t nt => ?_⟩
          refine ⟨t, _, rfl, SqT.of upd_same, rfl, _, _, rfl, _, _, rfl, rfl, ?_⟩
          exact ⟨g, f ++ z, _, _, _, rfl, pot8.same (Same.new nt), b12.trans (But.new nt), wk2, by rw [str_app_len, z1]; omega⟩
    · rintro σ H4 ⟨s, f, r5, r6, r7, rfl, pot4, b7, wk, fl⟩
      exact ⟨.str f, rfl, k f s H4 wk pot4 b7⟩
end
end K88
end

section
set_option maxHeartbeats 4000000
/-! the words of the law -/
namespace K88
open PySem PySem.Spec PyProof.Rows L2
def wdsV (f : List (List Str)) : List V := f.map fun u => V.str (catL u)
theorem words_len {w : Nat} (h : w ≤ 4) : ∀ k, k ≤ 6 → (wordsW w k).length ≤ (k + 1) * 4096
  | 0, _ => by show 1 ≤ _; decide
  | k + 1, hk => by
    have ih := words_len h k (by omega)
    have l := layer_len w h (k + 1)
    have p : w ^ (k + 1) ≤ 4096 := Nat.le_trans (Nat.pow_le_pow_left h _) (Nat.le_trans (Nat.pow_le_pow_right (by decide) hk) (by decide))
    show (wordsW w k ++ layerW w (k + 1)).length ≤ _
    rw [List.length_append, l]
    omega
theorem wdsV_len (f : List (List Str)) : (wdsV f).length = f.length := by unfold wdsV; rw [List.length_map]
theorem wdsV_app (f g : List (List Str)) : wdsV (f ++ g) = wdsV f ++ wdsV g := by unfold wdsV; rw [List.map_append]
def spWords : Sp := fun vs H Q _ => ∃ (w L : Nat), vs = [.int (w : Int), .int (L : Int)] ∧ 2 ≤ w ∧ w ≤ 4 ∧ L ≤ 6 ∧ ∀ (D : Addr) (H' : Hp), Same H H' → H D = none → H' D = some (.lst (wdsV (wordsW w L))) → Q (.ref D) H'
section
variable {P : Program} {w : World} {K : PySem.W.Frag} {mg : Str → Option Value} {base : Heap} {ad : Str → Addr} {fd : Str → FuncData}
theorem scWords : FnScope ["_law_width", "_law_length", "_law_found", "_law_layer", "_law_turn", "_law_longer", "_law_word_here", "_law_letter"] ["_law_width", "_law_length"] (defScope sWords) := ⟨rfl, rfl, rfl, by decide +kernel, rfl, by decide +kernel, by decide +kernel⟩
theorem ok_words (X : Tx K mg ad fd) : FnOk P w K mg base CX0 1 (ad "_law_words") (fd "_law_words") ["_law_width", "_law_length"] spWords := by
  refine X.F__law_words.ok scWords (fun vs H Q E h => ?_) (fun cdv A outer s H vs Q E hr h => ?_)
  · obtain ⟨w, L, rfl, w2, w4, l6, k⟩ := h
    rfl
  · obtain ⟨w, L, rfl, w2, w4, l6, k⟩ := h
    refine ⟨_, (pss_cons (ps_par (i := 2) (j := 3) rfl scWords.nd rfl rfl (by decide) rfl rfl (by exact (pa_cons (pe_lst (pa_cons pe_str pa_nil)) (pa_cons (pe_lst (pa_cons pe_str pa_nil)) pa_nil))) (by rfl))
  (pss_cons (ps_for PassesOwn.never rfl (pi_range1 (by rfl) X.m_range (pa_cons (pv 1) pa_nil)) (pg_name (i := 4) scWords.nd rfl (.inl rfl))
  (pss_cons (ps_set (i := 5) scWords.nd rfl (.inl rfl) (by exact (pe_lst pa_nil)))
  (pss_cons (ps_for PassesOwn.never rfl (pi_list (pv 3)) (pg_name (i := 6) scWords.nd rfl (.inr rfl))
  (pss_one (ps_expr (by exact (pe_bm PySem.F.plainAttrs_list PySem.F.slot_list_extend PySem.F.type_list_extend mt_extend (pv 5) (pa_cons (pe_lc (own := [("_law_letter", 7)]) (g := gName 7) rfl scWords.nd (pi_str (pe_slice sl_str pe_str po_none (po_some (pv 0)))) (blkOk_by (own := [("_law_letter", 7)]) (N := ["_law_width", "_law_length", "_law_found", "_law_layer", "_law_turn", "_law_longer", "_law_word_here", "_law_letter"]) (sc := defScope sWords) (by decide +kernel)) (fun _ _ _ _ _ => pg_name (i := 7) scWords.nd rfl (Or.inl rfl)) (fun _ _ _ _ _ => pts_nil) (fun _ _ _ _ _ => (pe_op op_add_str (pv 6) (pv 7)))) pa_nil))))))
  (pss_one (ps_par (i := 2) (j := 3) rfl scWords.nd rfl rfl (by decide) rfl rfl (by exact (pa_cons (pe_op op_cat (pv 2) (pv 5)) (pa_cons (pv 5) pa_nil))) (by rfl))))))
  (pss_one (ps_ret (by exact (pv 2)))))), ?_⟩
    have sg := cut_let w2 w4
    have gs := okSg_size sg w4
    refine ⟨sz1, fun F0 nF => ⟨sz1, fun Y0 nY => ⟨_, _, rfl, ?_⟩⟩⟩
    have s1 : Same H (upd (upd H F0 (.lst [.str ""])) Y0 (.lst [.str ""])) := Same.trans (Same.new nF) (Same.new nY)
    have eF : (upd (upd H F0 (.lst [.str ""])) Y0 (.lst [.str ""])) F0 = some (.lst (wdsV (wordsW w 0))) := Same.new nY _ _ upd_same
    have eY : (upd (upd H F0 (.lst [.str ""])) Y0 (.lst [.str ""])) Y0 = some (.lst (wdsV (layerW w 0))) := upd_same
    generalize (upd (upd H F0 (.lst [.str ""])) Y0 (.lst [.str ""])) = H1 at s1 eF eY ⊢
    refine ⟨.int (L : Int), rfl, (L : Int), rfl, by omega, by omega, ?_⟩
    refine for_range (lo := 0) (n := ((L : Int)).toNat) (fun i σ H' => ∃ (Fd Ly : Addr) (r4 r5 r6 r7 : Option V), σ = [some (.int (w : Int)), some (.int (L : Int)), some (.ref Fd), some (.ref Ly), r4, r5, r6, r7] ∧ Same H H' ∧ H Fd = none ∧ H' Fd = some (.lst (wdsV (wordsW w i))) ∧ H' Ly = some (.lst (wdsV (layerW w i)))) ⟨F0, Y0, _, _, _, _, rfl, s1, nF, eF, eY⟩ ?_ ?_
    · rintro i σ H2 hi ⟨Fd, Ly, r4, r5, r6, r7, rfl, s2, nFd, eF2, eY2⟩
      have i6 : i + 1 ≤ 6 := by omega
      refine gN ?_
      refine ⟨(by show 0 ≤ sizeLine; omega), fun Lo nLo => ?_⟩
      refine gN ?_
      have eL3 : (upd H2 Lo (.lst [])) Lo = some (.lst (wdsV (((layerW w i).take 0).flatMap fun u => (sgs.take w).map fun z => u ++ [z]))) := upd_same
      have s23 : Same H2 (upd H2 Lo (.lst [])) := Same.new nLo
      generalize (upd H2 Lo (.lst [])) = H3 at s23 eL3 ⊢
      have ll := layer_len w w4 i
      have ll2 := layer_len w w4 (i + 1)
      have pw : w ^ (i + 1) ≤ 4096 := Nat.le_trans (Nat.pow_le_pow_left w4 _) (Nat.le_trans (Nat.pow_le_pow_right (by decide) i6) (by decide))
      refine ⟨.ref Ly, rfl, Ly, rfl, ⟨_, SqL.of (s23 _ _ eY2)⟩, ?_⟩
      refine for_it (w := walk_list (K := K) (a := Ly) (xs := wdsV (layerW w i))) (fun j σ H' => ∃ (r6 r7 : Option V), σ = [some (.int (w : Int)), some (.int (L : Int)), some (.ref Fd), some (.ref Ly), some (.int (0 + (i : Int))), some (.ref Lo), r6, r7] ∧ Same H2 H' ∧ H' Lo = some (.lst (wdsV (((layerW w i).take j).flatMap fun u => (sgs.take w).map fun z => u ++ [z])))) ⟨_, _, rfl, s23, eL3⟩ (fun j σ H' _ ⟨_, _, _, s, _⟩ => SqL.of (s _ _ eY2)) ?_ ?_
      · rintro j x σ H' H4 hj ⟨r6, r7, rfl, s4, eL4⟩ ⟨e0, hx⟩
        subst e0
        rw [wdsV_len] at hj
        obtain ⟨u, hu⟩ : ∃ u, (layerW w i)[j]? = some u := ⟨_, List.getElem?_eq_getElem hj⟩
        have ex : x = V.str (catL u) := by
          unfold wdsV at hx
          rw [List.getElem?_map, hu] at hx
          exact (Option.some.inj hx).symm
        subst ex
        obtain ⟨lu, su⟩ := layer_mem (List.mem_of_getElem? hu)
        refine gN ?_
        refine ⟨.ref Lo, rfl, .inl ⟨rfl, _, SqL.of eL4⟩, .int (w : Int), rfl, (w : Int), rfl, "abcd", rfl, abcd_len, _, rfl, fun D nD => ?_⟩
        refine lc_map (w := walk_str (z := cutS "abcd" none (some (w : Int)))) (fun m => V.str (catL (u ++ [(sgs.take w).getD m ""]))) nD (by rw [gs]; omega) (fun _ _ _ _ => True.intro) (fun _ => rfl) (fun m x H5 H6 hm s5 y => ?_) (fun H5 s5 eD => ?_)
        · obtain ⟨rfl, cc, hcc, rfl⟩ := y
          have hz := okSg_at sg hcc
          refine ⟨Same.refl, fun Q' hQ => ?_⟩
          have q := hQ _ Same.refl
          rw [List.getD_eq_getElem?_getD, hz, cat_snoc] at q
          have z1 := sgs_one _ (List.mem_of_mem_take (List.mem_of_getElem? hz))
          refine ⟨.str (catL u), rfl, .str ⟨#[cc]⟩, rfl, catL u, (⟨#[cc]⟩ : Str), rfl, rfl, ?_, q⟩
          rw [cat_len su, z1, lu, sizeLine_eq]; omega
        · rw [gs] at eD
          have ed : (List.range w).map (fun m => V.str (catL (u ++ [(sgs.take w).getD m ""]))) = wdsV ((sgs.take w).map fun z => u ++ [z]) := by
            unfold wdsV
            rw [List.map_map]
            have lw : (sgs.take w).length = w := by rw [List.length_take]; exact Nat.min_eq_left w4
            have := range_map (l := sgs.take w) (f := fun m => V.str (catL (u ++ [(sgs.take w).getD m ""]))) (g := fun z => V.str (catL (u ++ [z]))) fun m z hz => by rw [List.getD_eq_getElem?_getD, hz]; rfl
            rw [lw] at this
            exact this
          rw [ed] at eD
          have eL5 := s5 _ _ eL4
          have tk : (layerW w i).take (j + 1) = (layerW w i).take j ++ [u] := by rw [List.take_add_one, hu]; rfl
          have lt1 : (((layerW w i).take j).flatMap fun u => (sgs.take w).map fun z => u ++ [z]).length ≤ w ^ (i + 1) := by
            rw [← ll2]
            show _ ≤ ((layerW w i).flatMap fun u => (sgs.take w).map fun z => u ++ [z]).length
            conv => rhs; rw [← List.take_append_drop j (layerW w i)]
            rw [List.flatMap_append, List.length_append]
            omega
          refine ⟨Lo, D, _, _, rfl, rfl, eL5, eD, ?_, _, _, rfl, fun b o e => ?_, ?_⟩
          · rw [wdsV_len, wdsV_len, List.length_map, List.length_take, sizeLine_eq]
            have : min w sgs.length ≤ 4 := Nat.le_trans (Nat.min_le_left ..) w4
            omega
          · rw [upd_ne (ne_of_none e nLo)]
            exact s5 _ _ (s4 _ _ e)
          · rw [upd_same, tk, List.flatMap_append, wdsV_app]
            congr 3
            simp
      · rintro σ H4 ⟨r6, r7, rfl, s4, eL4⟩
        rw [wdsV_len, List.take_length] at eL4
        have wl := words_len w4 i (by omega)
        have eF4 := s4 _ _ eF2
        refine ⟨.ref Fd, rfl, .ref Lo, rfl, Fd, Lo, _, _, rfl, rfl, eF4, eL4, ?_, fun C nC => ⟨.ref Lo, rfl, ?_⟩⟩
        · rw [wdsV_len, wdsV_len, sizeLine_eq]
          have : ((layerW w i).flatMap fun u => (sgs.take w).map fun z => u ++ [z]).length = w ^ (i + 1) := ll2
          omega
        have s24 := Same.trans s2 s4
        refine ⟨_, _, rfl, C, Lo, _, _, _, _, rfl, Same.trans s24 (Same.new nC), none_back s24 nC, ?_, Same.new nC _ _ eL4⟩
        rw [upd_same, ← wdsV_app]; rfl
    · rintro σ H2 ⟨Fd, Ly, r4, r5, r6, r7, rfl, s2, nFd, eF2, eY2⟩
      rw [show ((L : Int)).toNat = L by omega] at eF2
      exact ⟨.ref Fd, rfl, k Fd H2 s2 nFd eF2⟩
end
end K88
end

section
set_option maxHeartbeats 4000000
/-! the law: _law_join -/
namespace K88
open PySem PySem.Spec PyProof.Rows L2

theorem bord_end {m x : NL} (n : ¬ m <:+ x) : bord m (x.drop (x.length + 1 - m.length)) = bord m x := by
  by_cases h : m.length ≤ x.length + 1
  · exact bord_drop1 (by omega) n
  · rw [show x.length + 1 - m.length = 0 by omega]; rfl
theorem endsJ {b : NL} {z m : Str} (hz : z ∈ sgs) (hb : b.length < m.length) : Txt.endswith (sl b ++ z) m = decide (b ++ [cz z] = cl m) := by
  have cz1 : cl z = [cz z] := congrArg cl (sgs_cz z hz)
  rw [Bool.eq_iff_iff, ends_iff, decide_eq_true_iff, cl_app, cl_sl, cz1]
  constructor
  · intro h
    exact (h.eq_of_length_le (by rw [List.length_append, cl_len]; show b.length + 1 ≤ _; omega)).symm
  · intro h
    rw [h]; exact List.suffix_refl _
theorem strOk_sub {m : Str} {l : NL} (hm : wordD (.str m) = true) (h : ∀ a ∈ l, a ∈ cl m) : PyData.strOk (sl l) = true := by
  have small : ∀ a ∈ cl "abcd", a < 1114112 := by decide
  unfold PyData.strOk
  rw [Array.all_eq_true_iff_forall_mem]
  intro a ha
  have ha : a ∈ l := Array.mem_toList_iff.mpr ha
  have q : sgn a = true := List.all_eq_true.mp (show (cl m).all sgn = true from hm) a (h a ha)
  exact decide_eq_true (small a (of_decide_eq_true q))
def dJ (u : Nd) : PyData := .tuple [.int ((u.1 : Nat) : Int), .str (sl u.2)]
theorem dJ_eqv (u v : Nd) : PyData.eqv (dJ u) (dJ v) = decide (u = v) := by
  unfold dJ
  simp only [PyData.eqv, PyData.eqvAll]
  rw [Bool.eq_iff_iff]
  simp only [Bool.and_eq_true, decide_eq_true_eq, beq_iff_eq, Bool.and_true]
  constructor
  · intro h
    have h2 := congrArg cl h.2
    rw [cl_sl, cl_sl] at h2
    exact Prod.ext (by have := h.1; omega) h2
  · intro h; rw [h]; exact ⟨rfl, rfl⟩
theorem dJ_shaped {u : Nd} (h : PyData.strOk (sl u.2) = true) : SeqAt.shaped (dJ u) = true := by
  unfold SeqAt.shaped dJ
  rw [Bool.and_eq_true]
  constructor
  · simp [PyData.canLay0, PyData.canLayAll0, h]
  · refine decide_eq_true ?_
    simp only [PyData.depth, PyData.depthAll]
    omega
theorem ord_shaped {o : List Nd} (h : ∀ u ∈ o, PyData.strOk (sl u.2) = true) : SeqAt.shaped (.list (o.map dJ)) = true := by
  unfold SeqAt.shaped
  rw [Bool.and_eq_true]
  constructor
  · have := can_map (f := dJ) (l := o) fun u hu => by unfold dJ; simp [PyData.canLay0, PyData.canLayAll0, h u hu]
    simpa [PyData.canLay0] using this
  · refine decide_eq_true ?_
    have := depth_map (f := dJ) (n := 2) (l := o) fun x _ => by unfold dJ; simp [PyData.depth, PyData.depthAll]
    simp only [PyData.depth]
    omega
theorem ord_any (o : List Nd) (u : Nd) : ((o.map dJ).any fun z => PyData.eqv z (dJ u)) = decide (u ∈ o) := by
  rw [List.any_map, Bool.eq_iff_iff, List.any_eq_true, decide_eq_true_eq]
  constructor
  · rintro ⟨v, hv, h⟩
    have h : PyData.eqv (dJ v) (dJ u) = true := h
    rw [dJ_eqv] at h
    rw [← of_decide_eq_true h]; exact hv
  · intro h
    exact ⟨u, h, by show PyData.eqv (dJ u) (dJ u) = true; rw [dJ_eqv]; exact decide_eq_true rfl⟩
theorem dpa_of {K : PySem.W.Frag} {H : Hp} {α : Type} {f : α → PyData} : ∀ {ts : List Addr} {o : List α}, ts.length = o.length → (∀ (j : Nat) (t : Addr), ts[j]? = some t → ∃ e, o[j]? = some e ∧ Dp K H (.ref t) (f e)) → DpAll K H (ts.map V.ref) (o.map f)
  | [], [], _, _ => .nil
  | [], _ :: _, l, _ => by cases l
  | _ :: _, [], l, _ => by cases l
  | t :: ts, e :: o, l, h => by
    obtain ⟨e', h1, h2⟩ := h 0 t rfl
    cases h1
    exact .cons h2 (dpa_of (by injection l) fun j t' q => h (j + 1) t' q)
structure OrdL (H : Hp) (O Fd : Addr) (o : Ord Nd) (ts : List Addr) : Prop where
  e : H O = some (.lst (ts.map V.ref))
  l : ts.length = o.length
  k : ∀ (j : Nat) (t : Addr), ts[j]? = some t → ∃ u, o[j]? = some u ∧ H t = some (.tup [.int ((u.1.1 : Nat) : Int), .str (sl u.1.2)])
  f : H Fd = some (.lst (o.map fun u => V.str (sl u.2)))
theorem OrdL.same {H H' : Hp} {O Fd : Addr} {o : Ord Nd} {ts : List Addr} (h : OrdL H O Fd o ts) (s : Same H H') : OrdL H' O Fd o ts := ⟨s _ _ h.e, h.l, fun j t q => let ⟨u, h1, h2⟩ := h.k j t q; ⟨u, h1, s _ _ h2⟩, s _ _ h.f⟩
theorem OrdL.dp {K : PySem.W.Frag} {H : Hp} {O Fd : Addr} {o : Ord Nd} {ts : List Addr} (h : OrdL H O Fd o ts) : Dp K H (.ref O) (.list ((o.map (·.1)).map dJ)) := by
  rw [List.map_map]
  refine .lst (SqL.of h.e) (dpa_of (f := dJ ∘ (·.1)) h.l fun j t q => ?_)
  obtain ⟨u, h1, h2⟩ := h.k j t q
  exact ⟨u, h1, .tup (SqT.of h2) (.cons (.int _) (.cons (.str _) .nil))⟩
theorem OrdL.add {H : Hp} {O Fd T : Addr} {o : Ord Nd} {ts : List Addr} (h : OrdL H O Fd o ts) (ne : O ≠ Fd) (u : Nd) (t : NL) (eT : H T = some (.tup [.int ((u.1 : Nat) : Int), .str (sl u.2)])) :
    OrdL (upd (upd H O (.lst (ts.map V.ref ++ [.ref T]))) Fd (.lst ((o.map fun u => V.str (sl u.2)) ++ [.str (sl t)]))) O Fd (o ++ [(u, t)]) (ts ++ [T]) := by
  have far : ∀ {b : Addr} {xs : List V}, H b = some (.tup xs) → (upd (upd H O (.lst (ts.map V.ref ++ [.ref T]))) Fd (.lst ((o.map fun u => V.str (sl u.2)) ++ [.str (sl t)]))) b = some (.tup xs) := fun {b xs} eb => by
    rw [upd_ne (fun z => by rw [z, h.f] at eb; cases eb), upd_ne (fun z => by rw [z, h.e] at eb; cases eb)]
    exact eb
  refine ⟨by rw [upd_ne ne, upd_same, List.map_append]; rfl, by rw [List.length_append, List.length_append, h.l]; rfl, fun j t' q => ?_, by rw [upd_same, List.map_append]; rfl⟩
  by_cases c : j < ts.length
  · rw [List.getElem?_append_left c] at q
    obtain ⟨g', h1, h2⟩ := h.k j t' q
    exact ⟨g', by rw [List.getElem?_append_left (by have := h.l; omega)]; exact h1, far h2⟩
  · rw [List.getElem?_append_right (by omega)] at q
    obtain ⟨n, hn⟩ : ∃ n, n = j - ts.length := ⟨_, rfl⟩
    rw [← hn] at q
    cases n with
    | zero =>
      cases q
      exact ⟨(u, t), by have := h.l; rw [List.getElem?_append_right (by omega), show j - o.length = 0 by omega]; rfl, far eT⟩
    | succ n => simp at q
theorem via {P R : Prop} (h : P → R) (p : P) : R := h p
def spLJoin : Sp := fun vs H Q _ => ∃ (F : Addr) (ls : List Addr) (c : Ch) (w : Nat) (m x : Str) (v0 : Nat), vs = [.ref F, .str m, .str x] ∧ TbR H F ls c ∧ NdT c ∧ WfC c ∧ okT w c ∧ w ≤ 4 ∧ c.length ≤ 64 ∧ okMark m ∧ wordD (.str x) = true ∧ x.length ≤ 2000 ∧ ledN c 0 (cl x) = some v0 ∧ ¬ cl m <:+: cl x ∧ ∀ H', Same H H' → Q (optT (joinJ c (cl m) (cl x))) H'
section
variable {P : Program} {w : World} {K : PySem.W.Frag} {mg : Str → Option Value} {base : Heap} {ad : Str → Addr} {fd : Str → FuncData}
theorem scLawJoin : FnScope ["_law_lines_here", "_law_mark_word", "_law_word_here", "_law_begin", "_law_order", "_law_found", "_law_at", "_law_spot", "_law_near", "_law_letter", "_law_goal"] ["_law_lines_here", "_law_mark_word", "_law_word_here"] (defScope sLawJoin) := ⟨rfl, rfl, rfl, by decide +kernel, rfl, by decide +kernel, by decide +kernel⟩
theorem ok_lawjoin (X : Tx K mg ad fd) : FnOk P w K mg base CX0 3 (ad "_law_join") (fd "_law_join") ["_law_lines_here", "_law_mark_word", "_law_word_here"] spLJoin := by
  have G__law_walked := ok_lawwalked (P := P) (w := w) (base := base) X
  have G__law_end := ok_end (P := P) (w := w) (base := base) X
  refine X.F__law_join.ok scLawJoin (fun vs H Q E h => ?_) (fun cdv A outer s H vs Q E hr h => ?_)
  · obtain ⟨F, ls, c, w0, m, x, v0, rfl, tb, nd, wf, okt, w4, cl64, hm, wx, lx, e0, n0, k⟩ := h
    rfl
  · obtain ⟨F, ls, c, w0, m, x, v0, rfl, tb, nd, wf, okt, w4, cl64, hm, wx, lx, e0, n0, k⟩ := h
    have HR__law_walked : Room 1 _ := hr.mono (by decide)
    have HR__law_end : Room 1 _ := hr.mono (by decide)
    have HU : (A.deeper (envOfC "_law_join" (defScope sLawJoin) s.heap.objs.size (ad "_law_join") cdv)).units + 1 < cLine := by have := hr.un; omega
    have hu65 : (A.deeper (envOfC "_law_join" (defScope sLawJoin) s.heap.objs.size (ad "_law_join") cdv)).units + 65 < cLine := by have := hr.un; omega
    refine ⟨_, (pss_cons (ps_set (i := 3) scLawJoin.nd rfl (.inl rfl) (by exact (pe_tup (pa_cons (pe_call G__law_walked HR__law_walked (by rfl) X.g__law_walked X.F__law_walked.kp X.b__law_walked .nil pass0 (pa_cons (pv 0) (pa_cons (pv 2) (pa_cons pe_int pa_nil)))) (pa_cons (pe_call G__law_end HR__law_end (by rfl) X.g__law_end X.F__law_end.kp X.b__law_end .nil pass0 (pa_cons (pv 1) (pa_cons (pv 2) pa_nil))) pa_nil)))))
  (pss_cons (ps_par3 (i := 4) (j := 5) (l := 6) (by rfl) scLawJoin.nd rfl rfl rfl (by decide) (by decide) (by decide) rfl rfl rfl (by exact (pa_cons (pe_lst (pa_cons (pv 3) pa_nil)) (pa_cons (pe_lst (pa_cons pe_str pa_nil)) (pa_cons pe_int pa_nil)))) (by rfl))
  (pss_cons (ps_while PassesOwn.never (pt_cmpR op_lt (pv 6) (pe_callB (call_lenK (K := K) rfl) (by rfl) X.m_len (by decide +kernel) (pa_cons (pv 4) pa_nil)) (nomark _))
  (pss_cons (ps_asg (by exact (pe_ix (ix_listK (K := K) rfl) (pv 4) (pv 6) (fun _ _ => rfl))) (pg_tup rfl (pgs_cons (pg_name (i := 7) scLawJoin.nd rfl (.inl rfl)) (pgs_cons (pg_name (i := 8) scLawJoin.nd rfl (.inl rfl)) pgs_nil))))
  (pss_cons (ps_if (PW.pt (pw_and (pt_cmpR op_notN (pe_call G__law_walked HR__law_walked (by rfl) X.g__law_walked X.F__law_walked.kp X.b__law_walked .nil pass0 (pa_cons (pv 0) (pa_cons (pv 1) (pa_cons (pv 7) pa_nil)))) pe_non (nomark _)) (pw_and1 (pt_cmpR op_notIn_str (pv 1) (pe_slice sl_str (pe_op op_add_str (pv 8) (pv 1)) po_none (po_some (pe_un un_neg pe_int))) rfl))))
  (pss_one (ps_ret (by exact (pe_ix (ix_listK (K := K) rfl) (pv 5) (pv 6) (fun _ _ => rfl)))))
  pss_nil)
  (pss_cons (ps_for PassesOwn.never rfl (pi_list (pe_callB (call_sortedD rfl) (by rfl) X.m_sorted (by decide +kernel) (pa_cons (pe_ix (ix_listK (K := K) rfl) (pv 0) (pv 7) (fun _ _ => rfl)) pa_nil))) (pg_name (i := 9) scLawJoin.nd rfl (.inl rfl))
  (pss_cons (ps_set (i := 10) scLawJoin.nd rfl (.inl rfl) (by exact (pe_tup (pa_cons (pe_dget HU (pe_ix (ix_listK (K := K) rfl) (pv 0) (pv 7) (fun _ _ => rfl)) (pv 9) (fun _ _ => rfl)) (pa_cons (pe_call G__law_end HR__law_end (by rfl) X.g__law_end X.F__law_end.kp X.b__law_end .nil pass0 (pa_cons (pv 1) (pa_cons (pe_op op_add_str (pv 8) (pv 9)) pa_nil))) pa_nil)))))
  (pss_one (ps_if (PW.pt (pw_and (pt_not (pt_val (pe_bmK (K := K) rfl PySem.F.plainAttrs_str PySem.F.slot_str_endswith PySem.F.type_str_endswith mt_endswith (pe_op op_add_str (pv 8) (pv 9)) (pa_cons (pv 1) pa_nil)))) (pw_and1 (pt_cmpR (op_notInD hu65) (pv 10) (pv 4) rfl))))
  (pss_cons (ps_expr (by exact (pe_bm PySem.F.plainAttrs_list PySem.F.slot_list_append PySem.F.type_list_append mt_append (pv 4) (pa_cons (pv 10) pa_nil))))
  (pss_one (ps_expr (by exact (pe_bm PySem.F.plainAttrs_list PySem.F.slot_list_append PySem.F.type_list_append mt_append (pv 5) (pa_cons (pe_op op_add_str (pe_ix (ix_listK (K := K) rfl) (pv 5) (pv 6) (fun _ _ => rfl)) (pv 9)) pa_nil))))))
  pss_nil))))
  (pss_one (ps_set (i := 6) scLawJoin.nd rfl (.inl rfl) (by exact (pe_op op_add (pv 6) pe_int))))))))
  (pss_one (ps_ret (by exact pe_non)))))), ?_⟩
    have m8 := hm.2.2
    have m1 := hm.2.1
    have wm := hm.1
    have mne := hm.ne
    refine ⟨.ref F, rfl, .str x, rfl, F, ls, c, 0, lettersS x, by rw [letters_cat]; rfl, tb, nd, wf, wf.1, letters_in wx, ?_⟩
    rw [show ledL c 0 (lettersS x) = ledN c 0 (cl x) from rfl, e0, show optV (some v0) = V.int (v0 : Int) from rfl]
    refine ⟨.str m, rfl, .str x, rfl, m, x, rfl, m1, by omega, by omega, fun H1 s1 => ?_⟩
    have be : bord (cl m) ((cl x).drop (x.length + 1 - m.length)) = bord (cl m) (cl x) := by
      have := bord_end (m := cl m) (x := cl x) fun q => n0 q.isInfix
      rw [cl_len, cl_len] at this
      exact this
    rw [be]
    refine ⟨by show 2 ≤ _; rw [sizeLine_eq]; decide, fun t0 nt0 => ?_⟩
    refine gN ?_
    refine ⟨.ref t0, rfl, sz1, fun O nO => ⟨sz1, fun Fd nFd => ⟨_, _, _, rfl, ?_⟩⟩⟩
    let Bg : Nd := (v0, bord (cl m) (cl x))
    have sA := Same.trans s1 (Same.new (o := .tup [.int (v0 : Int), .str (sl (bord (cl m) (cl x)))]) nt0)
    have nOH := none_back sA nO
    have sB := Same.trans sA (Same.new (o := .lst [.ref t0]) nO)
    have nFH := none_back sB nFd
    have OF : O ≠ Fd := fun q => by rw [← q, upd_same] at nFd; cases nFd
    have tO : t0 ≠ O := fun q => by rw [← q, upd_same] at nO; cases nO
    have tF : t0 ≠ Fd := fun q => by rw [← q, upd_ne tO, upd_same] at nFd; cases nFd
    have ord0 : OrdL (upd (upd (upd H1 t0 (.tup [.int (v0 : Int), .str (sl (bord (cl m) (cl x)))])) O (.lst [.ref t0])) Fd (.lst [.str ""])) O Fd [(Bg, [])] [t0] := by
      refine ⟨by rw [upd_ne OF, upd_same]; rfl, rfl, fun j t h => ?_, upd_same⟩
      cases j with
      | zero =>
        cases h
        exact ⟨_, rfl, by rw [upd_ne tF, upd_ne tO, upd_same]⟩
      | succ j => simp at h
    have sC := Same.trans sB (Same.new (o := .lst [.str ""]) nFd)
    generalize (upd (upd (upd H1 t0 (.tup [.int (v0 : Int), .str (sl (bord (cl m) (cl x)))])) O (.lst [.ref t0])) Fd (.lst [.str ""])) = H2 at ord0 sC ⊢
    clear sA sB nO nFd s1 nt0
    let N := c.length * (cl m).length
    have N512 : N ≤ 512 := Nat.le_trans (Nat.mul_le_mul cl64 (by rw [cl_len]; exact m8)) (by decide)
    let st := fun (A : Int) (r7 r8 r9 r10 : Option V) => [some (V.ref F), some (V.str m), some (V.str x), some (V.ref t0), some (V.ref O), some (V.ref Fd), some (V.int A), r7, r8, r9, r10]
    refine ⟨fun mm σ H' => ∃ (i : Nat) (o : Ord Nd) (ts : List Addr) (r7 r8 r9 r10 : Option V), σ = st (i : Nat) r7 r8 r9 r10 ∧ mm = N + 1 - i ∧ i ≤ N ∧ Same H H' ∧ OrdL H' O Fd o ts ∧ InvO (stepJ c (cl m)) (accJ c (cl m)) Bg i [] o ∧ bfsO (stepJ c (cl m)) (accJ c (cl m)) (N + 1 - i) i o = joinJ c (cl m) (cl x),
      ⟨N + 1, 0, [(Bg, [])], [t0], _, _, _, _, rfl, rfl, Nat.zero_le _, sC, ord0, InvO.start, by unfold joinJ; rw [e0]; rfl⟩, ?_⟩
    rintro mm σ H6 ⟨i, o, ts, r7, r8, r9, r10, rfl, rfl, iN, s6, ord, inv, go⟩
    have bd : ∀ {p : List (Nat × Nd)} {o : Ord Nd}, InvO (stepJ c (cl m)) (accJ c (cl m)) Bg i p o → o.length ≤ N := fun I => bdJ wf okt mne e0 n0 I
    have ok2 : ∀ {p : List (Nat × Nd)} {o : Ord Nd}, InvO (stepJ c (cl m)) (accJ c (cl m)) Bg i p o → ∀ u ∈ o.map (·.1), PyData.strOk (sl u.2) = true := fun I u hu => by
      obtain ⟨e, he, rfl⟩ := List.mem_map.mp hu
      obtain ⟨_, q, _⟩ := (runs_iff okt mne e0 n0).mp (I.run e he)
      exact strOk_sub wm fun a ha => (bord_pre (cl m) _).subset (by rw [← q]; exact ha)
    have ol := bd inv
    have lp := ord.l
    refine ⟨.int (i : Nat), rfl, .ref O, rfl, .ref O, _, rfl, .inl ⟨_, SqL.of ord.e, rfl⟩, _, _, rfl, rfl, _, rfl, ?_⟩
    rw [List.length_map, lp]
    by_cases hi : i < o.length
    · rw [decide_eq_true (show ((i : Nat) : Int) < ((o.length : Nat) : Int) by omega)]
      obtain ⟨⟨u, t⟩, hu⟩ : ∃ e, o[i]? = some e := ⟨o[i], List.getElem?_eq_getElem hi⟩
      obtain ⟨pa, hpa⟩ : ∃ pa, ts[i]? = some pa := ⟨ts[i]'(by omega), List.getElem?_eq_getElem (by omega)⟩
      obtain ⟨e', he', ep⟩ := ord.k i pa hpa
      rw [hu] at he'
      cases he'
      obtain ⟨ru1, ru2, ru3⟩ := (runs_iff okt mne e0 n0).mp (inv.run _ (List.mem_of_getElem? hu))
      have u1 : u.1 < c.length := ledN_lt wf wf.1 ru1
      have u2 : u.2.length < (cl m).length := by rw [show u.2 = _ from ru2]; exact bord_lt ru3
      have u3 : u.2 <+: cl m := by rw [show u.2 = _ from ru2]; exact bord_pre ..
      have u4 := u2
      rw [cl_len] at u4
      have tl : t.length ≤ 512 := by have := inv.len i _ hu; simp only at this; omega
      refine iteT ⟨_, fun σ' H' h => ⟨N + 1 - (i + 1), by omega, h⟩, .ref O, rfl, .int (i : Nat), rfl, O, _, (i : Nat), .ref pa, rfl, rfl, SqL.of ord.e, atI_nat (by rw [List.getElem?_map, hpa]; rfl), ?_⟩
      refine ⟨pa, _, rfl, SqT.of ep, rfl, _, _, rfl, _, _, rfl, rfl, ?_⟩
      have tb6 := tb.same s6
      refine ⟨.ref F, rfl, .str m, rfl, .int ((u.1 : Nat) : Int), rfl, F, ls, c, u.1, lettersS m, by rw [letters_cat]; rfl, tb6, nd, wf, u1, letters_in wm, ?_⟩
      rw [show ledL c u.1 (lettersS m) = ledN c u.1 (cl m) from rfl]
      have acc : accJ c (cl m) u = ((ledN c u.1 (cl m)).isSome && !infB (cl m) (u.2 ++ cl m).dropLast) := rfl
      have szm : (sl u.2).length + m.length ≤ sizeLine := by rw [sl_len, sizeLine_eq]; omega
      by_cases ac : accJ c (cl m) u = true
      · cases em : ledN c u.1 (cl m) with
        | none =>
          rw [em] at acc
          rw [acc] at ac; cases ac
        | some v =>
          rw [em] at acc
          refine ⟨rfl, _, rfl, ?_⟩
          rw [decide_eq_false (show ¬ optV (some v) = V.non from fun y => by cases y)]
          refine iteT ⟨.str m, rfl, .str (sl u.2), rfl, .str m, rfl, sl u.2, m, rfl, rfl, szm, _, rfl, _, rfl, sl u.2 ++ m, rfl, (by rw [str_app_len, sl_len, sizeLine_eq]; omega), m, _, rfl, rfl, ?_⟩
          rw [cut_m1, show (!(Builtin.Str.occurrences (sl (cl (sl u.2 ++ m)).dropLast) m 0 (sl (cl (sl u.2 ++ m)).dropLast).length 1).isEmpty) = infB (cl m) (cl (sl u.2 ++ m)).dropLast from Bool.eq_iff_iff.mpr ((in_iff _ _).trans infB_iff.symm), cl_app, cl_sl]
          rw [acc] at ac
          have e1 : infB (cl m) (u.2 ++ cl m).dropLast = false := by rw [show (some v).isSome = true from rfl, Bool.true_and, Bool.not_eq_true'] at ac; exact ac
          rw [e1]
          have q : joinJ c (cl m) (cl x) = some t := by
            rw [← go, show N + 1 - i = (N - i) + 1 by omega]
            conv => lhs; unfold bfsO
            rw [hu]
            show (if accJ c (cl m) u = true then some t else _) = _
            rw [if_pos (by rw [acc]; exact ac)]
          rw [q] at k
          refine ⟨_, rfl, ?_⟩
          exact iteT ⟨.ref Fd, rfl, .int (i : Nat), rfl, Fd, _, (i : Nat), .str (sl t), rfl, rfl, SqL.of ord.f, atI_nat (by rw [List.getElem?_map, hu]; rfl), k H6 s6⟩
      have ac2 := Bool.eq_false_iff.mpr ac
      refine' via (fun hX => ?_) ?_
      rotate_left
      cases em : ledN c u.1 (cl m) with
      | none =>
        refine ⟨rfl, _, rfl, ?_⟩
        rw [decide_eq_true (show optV none = V.non from rfl)]
        exact iteF (iteF hX)
      | some v =>
        rw [em] at acc
        refine ⟨rfl, _, rfl, ?_⟩
        rw [decide_eq_false (show ¬ optV (some v) = V.non from fun y => by cases y)]
        refine iteT ⟨.str m, rfl, .str (sl u.2), rfl, .str m, rfl, sl u.2, m, rfl, rfl, szm, _, rfl, _, rfl, sl u.2 ++ m, rfl, (by rw [str_app_len, sl_len, sizeLine_eq]; omega), m, _, rfl, rfl, ?_⟩
        rw [cut_m1, show (!(Builtin.Str.occurrences (sl (cl (sl u.2 ++ m)).dropLast) m 0 (sl (cl (sl u.2 ++ m)).dropLast).length 1).isEmpty) = infB (cl m) (cl (sl u.2 ++ m)).dropLast from Bool.eq_iff_iff.mpr ((in_iff _ _).trans infB_iff.symm), cl_app, cl_sl]
        rw [acc] at ac2
        have e1 : infB (cl m) (u.2 ++ cl m).dropLast = true := by rw [show (some v).isSome = true from rfl, Bool.true_and, Bool.not_eq_false'] at ac2; exact ac2
        rw [e1]
        refine ⟨_, rfl, ?_⟩
        exact iteF hX
      have go2 : bfsO (stepJ c (cl m)) (accJ c (cl m)) (N + 1 - (i + 1)) (i + 1) (addAllO t o (stepJ c (cl m) u)) = joinJ c (cl m) (cl x) := by
        rw [← go, show N + 1 - i = (N + 1 - (i + 1)) + 1 by omega]
        conv => rhs; unfold bfsO
        rw [hu]
        show _ = if accJ c (cl m) u = true then some t else _
        rw [if_neg ac]
      have upS := stepJ_up okt (cl m) u
      obtain ⟨a, r, pm, a1, a2, a3⟩ := tb6.row u1
      have okr := row_ok okt u.1
      have rl := okR_len okr
      have ndr := nd u.1 u1
      refine ⟨.ref F, rfl, .int ((u.1 : Nat) : Int), rfl, F, _, ((u.1 : Nat) : Int), .ref a, rfl, rfl, SqL.of tb6.e, a2, a, rowK r, keysR r, rfl, a3, rowK_keys _, by unfold keysR; rw [List.length_map, pm.length_eq]; exact Nat.lt_of_le_of_lt rl (by decide), fun ys S py stt nS => ?_⟩
      obtain rfl := sorted_keys okr (py.trans (pm.map fun e : Str × Nat => e.1)) stt
      have s67 := Same.trans s6 (Same.new (o := .lst ((keysR (rowC c u.1)).map V.str)) nS)
      have SO : S ≠ O := fun q => by rw [q, ord.e] at nS; cases nS
      have SF : S ≠ Fd := fun q => by rw [q, ord.f] at nS; cases nS
      have ord7 := ord.same (Same.new (o := .lst ((keysR (rowC c u.1)).map V.str)) nS)
      have eS : (upd H6 S (.lst ((keysR (rowC c u.1)).map V.str))) S = some (.lst ((keysR (rowC c u.1)).map V.str)) := upd_same
      generalize (upd H6 S (.lst ((keysR (rowC c u.1)).map V.str))) = H7 at s67 ord7 eS ⊢
      clear py stt nS a3 a2 a1
      refine ⟨S, rfl, ⟨_, SqL.of eS⟩, ?_⟩
      have hstep : stepJ c (cl m) u = (rowC c u.1).filterMap (goJ (cl m) u.2) := rfl
      refine for_it (w := walk_list (K := K) (a := S) (xs := (keysR (rowC c u.1)).map V.str)) (fun j σ H' => ∃ (oj : Ord Nd) (tj : List Addr) (r9 r10 : Option V), σ = st (i : Nat) (some (.int ((u.1 : Nat) : Int))) (some (.str (sl u.2))) r9 r10 ∧ Same H H' ∧ H' S = some (.lst ((keysR (rowC c u.1)).map V.str)) ∧ OrdL H' O Fd oj tj ∧ InvO (stepJ c (cl m)) (accJ c (cl m)) Bg i (((rowC c u.1).take j).filterMap (goJ (cl m) u.2)) oj ∧ oj[i]? = some (u, t) ∧ oj = addAllO t o (((rowC c u.1).take j).filterMap (goJ (cl m) u.2)))
        ⟨o, ts, _, _, rfl, s67, eS, ord7, inv, hu, rfl⟩ (fun j σ H' _ ⟨_, _, _, _, _, _, x, _⟩ => SqL.of x) ?_ ?_
      · rintro j x σ Ha Hb hj ⟨oj, tj, r9, r10, rfl, s8, eS8, ord8, inv8, hu8, eo8⟩ ⟨rfl, hx⟩
        rw [List.getElem?_map, show keysR (rowC c u.1) = (rowC c u.1).map (·.1) from rfl, List.getElem?_map] at hx
        have hj2 : j < (rowC c u.1).length := by rw [List.length_map, show keysR (rowC c u.1) = (rowC c u.1).map (·.1) from rfl, List.length_map] at hj; exact hj
        have he : (rowC c u.1)[j]? = some (rowC c u.1)[j] := List.getElem?_eq_getElem hj2
        have hd : (rowC c u.1).drop j = (rowC c u.1)[j] :: (rowC c u.1).drop (j + 1) := List.drop_eq_getElem_cons hj2
        generalize (rowC c u.1)[j] = e at he hd
        rw [he] at hx
        cases hx
        have me := List.mem_of_getElem? he
        have zs : e.1 ∈ sgs := List.mem_of_mem_take (okR_in okr (List.mem_map_of_mem (f := fun e : Str × Nat => e.1) me))
        have z1 := sgs_one e.1 zs
        have tb8 := tb.same s8
        obtain ⟨a', r', pm', a1', a2', a3'⟩ := tb8.row u1
        have dg : DGet Hb a' (.str e.1) (some (.int ((e.2 : Nat) : Int))) := .inl ⟨rowK r', .inr e.1, a3', rfl, by rw [rowK_val, lkp_perm ndr pm', lkp_at ndr me]; rfl⟩
        have sz8 : (sl u.2).length + e.1.length ≤ sizeLine := by rw [sl_len, z1, sizeLine_eq]; omega
        have len9 : (sl u.2 ++ e.1).length = u.2.length + 1 := by rw [str_app_len, sl_len, z1]
        have ez : cl (sl u.2 ++ e.1) = u.2 ++ [cz e.1] := by rw [cl_app, cl_sl]; congr 1; exact congrArg cl (sgs_cz e.1 zs)
        have tk := take_snoc he
        refine gN ?_
        refine ⟨.ref F, rfl, .int ((u.1 : Nat) : Int), rfl, F, _, ((u.1 : Nat) : Int), .ref a', rfl, rfl, SqL.of tb8.e, a2', .str e.1, rfl, a', _, rfl, dg, .str m, rfl, .str (sl u.2), rfl, .str e.1, rfl, sl u.2, e.1, rfl, rfl, sz8, m, sl u.2 ++ e.1, rfl, m1, by omega, by omega, fun H9 s9 => ⟨by show 2 ≤ _; rw [sizeLine_eq]; decide, fun T nT => ?_⟩⟩
        rw [ez, len9]
        refine gN ?_
        generalize hX : bord (cl m) ((u.2 ++ [cz e.1]).drop (u.2.length + 1 + 1 - m.length)) = X at nT ⊢
        have Xs : PyData.strOk (sl X) = true := strOk_sub wm fun a ha => (bord_pre (cl m) _).subset (by rw [hX]; exact ha)
        have s10 := Same.trans s8 (Same.trans s9 (Same.new (o := .tup [.int ((e.2 : Nat) : Int), .str (sl X)]) nT))
        have ord10 := (ord8.same s9).same (Same.new (o := .tup [.int ((e.2 : Nat) : Int), .str (sl X)]) nT)
        have eS10 := Same.new (o := .tup [.int ((e.2 : Nat) : Int), .str (sl X)]) nT _ _ (s9 _ _ eS8)
        have eT10 : (upd H9 T (.tup [.int ((e.2 : Nat) : Int), .str (sl X)])) T = some (.tup [.int (((e.2, X) : Nd).1 : Int), .str (sl ((e.2, X) : Nd).2)]) := upd_same
        generalize (upd H9 T (.tup [.int ((e.2 : Nat) : Int), .str (sl X)])) = H10 at s10 ord10 eS10 eT10 ⊢
        refine ⟨.str (sl u.2), rfl, .str e.1, rfl, sl u.2, e.1, rfl, rfl, sz8, rfl, .str m, rfl, sl u.2 ++ e.1, m, rfl, rfl, _, rfl, ?_⟩
        rw [endsJ zs u4]
        by_cases q : u.2 ++ [cz e.1] = cl m
        · rw [decide_eq_true q]
          have gn : goJ (cl m) u.2 e = none := if_pos q
          have fm : ((rowC c u.1).take (j + 1)).filterMap (goJ (cl m) u.2) = ((rowC c u.1).take j).filterMap (goJ (cl m) u.2) := by
            rw [tk, List.filterMap_append, List.filterMap_cons, gn]
            exact List.append_nil _
          exact iteF (iteF ⟨oj, tj, _, _, rfl, s10, eS10, ord10, by rw [fm]; exact inv8, hu8, by rw [fm]; exact eo8⟩)
        · rw [decide_eq_false q]
          have eX : X = bord (cl m) (u.2 ++ [cz e.1]) := by
            rw [← hX]
            have := bord_end (m := cl m) (x := u.2 ++ [cz e.1]) fun h => q (h.eq_of_length_le (by rw [List.length_append, cl_len]; show u.2.length + 1 ≤ _; omega)).symm
            rw [List.length_append, cl_len] at this
            exact this
          have gs : goJ (cl m) u.2 e = some (cz e.1, (e.2, X)) := by rw [eX]; exact if_neg q
          have fm : ((rowC c u.1).take (j + 1)).filterMap (goJ (cl m) u.2) = ((rowC c u.1).take j).filterMap (goJ (cl m) u.2) ++ [(cz e.1, (e.2, X))] := by
            rw [tk, List.filterMap_append, List.filterMap_cons, gs]; rfl
          have hsp : stepJ c (cl m) u = ((rowC c u.1).take j).filterMap (goJ (cl m) u.2) ++ (cz e.1, (e.2, X)) :: ((rowC c u.1).drop (j + 1)).filterMap (goJ (cl m) u.2) := by
            rw [hstep]
            conv => lhs; rw [← List.take_append_drop j (rowC c u.1), hd, List.filterMap_append, List.filterMap_cons, gs]
          have upS := stepJ_up okt (cl m) u
          have hgm : ((cz e.1, (e.2, X)) : Nat × Nd) ∈ stepJ c (cl m) u := by rw [hsp]; exact List.mem_append_right _ List.mem_cons_self
          obtain ⟨inv9, hu9⟩ := inv8.add hu8 hgm fun y hy => by
            rw [hsp] at upS
            exact (List.pairwise_append.mp upS).2.2 y hy _ List.mem_cons_self
          rw [← fm] at inv9
          have eo9 : addO t oj (cz e.1, (e.2, X)) = addAllO t o (((rowC c u.1).take (j + 1)).filterMap (goJ (cl m) u.2)) := by
            rw [fm, eo8]
            unfold addAllO
            rw [List.foldl_append]; rfl
          refine iteT ⟨.ref T, rfl, .ref O, rfl, dJ (e.2, X), (oj.map (·.1)).map dJ, .tup (SqT.of eT10) (.cons (.int _) (.cons (.str _) .nil)), ord10.dp, dJ_shaped Xs, ord_shaped (ok2 inv8), ?_⟩
          rw [ord_any]
          by_cases hin : ((e.2, X) : Nd) ∈ oj.map (·.1)
          · rw [decide_eq_true hin]
            refine ⟨_, rfl, iteF ⟨addO t oj (cz e.1, (e.2, X)), tj, _, _, rfl, s10, eS10, ?_, inv9, hu9, eo9⟩⟩
            unfold addO; rw [if_pos hin]; exact ord10
          · rw [decide_eq_false hin]
            have ea : addO t oj (cz e.1, (e.2, X)) = oj ++ [((e.2, X), t ++ [cz e.1])] := if_neg hin
            have ojl : (addO t oj (cz e.1, (e.2, X))).length ≤ N := bd inv9
            rw [ea] at ojl inv9 hu9 eo9
            rw [List.length_append] at ojl
            have l10 := ord10.l
            refine ⟨_, rfl, iteT ⟨.ref O, rfl, .inl ⟨rfl, _, SqL.of ord10.e⟩, .ref T, rfl, O, _, _, rfl, rfl, ord10.e, (by rw [List.length_map, l10, sizeLine_eq]; omega), ?_⟩⟩
            have eF11 : (upd H10 O (.lst (tj.map V.ref ++ [V.ref T]))) Fd = some (.lst (oj.map fun u => V.str (sl u.2))) := by rw [upd_ne (fun z => OF z.symm)]; exact ord10.f
            refine ⟨.ref Fd, rfl, .inl ⟨rfl, _, SqL.of eF11⟩, .ref Fd, rfl, .int (i : Nat), rfl, Fd, _, (i : Nat), .str (sl t), rfl, rfl, SqL.of eF11, atI_nat (by rw [List.getElem?_map, hu8]; rfl), .str e.1, rfl, sl t, e.1, rfl, rfl, (by rw [sl_len, z1, sizeLine_eq]; omega), Fd, _, _, rfl, rfl, eF11, (by rw [List.length_map, sizeLine_eq]; omega), ?_⟩
            have et : sl t ++ e.1 = sl (t ++ [cz e.1]) := cl_ext (by rw [cl_app, cl_sl, cl_sl]; congr 1; exact congrArg cl (sgs_cz e.1 zs))
            rw [et]
            refine ⟨_, _, _, _, rfl, fun b o' eb => ?_, ?_, ord10.add OF (e.2, X) (t ++ [cz e.1]) eT10, inv9, hu9, eo9⟩
            · rw [upd_ne (ne_of_none eb nFH), upd_ne (ne_of_none eb nOH)]
              exact s10 _ _ eb
            · rw [upd_ne SF, upd_ne SO]; exact eS10
      · rintro σ H8 ⟨oj, tj, r9, r10, rfl, s8, eS8, ord8, inv8, hu8, eo8⟩
        rw [List.length_map, show keysR (rowC c u.1) = (rowC c u.1).map (·.1) from rfl, List.length_map, List.take_length] at inv8 eo8
        refine ⟨.int (i : Nat), rfl, (i : Int), 1, rfl, rfl, ?_⟩
        exact ⟨i + 1, oj, tj, _, _, _, _, rfl, rfl, by omega, s8, ord8, inv8.next hu8 rfl ac2, by rw [eo8]; exact go2⟩
    · rw [decide_eq_false (show ¬ ((i : Nat) : Int) < ((o.length : Nat) : Int) by omega)]
      refine iteF ?_
      have q : joinJ c (cl m) (cl x) = none := by
        rw [← go, show N + 1 - i = (N - i) + 1 by omega]
        conv => lhs; unfold bfsO
        rw [List.getElem?_eq_none_iff.mpr (by omega)]
      rw [q] at k
      exact k H6 s6
end
end K88
end

section
set_option maxHeartbeats 4000000
/-! a def handed over without parameters, called where it may raise: what it lets out is told at the slots of the caller -/
namespace K88
open PySem PySem.Spec PyProof.Rows L2 LamX
section
variable {X : Cx} {pins : List (Addr × Obj)} {σ : L2.St} {H HZ : Hp} {s s1 : Shared} {params : Arguments} {body : Expr} {scope : Scope} {f c' : Addr} {pm ctv : Value} {k : Nat}
/-- the function object of the handed lambda -/
abbrev lamO (X : Cx) (params : Arguments) (body : Expr) (scope : Scope) (pm : Value) (c' : Addr) (ctv : Value) : Obj := PySem.W.kla_obj "<lambda>" (X.env.qual ++ "<lambda>") params body scope (cloFrom X.env.cells scope.names []) pm c' ctv
/-- it runs, from any frames above the ones where it was made -/
theorem lam_runs {A : Around} {outer : List Env} {E : XK} {tb : TE} {Q : VK} (I : Inv X pins σ H s) (L : LamS X.env.scope scope) (e0 : Env0 X.prog X.w X.K X.mg X.base A outer s1 HZ) (hA : A.handled = none) (hr : Room (k + 1) A)
    (lim : s1.heap.NoLimit) (un : Un (frs X.stack) [] H HZ s.heap s1.heap) (at_f : s1.heap.get? f = some (lamO X params body scope pm c' ctv)) (code : ∃ (oc : Obj) (vs : Array Value) (t : Tok), s1.heap.get? c' = some oc ∧ oc.data = .fields vs ∧ vs[1]? = some (.str (X.env.qual ++ "<lambda>") t))
    (none_given : bindArgs (PySem.W.kla_fn "<lambda>" (X.env.qual ++ "<lambda>") params body scope (cloFrom X.env.cells scope.names []) pm (.ref c') ctv) ⟨[], []⟩ = pure [])
    (hb : PE (lamCx X A outer s1 HZ E scope f c') body tb) (q : tb σ HZ Q) : codeAny (model X.prog X.w) A (.call (.ref f) ⟨[], []⟩) (CR (L2.CX X.prog X.w) outer X.prog X.w HZ s1 Q E) s1 := by
  obtain ⟨oc, vs, t, g1, g2, g3⟩ := code
  have own : ∀ y ∈ scope.names, y.2 ≠ .cell := fun y hy => (L.own y hy).2
  refine PySem.W.kla_callFunE hr.depth at_f rfl L.co L.gen rfl ⟨c', oc, vs, t, rfl, g1, g2, g3⟩ (none_given ▸ wpAny_pure (wpAny_newFunctionEnv own (fun _ z => nomatch z) (fun h₁ ns sb => ⟨lim.fresh _ sb, PySem.W.kla_codeExpr ?_⟩) L.kind))
  have kp : ∀ b o, s1.heap.get? b = some o → h₁.get? b = some o := fun b o e => sb.extBut b o (Nat.ne_of_lt (Heap.lt_size e)) (Heap.get?_push_of_some _ e)
  have J := lam_start2 (E := E) (f := f) (c' := c') (tk := s1.toks + ([] : List (Str × Value)).length) I L e0 hA un ns kp
  exact wpAny_mono (hb.run [] _ σ HZ Q J q) (fun u s2 ⟨y, H2, J2, ry, q2⟩ => ⟨y, H2, J2.os, J2.bare, J2.base, J2.hok, ry, q2⟩) fun _ _ z => z
/-- x(), x the parameter i of the def that was given it; W: what that place wishes of an exception -/
theorem act_at {CXg : CXT} {Eg : XK} {Ng : List Str} {qg : Str} {sg : Scope} {g : Addr} {cdg : Value} {i : Nat} {a : Str} {pn : List (Addr × Obj)} {xe : Value → Shared → Prop} {W : WX} {tb : XK → TE} {p1 p2 : Pos}
    (I : Inv X pins σ H s) (L : LamS X.env.scope scope) (hf : s.heap.get? f = some (lamO X params body scope pm c' ctv)) (hfn : H f = none) (hfr : f ∉ frs X.stack)
    (none_given : bindArgs (PySem.W.kla_fn "<lambda>" (X.env.qual ++ "<lambda>") params body scope (cloFrom X.env.cells scope.names []) pm (.ref c') ctv) ⟨[], []⟩ = pure [])
    (tk : Takes ((cxOf CXg X.prog X.w X.K X.mg X.base Ng qg sg g cdg X.A X.stack s H Eg).tr pn xe) W) (hr : Room (k + 1) (X.A.deeper (envOfC qg sg s.heap.objs.size g cdg)))
    (hb : ∀ (A : Around) (outer : List Env) (s : Shared) (H : Hp) (E : XK), Room k (A.deeper (lamEnv X scope s.heap.objs.size f c')) → PE (lamCx X A outer s H E scope f c') body (tb E))
    (hN : Ng[i]? = some a) (hv : Vis sg a) (hd : (a == ("__debug__" : Str)) = false := by decide) (hcd : (a == ("__classdict__" : Str)) = false := by decide) :
    PE ((cxOf CXg X.prog X.w X.K X.mg X.base Ng qg sg g cdg X.A X.stack s H Eg).tr pn xe) (.Call (.Name a p1) [] [] p2)
      (fun σZ HZ Q => σZ[i]? = some (some (.ref f)) ∧ HZ c' = some (CodeO c' (X.env.qual ++ "<lambda>")) ∧ tb (WE W σZ) σ HZ Q) := by
  refine ⟨fun pinsZ sZ σZ HZ Q IZ ⟨slot, code, body_⟩ => ?_⟩
  have name := (pe_var (pos := p1) (i := i) hN hv hd hcd).run pinsZ sZ σZ HZ (fun v H1 => v = .ref f ∧ H1 = HZ) IZ ⟨.ref f, slot, rfl, rfl⟩
  refine wpAny_Call_Name_kw (thn name fun u s1 z => ?_)
  obtain ⟨_, _, I1, r1, rfl, rfl⟩ := z
  obtain rfl : u = Value.ref f := r1
  have e0 : Env0 X.prog X.w X.K X.mg X.base (X.A.deeper (envOfC qg sg s.heap.objs.size g cdg)) (envOfC qg sg s.heap.objs.size g cdg :: X.stack) s1 _ := I1.env0
  have un : Un (frs X.stack) [] H _ s.heap s1.heap := I1.base
  have at_f : s1.heap.get? f = some (lamO X params body scope pm c' ctv) := un.keep f _ hf hfn hfr fun z => nomatch (show f ∈ ([] : List Addr) from z)
  obtain ⟨known, _, _⟩ := I1.hok c' _ code
  have run := lam_runs (X := X) (E := WE W σZ) (Q := Q) I L e0 hr.hd hr I1.nolimit un at_f known none_given (hb _ _ s1 _ (WE W σZ) (hr.deeper _)) body_
  refine PySem.W.callWith_F0 ⟨_, _, _, _, at_f⟩ (wpAny_call (codeAny_mono run fun r s' back => ?_))
  match r, back with
  | .error e, back => exact passAt tk σZ pinsZ _ s1 e s' I1 back
  | .ok (.ret u), back => exact I1.after back
end
/-- the def that gets a lambda: TT is what it makes of the lambda's reading, told where its exceptions are awaited -/
def Gives (X : Cx) (Ng : List Str) (x : Str) (sg : Scope) (g : Addr) (cdg : Value) (bg : List Stmt) (a : Str) (q : Str) (TT : (XK → Hp → VK → Prop) → Hp → VK → Prop) : Prop :=
  ∀ (f c' : Addr) (s : Shared) (H : Hp) (Q : VK) (tl : XK → Hp → VK → Prop), H c' = some (CodeO c' q) → TT tl H Q → Room 4 (X.A.deeper (envOfC x sg s.heap.objs.size g cdg)) →
    (∀ (W : WX) (pn : List (Addr × Obj)) (xe : Value → Shared → Prop) (p1 p2 : Pos), Takes ((cxOf C8.CX0 X.prog X.w X.K X.mg X.base Ng x sg g cdg X.A X.stack s H C8.E0).tr pn xe) W →
      PE ((cxOf C8.CX0 X.prog X.w X.K X.mg X.base Ng x sg g cdg X.A X.stack s H C8.E0).tr pn xe) (.Call (.Name a p1) [] [] p2) (fun σZ HZ Q => σZ[0]? = some (some (.ref f)) ∧ HZ c' = some (CodeO c' q) ∧ tl (WE W σZ) HZ Q)) →
    ∃ t, PSs (cxOf C8.CX0 X.prog X.w X.K X.mg X.base Ng x sg g cdg X.A X.stack s H C8.E0).nox bg t ∧ t { nx := fun _ H' => Q .non H', rt := Q } (L2.start Ng [.ref f]) H
section
variable {X : Cx} {T : List (Addr × Str)} {TT : (XK → Hp → VK → Prop) → Hp → VK → Prop} {x a : Str} {g c P : Addr} {k : Nat} {st : Stmt} {fd : FuncData} {Ng : List Str} {params : Arguments} {body : Expr} {scope : Scope} {t : XK → TE} {p lpos pos : Pos}
/-- x(lambda: body) -/
theorem lam_given (F : Fun X.K x x st g fd) (hg : Gl X x) (hm : X.mg x = some (.ref g)) (b : Binds X.K fd [a] []) (S : FnScope Ng [a] (defScope st)) (hN : Ng[0]? = some a) (hv : Vis (defScope st) a)
    (hG : ∀ cdv, Gives X Ng x (defScope st) g cdv (defBody st) a (X.env.qual ++ "<lambda>") TT) (TB : TabB X.base X.mg c P) (hc : X.env.code = .ref c) (hT : (P, X.env.qual ++ "<lambda>") ∈ T) (hu : ∀ p ∈ T, p.1 = P → p.2 = X.env.qual ++ "<lambda>")
    (hr : Room (k + 5) X.A) (L : LamS X.env.scope scope) (hdef : defaultsOf params X.env = ([], []))
    (none_given : ∀ (q : Str) (cl : List (Str × Addr)) (pm cv ctv : Value), bindArgs (PySem.W.kla_fn "<lambda>" q params body scope cl pm cv ctv) ⟨[], []⟩ = pure [])
    (hb : ∀ (A : Around) (outer : List Env) (s : Shared) (H : Hp) (E : XK) (f c' : Addr), Room (k + 3) (A.deeper (lamEnv X scope s.heap.objs.size f c')) → PE (lamCx X A outer s H E scope f c') body (t E))
    (hdb : (x == ("__debug__" : Str)) = false := by decide) (hd : (a == ("__debug__" : Str)) = false := by decide) (hcd : (a == ("__classdict__" : Str)) = false := by decide) :
    PE X (.Call (.Name x p) [.Lambda params body scope lpos] [] pos) (tLam T TT t) := by
  refine ⟨fun pins s σ H Q I ⟨tabs, go⟩ => wpAny_Call_Name_kw (ld_glob I hg hm (PySem.W.callWith_K (h₀ := X.base) I.ok.mod.kin F.kp ?_ (by rfl) (by rfl)) hdb)⟩
  have made := lam_make2 (params := params) (body := body) (scope := scope) (pos := lpos) (Q := fun v s' => ∃ f c' pm ctv H1, v = .ref f ∧ Inv X pins σ H1 s' ∧ ExtN H H1 ∧ Tabs T H1 ∧ s'.heap.get? f = some (lamO X params body scope pm c' ctv) ∧ H1 f = none ∧ f ∉ frs X.stack ∧ H1 c' = some (CodeO c' (X.env.qual ++ "<lambda>"))) (E := X.xe)
    I TB hc hT hu tabs hdef (L.has I.ok) fun f c' pm ctv H1 s' I1 e t1 h1 h2 h3 h4 => ⟨f, c', pm, ctv, H1, rfl, I1, e, t1, h1, h2, h3, h4⟩
  show wpAny _ _ (spliced ((false, eval (.Lambda params body scope lpos) X.env) :: backTo pos (starEach [] X.env))) _ _ s
  refine Calls.spliced_cons (wpAny_mono made (fun v s' z => ?_) fun _ _ z => z)
  obtain ⟨f, c', pm, ctv, H1, rfl, I1, e, t1, at_f, hf, hfr, hco⟩ := z
  refine Calls.spliced_nil ⟨I1.kIn, ?_⟩
  obtain ⟨oc, od, kV, doc, pmm, an, cdv, ct, osl, rfl, lk, hcd2⟩ := F.ex
  refine wpAny_call (codeAny_mono (run_ofS (CX := C8.CX0) (E := C8.E0) (Q := Q) (N := Ng) (ps := [a]) (us := [.ref f]) (vs := [.ref f]) lk hcd2 S hr I1.env0 (b s' [.ref f] I1.kIn rfl) (.cons rfl .nil) rfl fun hr' => ?_) fun r s2 hq => ?_)
  · obtain ⟨t', ht', q'⟩ := hG cdv f c' s' H1 Q (fun E H' Q' => t E σ H' Q') hco (go H1 e t1) (hr'.mono (by omega)) fun W pn xe p1 p2 tk => act_at (k := k + 3) (i := 0) I1 L at_f hf hfr (none_given _ _ _ _ _) tk hr' (fun A outer s H E hr2 => hb A outer s H E f c' hr2) hN hv hd hcd
    exact ⟨t', ht'.nox, q'⟩
  · match r, hq with
    | .ok (.ret u), hq => exact I1.after hq
end
end K88
end

section
set_option maxHeartbeats 4000000
/-! what the law is told of a call -/
namespace K88
open PySem PySem.Spec PyProof.Rows L2 LamX
/-- the classes that are named where the law is told -/
structure TellC (K : PySem.W.Frag) (mg : Str → Option Value) (ad : Str → Addr) (I fI : Addr) : Prop where
  R : ErrV K mg "InvalidRow" I fI
  gBa : mg "BarredError" = some (.ref (ad "BarredError"))
  gMk : mg "InvalidMark" = some (.ref (ad "InvalidMark"))
  eRR : PySem.W.exmOne K (.ref I) (.ref I) = some true
  bR : PySem.W.kitOne K (.ref I) (.ref (ad "BarredError")) = some true
  bM : PySem.W.kitOne K (.ref I) (.ref (ad "InvalidMark")) = some false
/-- what a call lets out, and what the law is told then -/
def Told (I : Addr) (Q : VK) : XK := fun cls d H =>
  cls = .ref I ∧ ∃ dd v, d = some dd ∧ H dd = some (.xd [(("value" : Str), v)]) ∧ ∀ H' l, Same H H' → H l = none → H' l = some (.lst [.str "row", v, .bl true]) → Q (.ref l) H'
def TTell (I : Addr) : (XK → Hp → VK → Prop) → Hp → VK → Prop := fun tl H Q => ∀ (H1 : Hp) (E : XK) (Q' : VK), Same H H1 → (∀ cls d H', Told I Q cls d H' → E cls d H') → (∀ v H2, (∀ H' l, Same H2 H' → H2 l = none → H' l = some (.lst [.str "told", v]) → Q (.ref l) H') → Q' v H2) → tl E H1 Q'
section
theorem scTold : FnScope ["_law_call", "_law_told_here", "e"] ["_law_call"] (defScope sTold) := ⟨rfl, rfl, rfl, by decide +kernel, rfl, by decide +kernel, by decide +kernel⟩
variable {P : Program} {w : World} {K : PySem.W.Frag} {mg : Str → Option Value} {base : Heap} {A0 : Around} {stk : List Env} {ad : Str → Addr} {fd : Str → FuncData} {I fI : Addr}
abbrev toldX (P : Program) (w : World) (K : PySem.W.Frag) (mg : Str → Option Value) (base : Heap) (A0 : Around) (stk : List Env) (ad : Str → Addr) (cdv : Value) (s : Shared) (H : Hp) : Cx := (cxOf C8.CX0 P w K mg base ["_law_call", "_law_told_here", "e"] "_law_told" (defScope sTold) (ad "_law_told") cdv A0 stk s H C8.E0).nox
theorem told_body (TX : Tx K mg ad fd) (L : TellC K mg ad I fI) {cdv : Value} {q0 : Str} {f c' : Addr} {s : Shared} {H : Hp} {Q : VK} {tl : XK → Hp → VK → Prop} (hco : H c' = some (CodeO c' q0)) (tell : TTell I tl H Q)
    (hr : Room 4 (A0.deeper (envOfC "_law_told" (defScope sTold) s.heap.objs.size (ad "_law_told") cdv)))
    (act : ∀ (W : WX) (pn : List (Addr × Obj)) (xe : Value → Shared → Prop) (p1 p2 : Pos), Takes ((cxOf C8.CX0 P w K mg base ["_law_call", "_law_told_here", "e"] "_law_told" (defScope sTold) (ad "_law_told") cdv A0 stk s H C8.E0).tr pn xe) W →
      PE ((cxOf C8.CX0 P w K mg base ["_law_call", "_law_told_here", "e"] "_law_told" (defScope sTold) (ad "_law_told") cdv A0 stk s H C8.E0).tr pn xe) (.Call (.Name "_law_call" p1) [] [] p2) (fun σZ HZ Q => σZ[0]? = some (some (.ref f)) ∧ HZ c' = some (CodeO c' q0) ∧ tl (WE W σZ) HZ Q)) :
    ∃ t, PSs (cxOf C8.CX0 P w K mg base ["_law_call", "_law_told_here", "e"] "_law_told" (defScope sTold) (ad "_law_told") cdv A0 stk s H C8.E0).nox (defBody sTold) t ∧ t { nx := fun _ H' => Q .non H', rt := Q } (L2.start ["_law_call", "_law_told_here", "e"] [.ref f]) H := by
  have xR : XfC K I := ⟨L.R.T.ec.ga, L.R.T.ec.gg, L.R.T.ec.be, L.R.T.ec.hd⟩
  refine ⟨_, pss_cons (ps_set (i := 1) scTold.nd rfl (.inl rfl) (by exact (pe_lst (pa_cons pe_str pa_nil))))
    (pss_cons (ps_try_many_as (i := 2) (n := "e")
        (tb := fun W => tAsg (tLst (tCons (tC (.str "told")) (tCons (fun σZ HZ Q => σZ[0]? = some (some (.ref f)) ∧ HZ c' = some (CodeO c' q0) ∧ tl (WE W σZ) HZ Q) tNil))) (gName 1))
        (Wout := fun _ _ _ _ => False)
        (l := [(.ref I, fun a cls d => tAsg (tLst (tCons (tC (.str "row")) (tCons (tXf a cls d I "value" (tVar 2)) (tCons (tAndV (tCB (rIsC K cls I a d) (tCons (tVar 2) (tCons (tC (.ref (ad "BarredError"))) tNil))) (tNotV (tCB (rIsC K cls I a d) (tCons (tVar 2) (tCons (tC (.ref (ad "InvalidMark"))) tNil))))) tNil)))) (gName 1))])
        rfl rfl scTold.nd rfl rfl L2.takes0
        (fun W pn xe tk _ => ?bd)
        (.cons ⟨rfl, by decide, Or.inl L.R.G⟩ (fun a oe cls d pn hz hf => ?hR) .nil))
      (pss_one (ps_ret (pv 1)))), ?fin⟩
  case bd => exact pss_one (ps_set (i := 1) scTold.nd rfl (Or.inl rfl) (by exact (pe_lst (pa_cons pe_str (pa_cons (act W pn xe _ _ tk) pa_nil)))))
  case hR =>
    refine pss_one (ps_set (i := 1) scTold.nd rfl (Or.inl rfl) ?_)
    exact (pe_lst (pa_cons pe_str (pa_cons (pe_xf (X := toldX P w K mg base A0 stk ad cdv s H) (a := a) (pn := pn) xR L.R.F.no hz hf (pv 2)) (pa_cons (pe_and (pe_callB (call_isC (X := toldX P w K mg base A0 stk ad cdv s H) (a := a) (pn := pn) hz hf) (by rfl) TX.m_isinstance (by decide +kernel) (pa_cons (pv 2) (pa_cons (pe_glob (v := .ref (ad "BarredError")) (by rfl) L.gBa rfl) pa_nil))) (pe_one (pe_not (pe_callB (call_isC (X := toldX P w K mg base A0 stk ad cdv s H) (a := a) (pn := pn) hz hf) (by rfl) TX.m_isinstance (by decide +kernel) (pa_cons (pv 2) (pa_cons (pe_glob (v := .ref (ad "InvalidMark")) (by rfl) L.gMk rfl) pa_nil)))))) pa_nil))))
  case fin =>
    refine ⟨(by show 1 ≤ sizeLine; rw [sizeLine_eq]; decide), fun l hl => ⟨rfl, Same.new hl _ _ hco, tell _ _ _ (Same.new hl) (fun cls d H' w => ?_) fun v H2 m => ?_⟩⟩
    · obtain ⟨rfl, dd, v, rfl, hdd, q⟩ := w
      refine ⟨true, L.eRR, fun _ a0 ha0 => ?_, fun z => nomatch z⟩
      refine ⟨_, rfl, rfl, rfl, dd, _, v, rfl, hdd, rfl, _, rfl, dd, _, .ref (ad "BarredError"), _, true, rfl, rfl, rfl, hdd, L.R.T.ec, .own _, L.bR, ?_⟩
      refine ⟨_, rfl, ?_⟩
      refine ⟨_, rfl, dd, _, .ref (ad "InvalidMark"), _, false, rfl, rfl, rfl, hdd, L.R.T.ec, .own _, L.bM, _, rfl, (by show 3 ≤ sizeLine; rw [sizeLine_eq]; decide), fun l2 hl2 => ⟨_, rfl, q _ l2 (Same.new hl2) hl2 upd_same⟩⟩
    · exact ⟨(by show 2 ≤ sizeLine; rw [sizeLine_eq]; decide), fun l2 hl2 => ⟨_, rfl, m _ l2 (Same.new hl2) hl2 upd_same⟩⟩
theorem told_gives {X : Cx} (TX : Tx X.K X.mg ad fd) (L : TellC X.K X.mg ad I fI) (cdv : Value) (q0 : Str) : Gives X ["_law_call", "_law_told_here", "e"] "_law_told" (defScope sTold) (ad "_law_told") cdv (defBody sTold) "_law_call" q0 (TTell I) :=
  fun f c' s H Q tl hco tell hr act => told_body TX L hco tell hr act
end
end K88
end

section
set_option maxHeartbeats 4000000
/-! tables of code objects; data where other things change -/
namespace K88
open PySem PySem.Spec PyProof.Rows L2 LamX
theorem notP {H : Hp} {pt b : Addr} {o : HO} (hp : PotAt H pt) (e : H b = some o) (n : ∀ x y, o ≠ .lst [.int x, .int y]) : b ≠ pt := fun z => by
  obtain ⟨x, y, q, _⟩ := hp
  rw [z, q] at e
  exact n x y (Option.some.inj e).symm
theorem refs_no (ls : List Addr) (x y : Int) : HO.lst (ls.map V.ref) ≠ .lst [.int x, .int y] := fun h => by
  cases ls with
  | nil => cases h
  | cons a r => cases h
theorem TbR.butN {pt : Addr} {H H' : Hp} {F : Addr} {ls : List Addr} {c : Ch} (h : TbR H F ls c) (hp : PotAt H pt) (n : ButN pt H H') : TbR H' F ls c := by
  refine ⟨n _ _ (notP hp h.e (refs_no ls)) h.e (fun _ z => nomatch z), h.l, fun i a q => ?_⟩
  obtain ⟨r, p, e⟩ := h.k i a q
  refine ⟨r, p, ?_⟩
  rcases e with e | ⟨o, e⟩
  · exact .inl (n _ _ (notP hp e fun x y z => nomatch z) e (fun _ z => nomatch z))
  · exact .inr ⟨o, n _ _ (notP hp e fun x y z => nomatch z) e (fun _ z => nomatch z)⟩
theorem TbF.butN {pt : Addr} {H H' : Hp} {F : Addr} {ls : List Addr} {c : Ch} (h : TbF H F ls c) (hp : PotAt H pt) (n : ButN pt H H') : TbF H' F ls c := by
  refine ⟨n _ _ (notP hp h.e (refs_no ls)) h.e (fun _ z => nomatch z), h.l, fun i a q => ?_⟩
  obtain ⟨o, e⟩ := h.k i a q
  exact ⟨o, n _ _ (notP hp e fun x y z => nomatch z) e (fun _ z => nomatch z)⟩
theorem LdAt.butN {pt : Addr} {H H' : Hp} {T : Addr} {w : Nat} {c : Ch} {ts : List Addr} (h : LdAt H T w c ts) (hp : PotAt H pt) (n : ButN pt H H') : LdAt H' T w c ts :=
  ⟨n _ _ (notP hp h.e fun x y z => nomatch z) h.e (fun _ z => nomatch z), h.l, fun i a q => n _ _ (notP hp (h.k i a q) fun x y z => nomatch z) (h.k i a q) (fun _ z => nomatch z)⟩
theorem MedO.butN {C pt : Addr} {H H' : Hp} {a : Addr} {w : Nat} {c : Ch} (h : MedO C H a w c) (hp : PotAt H pt) (n : ButN pt H H') : MedO C H' a w c := by
  obtain ⟨dx, F, ls, L, ts, e, tb, ld⟩ := h
  exact ⟨dx, F, ls, L, ts, n _ _ (notP hp e fun x y z => nomatch z) e (fun _ z => nomatch z), tb.butN hp n, ld.butN hp n⟩
theorem TbR.ext {H H' : Hp} {F : Addr} {ls : List Addr} {c : Ch} (h : TbR H F ls c) (n : ExtN H H') : TbR H' F ls c :=
  ⟨n _ _ h.e (fun _ z => nomatch z), h.l, fun i a q => let ⟨r, p, e⟩ := h.k i a q; ⟨r, p, e.elim (fun e => .inl (n _ _ e fun _ z => nomatch z)) fun ⟨o, e⟩ => .inr ⟨o, n _ _ e fun _ z => nomatch z⟩⟩⟩
theorem MedO.ext {C : Addr} {H H' : Hp} {a : Addr} {w : Nat} {c : Ch} (h : MedO C H a w c) (n : ExtN H H') : MedO C H' a w c := by
  obtain ⟨dx, F, ls, L, ts, e, tb, ld⟩ := h
  exact ⟨dx, F, ls, L, ts, n _ _ e (fun _ z => nomatch z), ⟨n _ _ tb.e (fun _ z => nomatch z), tb.l, fun i a q => let ⟨o, e⟩ := tb.k i a q; ⟨o, n _ _ e fun _ z => nomatch z⟩⟩, ⟨n _ _ ld.e (fun _ z => nomatch z), ld.l, fun i a q => n _ _ (ld.k i a q) fun _ z => nomatch z⟩⟩
theorem MedO.butP {C pt : Addr} {H H' : Hp} {a : Addr} {w : Nat} {c : Ch} (h : MedO C H a w c) (hp : PotAt H pt) (n : But pt H H') : MedO C H' a w c := h.butN hp (ButN.of n)
theorem TbR.butP0 {pt : Addr} {H H' : Hp} {F : Addr} {ls : List Addr} {c : Ch} (h : TbR H F ls c) (hp : PotAt H pt) (n : But pt H H') : TbR H' F ls c := h.butN hp (ButN.of n)
theorem extS {H H' : Hp} (s : Same H H') : ExtN H H' := ExtN.of s
theorem tabsS {T : List (Addr × Str)} {H H' : Hp} (t : Tabs T H) (s : Same H H') : Tabs T H' := t.ext s
theorem tabsB {T : List (Addr × Str)} {H H' : Hp} {p : Addr} (t : Tabs T H) (hp : PotAt H p) (s : But p H H') : Tabs T H' := by
  obtain ⟨x, y, ep, _⟩ := hp
  intro r hr
  obtain ⟨ps, h1, h2, h3⟩ := t r hr
  refine ⟨ps, s _ _ (fun z => by rw [z, ep] at h1; cases h1) h1, h2, fun pos cv hc => ?_⟩
  obtain ⟨c, e1, e2⟩ := h3 pos cv hc
  exact ⟨c, e1, s _ _ (fun z => by rw [z, ep] at e2; cases e2) e2⟩
/-- a list that is known and may be written -/
theorem tabsU {T : List (Addr × Str)} {H : Hp} {l : Addr} {xs ys : List V} (t : Tabs T H) (e : H l = some (.lst xs)) : Tabs T (upd H l (.lst ys)) := by
  intro r hr
  obtain ⟨ps, h1, h2, h3⟩ := t r hr
  refine ⟨ps, by rw [upd_ne (fun z => by rw [z, e] at h1; cases h1)]; exact h1, h2, fun pos cv hc => ?_⟩
  obtain ⟨c, e1, e2⟩ := h3 pos cv hc
  refine ⟨c, e1, ?_⟩
  rw [upd_ne (fun z => by rw [z, e] at e2; cases e2)]
  exact e2
/-- the def n's own table -/
structure Tb (mg : Str → Option Value) (base : Heap) (fd : Str → FuncData) (T : List (Addr × Str)) (n q : Str) (c P : Addr) : Prop where
  code : (fd n).code = .ref c
  tab : TabB base mg c P
  mem : (P, q) ∈ T
  uni : ∀ p ∈ T, p.1 = P → p.2 = q
section
variable {P : Program} {w : World} {K : PySem.W.Frag} {mg : Str → Option Value} {base : Heap}
theorem fnG_bodyT {x qual : Str} {st : Stmt} {f c : Addr} {fd : FuncData} {N ps : List Str} {k : Nat} {sp : Sp} (F : Fun K x qual st f fd) (hc : fd.code = .ref c) (S : FnScope N ps (defScope st)) (ln : ∀ vs H Q E, sp vs H Q E → vs.length = ps.length)
    (hb0 : ∀ (A : Around) (outer : List Env) (s : Shared) (H : Hp) (vs : List V) (Q : VK) (E : XK), RoomG k (A.deeper (envOfC qual (defScope st) s.heap.objs.size f (.ref c))) → sp vs H Q E →
      ∃ t, PSs (cxOf CX0 P w K mg base N qual (defScope st) f (.ref c) A outer s H E).nox (defBody st) t ∧ t { nx := fun _ H' => Q .non H', rt := Q } (start N vs) H) : FnG P w K mg base (k + 1) f fd ps sp where
  len := ln
  run A outer s H args us vs Q E hr e0 hbd rv hs := by
    obtain ⟨oc, od, kV, doc, pm, an, cdv, ct, osl, efd, lk, hcd⟩ := F.ex
    have ec : cdv = .ref c := by rw [← hc, efd]
    subst ec
    subst efd
    have old := fun b o (e : base.get? b = some o) => (e0.bs b o e).1
    have inK : K.In s.heap := e0.mod.kin.keeps old
    have hkn : ∀ q ∈ ps.zip us, (defScope st).names.lookup q.1 = some .local ∨ ((defScope st).names.lookup q.1 = some .cell ∧ ((cellsFrom (s.heap.objs.size + 1) (defScope st).names []).lookup q.1).isSome = true) := by
      rintro ⟨n, v⟩ hq
      exact (S.par n (List.of_mem_zip hq).1).elim .inl fun c => .inr ⟨c, PySem.W.cellsFrom_some _ _ _ (.inl c)⟩
    have body : ∀ s1 : Shared, InCallC s s.heap.objs.size (bindL (envOfC qual (defScope st) s.heap.objs.size f (.ref c)).kindOf (ps.zip us) fun _ => none) (cellsFrom (s.heap.objs.size + 1) (defScope st).names []) (bindC (envOfC qual (defScope st) s.heap.objs.size f (.ref c)).kindOf (ps.zip us) fun _ => none) s1 →
        wpAny (model P w) (A.deeper (envOfC qual (defScope st) s.heap.objs.size f (.ref c))) (execs (defBody st) (envOfC qual (defScope st) s.heap.objs.size f (.ref c))) (fun fl s' => match fl with | .next => CE outer P w H s Q Value.none s' | .ret u => CE outer P w H s Q u s' | _ => False) (cxOf CX0 P w K mg base N qual (defScope st) f (.ref c) A outer s H E).xe s1 := by
      intro s1 hx
      obtain ⟨t, ht, hq⟩ := hb0 A outer s H vs Q E (hr.deeper _) hs
      have J := inv_start (CX := CX0) (E := E) S hr.rm.hd e0 (ln _ _ _ _ hs) rv hx
      refine wpAny_mono (ht.nox.run [] s1 (start N vs) H _ J hq) (fun fl s' hf => ?_) (fun e s' hf => hf)
      match fl, hf with
      | .next, ⟨σ', H', I', q⟩ => exact ⟨.non, H', I'.os, I'.bare, I'.base, I'.hok, rfl, q⟩
      | .ret u, ⟨v, σ', H', I', r', q⟩ => exact ⟨v, H', I'.os, I'.bare, I'.base, I'.hok, r', q⟩
      | .brk, ⟨_, _, _, q⟩ => exact (show False from q).elim
      | .cont, ⟨_, _, _, q⟩ => exact (show False from q).elim
    refine codeAny_call_function hr.rm.depth (inK _ _ lk) rfl S.co S.gen rfl (PySem.W.codeRec_of inK hcd) (hbd _ _ _ _ ?_)
    refine wpAny_newFunctionEnv_cells S.kind hkn fun env he s1 hx => ?_
    subst he
    refine ⟨(e0.mod.nolimit.keeps old).keeps hx.toInCall.keep, codeAny_func ?_⟩
    refine wpAny_mono (body s1 hx) (fun fl s' hf => ?_) (fun e s' hf => hf)
    cases fl with
    | ret u => exact hf
    | next => exact hf
    | brk => exact (show False from hf).elim
    | cont => exact (show False from hf).elim
end
end K88
end

section
set_option maxHeartbeats 4000000
/-! (len(x), x) < (len(y), y) -/
namespace K88
open PySem PySem.Spec PyProof.Rows L2
def pairD (x : Str) : PyData := .tuple [.int x.length, .str x]
def aheadS (x y : Str) : Bool := PySem.W.dataLt (pairD x) (pairD y)
/-- x < y, alike data -/
def rLtD : R2 := fun x y H Q => ∃ d e, Dx H x d ∧ Dx H y e ∧ PySem.W.alike d e = true ∧ d ≠ .none ∧ d.depth ≤ 40 ∧ Q (.bl (PySem.W.dataLt d e)) H
theorem op_ltD {X : Cx} (hu : X.A.units + 64 < cLine) : OpR X (compareOp .Lt) rLtD := by
  intro pins s σ H x y v u Q I rx ry h
  obtain ⟨d, e, hd, he, al, nn, dp, q⟩ := h
  obtain ⟨as, r1, _⟩ := Dx.reads I hd rx
  obtain ⟨bs, r2, _⟩ := Dx.reads I he ry
  have := PySem.W.rcLt_alike d e X.A s v u as bs r1 r2 al nn (by have := Nat.min_le_left d.depth e.depth; omega)
  exact this X.prog X.w X.xe (EP X pins σ Q) ⟨.bl _, H, I, rfl, q⟩
theorem eqvI (a b : Int) : PyData.eqv (.int a) (.int b) = decide (a = b) := by
  by_cases h : a = b
  · simp [PyData.eqv, h]
  · simp [PyData.eqv, h]
theorem eqvS (a b : Str) : PyData.eqv (.str a) (.str b) = decide (a = b) := by
  by_cases h : a = b
  · simp [PyData.eqv, h]
  · simp [PyData.eqv, h]
theorem ahead_len {x y : Str} (h : x.length ≠ y.length) : aheadS x y = decide ((x.length : Int) < (y.length : Int)) := by
  unfold aheadS pairD
  rw [PySem.W.dataLt_tuple, PySem.W.dataLt_all_no rfl (by rw [eqvI]; exact decide_eq_false (by omega)), PySem.W.dataLt_int]
theorem lex_nil0 : PyProof.Rows.lexLt PyProof.Rows.itemOrd (PySem.W.keyToksAll []) (PySem.W.keyToksAll []) = false := by decide +kernel
theorem ahead_eq {x y : Str} (h : x.length = y.length) : aheadS x y = decide (x.cps.toList < y.cps.toList) := by
  unfold aheadS pairD
  rw [PySem.W.dataLt_tuple, h, PySem.W.dataLt_all_yes rfl (by rw [eqvI]; exact decide_eq_true rfl)]
  by_cases e : x = y
  · subst e
    rw [PySem.W.dataLt_all_yes rfl (by rw [eqvS]; exact decide_eq_true rfl)]
    rw [lex_nil0]
    exact (decide_eq_false (List.lt_irrefl _)).symm
  · rw [PySem.W.dataLt_all_no rfl (by rw [eqvS]; exact decide_eq_false e), PySem.W.dataLt_str]
theorem lt_lex : ∀ {x y : NL}, x < y → x.length = y.length → lexlt x y
  | [], [], h, _ => absurd h (List.lt_irrefl _)
  | [], _ :: _, _, l => by cases l
  | _ :: _, [], _, l => by cases l
  | a :: x, b :: y, h, l => by
    rcases List.cons_lt_cons_iff.mp h with h1 | ⟨e, h2⟩
    · exact .inl h1
    · exact .inr ⟨e, lt_lex h2 (by injection l)⟩
/-- no word behind t is ahead of it -/
theorem not_ahead {x y : Str} (h : tle (cl y) (cl x)) : aheadS x y = false := by
  by_cases e : x.length = y.length
  · rw [ahead_eq e]
    refine decide_eq_false fun q => ?_
    exact tle_lt h (.inr ⟨by rw [cl_len, cl_len]; exact e, lt_lex q ((cl_len x).trans (e.trans (cl_len y).symm))⟩)
  · rw [ahead_len e]
    refine decide_eq_false fun q => ?_
    exact tle_lt h (.inl (by rw [cl_len, cl_len]; omega))
end K88
end

section
set_option maxHeartbeats 4000000
/-! what joins_right stands on -/
namespace K88
open PySem PySem.Spec PyProof.Rows L2 LamX
theorem led_in {c : Ch} {w : Nat} (ok : okT w c) : ∀ {x : NL} {s t : Nat}, ledN c s x = some t → ∀ a ∈ x, (⟨#[a]⟩ : Str) ∈ sgs.take w
  | [], _, _, _, a, h => by cases h
  | b :: x, s, t, h, a, ha => by
    have h2 : ((lkp (rowC c s) ⟨#[b]⟩).bind fun g => ledN c g x) = some t := h
    cases k : lkp (rowC c s) ⟨#[b]⟩ with
    | none => rw [k] at h2; cases h2
    | some g =>
      rw [k] at h2
      rcases List.mem_cons.mp ha with rfl | ha
      · exact okR_in (row_ok ok s) (List.mem_map_of_mem (f := fun e : Str × Nat => e.1) (lkp_mem k))
      · exact led_in ok h2 a ha
theorem word_in {x : NL} {w : Nat} (h : ∀ a ∈ x, (⟨#[a]⟩ : Str) ∈ sgs.take w) : wordD (.str (sl x)) = true := by
  show (x.all sgn) = true
  refine List.all_eq_true.mpr fun a ha => ?_
  have := sgs_word _ (List.mem_of_mem_take (h a ha))
  have q : (([a] : NL).all sgn) = true := this
  rw [List.all_cons, List.all_nil, Bool.and_true] at q
  exact q
theorem led_word {c : Ch} {w : Nat} (ok : okT w c) {x : NL} {s t : Nat} (h : ledN c s x = some t) : wordD (.str (sl x)) = true := word_in (led_in ok h)
theorem freeT {w : Nat} (w2 : 2 ≤ w) (w4 : w ≤ 4) : WfC [freeR w] ∧ okT w [freeR w] ∧ NdT [freeR w] ∧ Full [freeR w] := by
  obtain ⟨h1, h2, h3⟩ := free_ok w2 w4
  have ok : okT w [freeR w] := fun r hr => by rw [List.mem_singleton.mp hr]; exact ⟨h1, trivial⟩
  refine ⟨⟨Nat.zero_lt_one, fun r hr e he => ?_⟩, ok, okT_nd ok, fun r hr => by rw [List.mem_singleton.mp hr]; exact h2⟩
  rw [List.mem_singleton.mp hr] at he
  rw [h3 e he]; exact Nat.zero_lt_one
theorem led_free {w : Nat} (w2 : 2 ≤ w) (w4 : w ≤ 4) : ∀ {x : NL}, (∀ a ∈ x, (⟨#[a]⟩ : Str) ∈ sgs.take w) → ledN [freeR w] 0 x = some 0
  | [], _ => rfl
  | a :: x, h => by
    show ((lkp (freeR w) ⟨#[a]⟩).bind fun g => ledN [freeR w] g x) = some 0
    have hk : (⟨#[a]⟩ : Str) ∈ keysR (freeR w) := by rw [free_keys]; exact h a List.mem_cons_self
    obtain ⟨g, hg⟩ := lkp_has hk
    have g0 : g = 0 := (free_ok w2 w4).2.2 _ (lkp_mem hg)
    rw [hg, g0]
    exact led_free w2 w4 fun b hb => h b (List.mem_cons_of_mem _ hb)
section
variable {α : Type} [DecidableEq α] {steps : α → List (Nat × α)} {acc : α → Bool} {st : α}
theorem bfs_len (srt : ∀ u, (steps u).Pairwise fun e f => e.1 < f.1) {N : Nat} (bd : ∀ i o, InvO steps acc st i [] o → o.length ≤ N) : ∀ (f i : Nat) (o : Ord α), InvO steps acc st i [] o → ∀ t, bfsO steps acc f i o = some t → t.length ≤ N
  | 0, i, o, I, t, h => by cases h
  | f + 1, i, o, I, t, h => by
    unfold bfsO at h
    cases e0 : o[i]? with
    | none => rw [e0] at h; cases h
    | some p =>
      obtain ⟨u, t'⟩ := p
      rw [e0] at h
      dsimp only at h
      split at h
      · cases h
        have := I.len i _ e0
        have l := (List.getElem?_eq_some_iff.mp e0).1
        have := bd i o I
        simp only at *
        omega
      · rename_i na
        obtain ⟨I2, _⟩ := InvO.all (Bool.eq_false_iff.mpr na) (srt u) (steps u) [] o rfl I e0
        exact bfs_len srt bd f (i + 1) _ I2 t h
end
theorem join_len {c : Ch} {w : Nat} (wf : WfC c) (ok : okT w c) {m x0 : NL} (hm : m ≠ []) {v0 : Nat} (h0 : ledN c 0 x0 = some v0) (n0 : ¬ m <:+: x0) {t : NL} (h : joinJ c m x0 = some t) : t.length ≤ c.length * m.length := by
  unfold joinJ at h
  rw [h0] at h
  exact bfs_len (stepJ_up ok m) (fun i o I => bdJ wf ok hm h0 n0 I) _ 0 _ InvO.start t h
/-- the law's own word for it -/
theorem fine_iff {c : Ch} {x y m : NL} : ((ledN c 0 (x ++ y ++ m)).isSome && (decide ((x ++ y ++ m).drop ((x ++ y ++ m).length - m.length) = m) && !infB m (x ++ y ++ m).dropLast)) = true ↔ fineJ c m x y := by
  have e : (x ++ y ++ m).drop ((x ++ y ++ m).length - m.length) = m := by
    rw [List.length_append (as := x ++ y), Nat.add_sub_cancel, List.drop_left' rfl]
  rw [e, decide_eq_true rfl, Bool.true_and, Bool.and_eq_true, Bool.not_eq_true', infB_no]
  exact Iff.rfl
theorem scalJ (o : Option NL) : scal (optT o) (optT o) = true := by cases o <;> rfl
def optDT : Option NL → PyData
  | none => .none
  | some t => .str (sl t)
theorem optDT_dx {H : Hp} : ∀ o : Option NL, Dx H (optT o) (optDT o)
  | none => .non
  | some _ => .str _
theorem optDT_dp {K : PySem.W.Frag} {H : Hp} : ∀ o : Option NL, Dp K H (optT o) (optDT o)
  | none => .non
  | some _ => .str _
theorem optDT_self : ∀ o : Option NL, PyData.eqv (optDT o) (optDT o) = true
  | none => rfl
  | some t => by unfold optDT; rw [eqvS]; exact decide_eq_true rfl
def toldD (d : PyData) : PyData := .list [.str "told", d]
def rowDt (z : Str) : PyData := .list [.str "row", .str z, .bool true]
theorem toldD_self {d : PyData} (h : PyData.eqv d d = true) : PyData.eqv (toldD d) (toldD d) = true := by
  unfold toldD
  simp only [PyData.eqv, PyData.eqvAll]
  simp [h]
theorem rowDt_self (z : Str) : PyData.eqv (rowDt z) (rowDt z) = true := by
  unfold rowDt
  simp [PyData.eqv, PyData.eqvAll]
theorem toldD_shaped {o : Option NL} (h : ∀ t, o = some t → PyData.strOk (sl t) = true) : SeqAt.shaped (toldD (optDT o)) = true := by
  unfold SeqAt.shaped toldD
  rw [Bool.and_eq_true]
  have s1 : PyData.strOk "told" = true := by decide +kernel
  cases o with
  | none =>
    unfold optDT
    constructor
    · simp [PyData.canLay0, PyData.canLayAll0, s1]
    · refine decide_eq_true ?_
      simp only [PyData.depth, PyData.depthAll]
      omega
  | some t =>
    unfold optDT
    constructor
    · simp [PyData.canLay0, PyData.canLayAll0, s1, h t rfl]
    · refine decide_eq_true ?_
      simp only [PyData.depth, PyData.depthAll]
      omega
theorem rowDt_shaped {z : Str} (h : PyData.strOk z = true) : SeqAt.shaped (rowDt z) = true := by
  have s1 : PyData.strOk "row" = true := by decide +kernel
  unfold SeqAt.shaped rowDt
  rw [Bool.and_eq_true]
  constructor
  · simp [PyData.canLay0, PyData.canLayAll0, s1, h]
  · refine decide_eq_true ?_
    simp only [PyData.depth, PyData.depthAll]
    omega
theorem word_strOk {z : Str} (h : wordD (.str z) = true) : PyData.strOk z = true := strOk_sub (l := cl z) h fun _ q => q
theorem kb_join {K : PySem.W.Frag} {mg : Str → Option Value} {ad : Str → Addr} {fd : Str → FuncData} (X : Tx K mg ad fd) : KB K (fd "join") ["medium", "mark", "row"] ["row", "mark", "medium"] List.reverse List.reverse := by
  obtain ⟨oc, od, kV, doc, pm, an, cdv, ct, osl, e, lk, hcd⟩ := X.F_join.ex
  rw [e]
  refine ⟨fun s ws _ hl => ?_, vals_rev⟩
  rw [List.length_reverse] at hl
  match ws, hl with
  | [_, _, _], _ => exact BindsTo.of_eq (by first | rfl | with_unfolding_all rfl)
section
variable {T : List (Addr × Str)} {I : Addr} {σ : L2.St} {H : Hp} {Q : VK} {v : V} {t : XK → TE}
theorem told_row (tabs : Tabs T H) (ht : ∀ (H2 : Hp) (E : XK) (Q' : VK), ExtN H H2 → Err I E H2 v → t E σ H2 Q')
    (k : ∀ H2 l, ExtN H H2 → Tabs T H2 → H2 l = some (.lst [.str "row", v, .bl true]) → Q (.ref l) H2) : tLam T (TTell I) t σ H Q :=
  ⟨tabs, fun H1 e1 t1 H2 E Q' s hE _ => ht H2 E Q' (e1.trans (extS s)) fun H' p s' hp => hE _ _ _ ⟨rfl, p, v, rfl, upd_same, fun H3 l' s3 n3 e => k H3 l' (e1.trans (extS (Same.trans s (Same.trans s' (Same.trans (Same.new hp) s3))))) (tabsS t1 (Same.trans s (Same.trans s' (Same.trans (Same.new hp) s3)))) e⟩⟩
theorem told_told (tabs : Tabs T H) (ht : ∀ (H2 : Hp) (E : XK) (Q' : VK), ExtN H H2 → (∀ H3, Same H2 H3 → Q' v H3) → t E σ H2 Q')
    (k : ∀ H2 l, ExtN H H2 → Tabs T H2 → H2 l = some (.lst [.str "told", v]) → Q (.ref l) H2) : tLam T (TTell I) t σ H Q :=
  ⟨tabs, fun H1 e1 t1 H2 E Q' s _ hQ => ht H2 E Q' (e1.trans (extS s)) fun H3 s3 => hQ v H3 fun H4 l s4 n4 e => k H4 l (e1.trans (extS (Same.trans s (Same.trans s3 s4)))) (tabsS t1 (Same.trans s (Same.trans s3 s4))) e⟩
end
end K88
end

section
set_option maxHeartbeats 4000000
/-! enumerate over a tuple -/
namespace K88
open PySem PySem.Spec PyProof.Rows L2
theorem meets_enumerate_newT (l : Addr) (items : Array Value) (n : Nat) (dct : Option Addr) (sl : Array (Option Value)) :
    Meets (Builtin.«enumerate.__new__» ⟨[.type "enumerate", .ref l], []⟩) (fun _ R s => s.heap.get? l = some { cls := .type "tuple", dict := dct, data := .seq items n, slots := sl } ∧
      R (.ok (.ret (.ref (s.heap.push { cls := .type "tuple_iterator", data := .fields #[.ref l, .int 0 0] }).objs.size)))
        { s with heap := (s.heap.push { cls := .type "tuple_iterator", data := .fields #[.ref l, .int 0 0] }).push { cls := .type "enumerate", data := .fields #[.none, .bool false, .ref s.heap.objs.size, rawInt 0, .none, .none] } }) :=
  .of_wp fun prog w A R s h => by
    obtain ⟨hp, g, d, tk, os⟩ := s; obtain ⟨hl, h⟩ := h
    have hsub := sub_enumerate
    have hL : Heap.IsTuple (Shared.heap ⟨hp, g, d, tk, os⟩) l items := ⟨_, hl, rfl, n, rfl⟩
    wp_walk using AutoSeq1.wpAny_loadPart' hl
    refine wpAny_stack_any fun st => wpAny_pure ?_
    split
    · rename_i c _ _ _ _ _
      cases (c == Value.type "enumerate")
      · wp_walk using AutoSeq1.wpAny_loadPart' hl, wpAny_pyIter_tuple hL
        exact ⟨_, rfl, h⟩
      · wp_walk using AutoSeq1.wpAny_loadPart' hl, wpAny_pyIter_tuple hL
        exact ⟨_, rfl, h⟩
    · wp_walk using AutoSeq1.wpAny_loadPart' hl, wpAny_pyIter_tuple hL
      exact ⟨_, rfl, h⟩
section
variable {prog : Program} {w : World} {A : Around} {E : Value → Shared → Prop} {s : Shared}
theorem call_enumerate_tuple {l : Addr} {items : Array Value} {Q : Value → Shared → Prop} (hL : s.heap.IsTuple l items)
    (h : ∀ h', IsEnum h' (s.heap.objs.size + 1) s.heap.objs.size 0 .none → h'.IsTupleIter s.heap.objs.size l 0 → h'.objs.size = s.heap.objs.size + 2 →
      (∀ b o, s.heap.get? b = some o → h'.get? b = some o) → Q (.ref (s.heap.objs.size + 1)) { s with heap := h' }) :
    wpAny (model prog w) A (call (.type "enumerate") [.ref l]) Q E s := by
  obtain ⟨⟨c, dct, dt, sl⟩, hl, hc, n, hd⟩ := hL
  replace hc : c = .type "tuple" := hc
  replace hd : dt = .seq items n := hd
  subst hc hd
  refine callType_new F.called_enumerate (by decide) (F.typeCall_enumerate_1 _) (F.newCall_enumerate_1 _) (fun obj => F.args_object_init_2 obj _) F.entry_enumerate_new
    (meets_enumerate_newT l items n dct sl) ⟨hl, ?_⟩
  have hz : (s.heap.push { cls := .type "tuple_iterator", data := .fields #[.ref l, .int 0 0] }).objs.size = s.heap.objs.size + 1 := Heap.size_push ..
  show _ ∧ _
  rw [hz]
  have he : IsEnum ((s.heap.push { cls := .type "tuple_iterator", data := .fields #[.ref l, .int 0 0] }).push
      { cls := .type "enumerate", data := .fields #[.none, .bool false, .ref s.heap.objs.size, rawInt 0, .none, .none] }) (s.heap.objs.size + 1) s.heap.objs.size 0 .none := by
    have := Heap.get?_push_size (s.heap.push { cls := .type "tuple_iterator", data := .fields #[.ref l, .int 0 0] })
      (o := { cls := .type "enumerate", data := .fields #[.none, .bool false, .ref s.heap.objs.size, rawInt 0, .none, .none] }) rfl
    rw [hz] at this; exact this
  refine ⟨⟨_, he, rfl⟩, h _ he ⟨_, Heap.get?_push_of_some _ (Heap.get?_push_size _ rfl), rfl, rfl⟩ (by rw [Heap.size_push, hz]) fun b o x => Heap.get?_push_of_some _ (Heap.get?_push_of_some _ x)⟩
end
section
variable {prog : Program} {w : World} {A : Around} {E : Value → Shared → Prop} {s : Shared}
theorem enum_endT {e it a : Addr} {j : Nat} {i : Int} {items : Array Value} {old : Value} {Q : Option Value → Shared → Prop} (hh : A.in1.handled = none) (he : IsEnum s.heap e it i old) (hit : s.heap.IsTupleIter it a j) (ht : s.heap.IsTuple a items) (hx : items[j]? = none)
    (hQ : ∀ h', Heap.ExtBut it s.heap h' → Q none { s with heap := h' }) : wpAny (model prog w) A (pyNext (.ref e)) Q E s := by
  have hT : s.TypeIs (.ref e) "enumerate" := ⟨_, he, rfl⟩
  unfold pyNext
  refine wpAny_bind (wpAny_attempt (wpAny_callSpecial?_slot (name := Str.ofString "__next__") hT F.slot_enumerate_next
    (wpAny_call_entry F.slot_enumerate_next hT F.entry_enumerate_next ?_ (F.args_enumerate_next_1 _))))
  show wpAny _ _ (field (.ref e) 2 >>= _) _ _ _
  refine wpAny_bind (wpAny_field he rfl (x := .ref it) rfl ?_)
  refine wpAny_bind (wpAny_nextOf_tuple_end hh hit ht hx fun h' x he' hx' => ?_)
  obtain ⟨o, ho, hc⟩ := hx'
  refine wpAny_bind (wpAny_isInstance (T := "StopIteration") (b := true) ⟨o, ho, hc⟩ isSubtype_stop ?_)
  exact wpAny_pure (hQ _ he')
end
/-- the tuple at a, each item in a new pair -/
def Itet (K : PySem.W.Frag) (a : Addr) : It :=
  ⟨fun i H => ∃ (xs : List V) (x : V), SqT K H a xs ∧ xs[i]? = some x, fun i H v H' => ∃ T x, v = .ref T ∧ H T = none ∧ H' = upd H T (.tup [.int (i : Nat), x]) ∧ ∀ xs, SqT K H a xs → xs[i]? = some x, fun i H => ∃ xs : List V, SqT K H a xs ∧ xs.length ≤ i⟩
theorem turn_enumT {P : Program} {w : World} {K : PySem.W.Frag} {elts : List Expr} {kk : Nat} {tpos : Pos} (a e it : Addr) :
    Turn P w K (.Tuple elts kk tpos) (Itet K a) [e, it] e (fun i h => (∃ old, IsEnum h e it ((i : Nat) : Int) old) ∧ h.IsTupleIter it a i ∧ e ≠ it ∧ a ≠ it ∧ e ≠ a) where
  mem := by simp
  obj := fun i h st b hb => by
    obtain ⟨⟨old, he⟩, ⟨o, ho, hc, hd⟩, _⟩ := st
    have e' : b = e ∨ b = it := by simpa using hb
    rcases e' with z | z
    · rw [z]; exact ⟨_, he, fun v q => nomatch q⟩
    · rw [z]; exact ⟨o, ho, fun v q => by rw [hd] at q; cases q⟩
  keep := fun i h h' st k => let ⟨⟨old, he⟩, hi, hne⟩ := st; ⟨⟨old, k e (by simp) _ he⟩, hi.at fun o q => k it (by simp) o q, hne⟩
  item := by
    intro X hP hw hK hc i pins s σ H E I hf st hg
    subst hP hw hK
    obtain ⟨⟨old, he⟩, hit, hne, hai, hea⟩ := st
    obtain ⟨xs, x, hq, hx⟩ := hg
    obtain ⟨its, rv, p, hz⟩ := I.tuple hq
    obtain ⟨u, hu, ru⟩ := rv.get hx
    have hel : e < s.heap.objs.size := Heap.lt_size he
    have hil : it < s.heap.objs.size := by obtain ⟨_, q, _⟩ := hit; exact Heap.lt_size q
    have D := Draws.tuple (prog := X.prog) (w := X.w) (A := X.A.in1) (I.ok.hd hc) it a hai its.toArray
    have hlt : i < its.toArray.size := by
      have := (List.getElem?_eq_some_iff.mp hu).1
      simpa using this
    refine wpAny_pyNext_enum_itemD (fp := [it, a]) D he ⟨hit, show s.heap.IsTuple a its.toArray from p⟩ hlt hne (by simp [hne, hea]) fun y h' tk hy ho hst hT hsz hk => ?_
    have ey : y = u := by
      have hy' : its.toArray[i]? = some y := hy
      have : its[i]? = some y := by simpa using hy'
      rw [hu] at this
      exact (Option.some.inj this).symm
    subst ey
    obtain ⟨hit', _⟩ := hst
    refine ⟨_, rfl, wpAny_letOwnedTupleGo_enum (s := { s with heap := h', toks := tk + 1 }) ho fun h'' he' sb => ?_⟩
    have hT2 : h''.get? s.heap.objs.size = some { cls := .type "tuple", data := .seq #[.int i tk, y] } := (sb.2 _ (Nat.ne_of_gt hel)).trans hT
    have new : ObjOk X.prog X.w (upd H s.heap.objs.size (.tup [.int (i : Nat), x])) h'' s.heap.objs.size (.tup [.int (i : Nat), x]) :=
      ⟨by show 2 ≤ sizeLine; decide, [.int i tk, y], .cons ⟨_, rfl⟩ (.cons ru .nil), ⟨_, hT2, rfl, _, rfl⟩⟩
    have I1 : Inv X pins σ (upd H s.heap.objs.size (.tup [.int (i : Nat), x])) { s with heap := h'', toks := tk + 1 } :=
      I.turnedNew (ch := [e, it]) (fun b ob hb q => (sb.2 b (fun z => hb (by simp [z]))).trans (hk b ob (fun z => hb (by simp [z])) (fun z => hb (by simp [z])) q)) hf (Nat.le_refl _) new
    refine ⟨.ref s.heap.objs.size, _, I1, rfl, ⟨_, x, rfl, I.hok.fresh (Nat.le_refl _), rfl, fun ys hy => by rw [I.tuple_inj hy hq]; exact hx⟩, ⟨⟨y, ?_⟩, hit'.at fun o q => (sb.2 it (Ne.symm hne)).trans q, hne, hai, hea⟩, fun b hb => ?_⟩
    · have e1 : ((i + 1 : Nat) : Int) = (i : Int) + 1 := by omega
      rw [e1]; exact he'
    · have hb' : b < s.heap.objs.size := by
        have e' : b = e ∨ b = it := by simpa using hb
        rcases e' with z | z
        · rw [z]; exact hel
        · rw [z]; exact hil
      rw [upd_ne (Nat.ne_of_lt hb')]
      exact (hf b hb).1
  done := by
    intro X hP hw hK hc i pins s σ H E I hf st hg
    subst hP hw hK
    obtain ⟨⟨old, he⟩, hit, hne, hai, hea⟩ := st
    obtain ⟨xs, hq, hx⟩ := hg
    obtain ⟨its, rv, p, hz⟩ := I.tuple hq
    obtain ⟨f0, f1, f2, f3, f4, f5⟩ := hf it (by simp)
    have hl := rv.length
    exact enum_endT (I.ok.hd hc) he hit (show s.heap.IsTuple a its.toArray from p) (by simp; omega) fun h' eb => ⟨rfl, I.turned (t' := s.toks) (fun b o hb q => eb b o hb q) f0 f1 f3 f4 f5⟩
  self := fun A i s Q E st h => let ⟨⟨_, he⟩, _⟩ := st; wpAny_pyIter_enum he h
def iEnumT (K : PySem.W.Frag) (ta : TA) : TI := fun σ H R => ta σ H fun vs H1 => ∃ a xs, vs = [.ref a] ∧ SqT K H1 a xs ∧ R (Itet K a) H1
theorem pi_enumT {X : Cx} {e : Expr} {ta : TA} {p pos tpos : Pos} {elts : List Expr} {kk : Nat} (hg : Gl X "enumerate") (hm : X.mg "enumerate" = none) (ha : PA X [e] ta) (hs : starEach [e] X.env = [(false, eval e X.env)] := by rfl) :
    PI X (.Tuple elts kk tpos) (.Call (.Name "enumerate" p) [e] [] pos) (iEnumT X.K ta) := by
  refine ⟨fun pins s σ H R I h => ?_⟩
  refine Call_ (ld_blt I hg hm boot_enumerate (PyProof.Rows.callWith_type1 (thn (ha.run pos pins s σ H _ I h) fun us s1 ⟨vs, H1, I1, r1, q1⟩ => ?_) hs rfl))
  obtain ⟨a, xs, ex, hq, q⟩ := q1
  subst ex
  cases r1 with
  | cons r rr =>
    cases rr
    cases r
    obtain ⟨its, rv, p', hz⟩ := I1.tuple hq
    have ht : s1.heap.IsTuple a its.toArray := p'
    have al : a < s1.heap.objs.size := by obtain ⟨_, z, _⟩ := ht; exact Heap.lt_size z
    refine call_enumerate_tuple ht fun h' he hit hsz hk => wpAny_pyIter_enum he ?_
    have I2 : Inv X pins σ H1 { s1 with heap := h' } := I1.kept (t' := s1.toks) hk
    refine ⟨s1.heap.objs.size + 1, [s1.heap.objs.size + 1, s1.heap.objs.size], _, _, H1, rfl, I2, turn_enumT a (s1.heap.objs.size + 1) s1.heap.objs.size, ⟨⟨.none, he⟩, hit, Nat.succ_ne_self _, Nat.ne_of_lt al, Nat.ne_of_gt (Nat.lt_succ_of_lt al)⟩, fun b hb => ?_, q⟩
    have e' : b = s1.heap.objs.size + 1 ∨ b = s1.heap.objs.size := by simpa using hb
    have hle : s1.heap.objs.size ≤ b := by
      rcases e' with z | z
      · rw [z]; exact Nat.le_add_right _ _
      · rw [z]; exact Nat.le_refl _
    exact I1.fpOk hle (I1.hok.fresh hle)
theorem walk_enumT {K : PySem.W.Frag} {a : Addr} {xs : List V} : Walk (Itet K a) xs.length (fun H => SqT K H a xs) (YPair (fun i => some (.int (i : Nat))) (fun i => xs[i]?)) := by
  refine ⟨fun i _ hi q => ⟨xs, xs[i], q, by simp [hi]⟩, fun _ q => ⟨xs, q, Nat.le_refl _⟩, fun i H v H' _ q y => ?_⟩
  obtain ⟨T, x, h1, h2, h3, h4⟩ := y
  exact ⟨T, .int (i : Nat), x, h1, h2, h3, rfl, h4 xs q⟩
end K88
end

section
set_option maxHeartbeats 4000000
/-! words barred: check_words, barring_state -/
namespace K88
open PySem PySem.Spec PyProof.Rows L2

/-- the words, as a tuple -/
def WordsAt (H : Hp) (t : Addr) (ws : List Str) : Prop := H t = some (.tup (ws.map V.str))
structure OkWords (w : Nat) (ws : List Str) : Prop where
  n1 : 1 ≤ ws.length
  n8 : ws.length ≤ 8
  each : ∀ z ∈ ws, 1 ≤ z.length ∧ z.length ≤ 8 ∧ ∀ a ∈ cl z, (⟨#[a]⟩ : Str) ∈ sgs.take w
theorem OkWords.word {w : Nat} {ws : List Str} (h : OkWords w ws) {z : Str} (hz : z ∈ ws) : wordD (.str z) = true := by
  show (z.cps.toList.all sgn) = true
  refine List.all_eq_true.mpr fun a ha => ?_
  have := sgs_word _ (List.mem_of_mem_take ((h.each z hz).2.2 a ha))
  have q : ([a].all sgn) = true := this
  simpa using q
def spCWords : Sp := fun vs H Q _ => ∃ (t : Addr) (ws : List Str) (w : Nat) (g : Str), vs = [.ref t, .str g] ∧ WordsAt H t ws ∧ OkWords w ws ∧ okSg w g ∧ ∀ H', Same H H' → Q .non H'
theorem okSg_mem {w : Nat} {g : Str} (sg : okSg w g) (a : Nat) : a ∈ g.cps.toList ↔ (⟨#[a]⟩ : Str) ∈ sgs.take w := by
  rw [← show g.cps.toList.map (fun c => (⟨#[c]⟩ : Str)) = sgs.take w from sg, List.mem_map]
  constructor
  · exact fun h => ⟨a, h, rfl⟩
  · rintro ⟨b, hb, e⟩
    have := congrArg (fun s : Str => s.cps.toList) e
    simp only [List.cons.injEq, and_true] at this
    rw [← this]; exact hb
section
variable {P : Program} {w : World} {K : PySem.W.Frag} {mg : Str → Option Value} {base : Heap} {ad : Str → Addr} {fd : Str → FuncData}
theorem scCheckWords : FnScope ["words", "signs", "position", "word", "sign"] ["words", "signs"] (defScope sCheckWords) := ⟨rfl, rfl, rfl, by decide +kernel, rfl, by decide +kernel, by decide +kernel⟩
theorem ok_check_words (X : Tx K mg ad fd) : FnOk P w K mg base CX0 2 (ad "check_words") (fd "check_words") ["words", "signs"] spCWords := by
  have G_is_row := ok_is_rowW (P := P) (w := w) (base := base) X
  refine X.F_check_words.ok scCheckWords (fun vs H Q E h => ?_) (fun cdv A outer s H vs Q E hr h => ?_)
  · obtain ⟨t, ws, w, g, rfl, et, ow, sg, k⟩ := h
    rfl
  · obtain ⟨t, ws, w, g, rfl, et, ow, sg, k⟩ := h
    have HR_is_row : Room 1 _ := hr
    refine ⟨_, (pss_cons (ps_if (pt_not (pt_chain op_le op_le pe_int (pe_callB (call_lenK (K := K) rfl) (by rfl) X.m_len (by decide +kernel) (pa_cons (pv 0) pa_nil)) pe_int))
  (pss_one ps_never)
  pss_nil)
  (pss_one (ps_for PassesOwn.never rfl (pi_enumT (by rfl) X.m_enumerate (pa_cons (pv 0) pa_nil)) (pg_tup rfl (pgs_cons (pg_name (i := 2) scCheckWords.nd rfl (.inl rfl)) (pgs_cons (pg_name (i := 3) scCheckWords.nd rfl (.inl rfl)) pgs_nil)))
  (pss_cons (ps_if (PW.pt (pw_or (pt_not (pt_val (pe_call G_is_row HR_is_row (by rfl) X.g_is_row X.F_is_row.kp X.b_is_row .nil pass0 (pa_cons (pv 3) pa_nil)))) (pw_or1 (pt_not (pt_chain op_le op_le pe_int (pe_callB (call_lenK (K := K) rfl) (by rfl) X.m_len (by decide +kernel) (pa_cons (pv 3) pa_nil)) pe_int)))))
  (pss_one ps_never)
  pss_nil)
  (pss_one (ps_if (pt_not (pt_val (pe_callB (cr_allK (K := K) rfl) (by rfl) X.m_all (by decide +kernel) (pa_cons (pe_lc (own := [("sign", 4)]) (g := gName 4) rfl scCheckWords.nd (pi_str (pv 3)) (blkOk_by (own := [("sign", 4)]) (N := ["words", "signs", "position", "word", "sign"]) (sc := defScope sCheckWords) (by decide +kernel)) (fun _ _ _ _ _ => pg_name (i := 4) scCheckWords.nd rfl (Or.inl rfl)) (fun _ _ _ _ _ => pts_nil) (fun _ _ _ _ _ => (pe_cmpR op_in_sign (pv 4) (pv 1) rfl))) pa_nil))))
  (pss_one ps_never)
  pss_nil)))))), ?_⟩
    have n1 := ow.n1
    have n8 := ow.n8
    refine ⟨.ref t, rfl, .ref t, _, rfl, .inr ⟨_, SqT.of et, rfl⟩, _, _, rfl, rfl, _, rfl, ?_⟩
    rw [List.length_map, decide_eq_true (show (1 : Int) ≤ (ws.length : Int) by omega)]
    refine iteT ⟨_, _, rfl, rfl, _, rfl, ?_⟩
    rw [decide_eq_true (show (ws.length : Int) ≤ 8 by omega)]
    refine iteF ?_
    refine ⟨.ref t, rfl, t, _, rfl, SqT.of et, ?_⟩
    refine for_it (w := walk_enumT (K := K) (a := t) (xs := ws.map V.str)) (fun i σ H' => ∃ (r2 r3 : Option V), σ = [some (.ref t), some (.str g), r2, r3, none] ∧ Same H H') ⟨_, _, rfl, Same.refl⟩ (fun i σ H' _ ⟨_, _, _, s⟩ => SqT.of (s _ _ et)) ?_ ?_
    · rintro i v σ Ha Hb hi ⟨r2, r3, rfl, s4⟩ hy
      obtain ⟨T, u1, u2, rfl, hT, rfl, e1, e2⟩ := hy
      cases e1
      replace e2 : (ws.map V.str)[i]? = some u2 := e2
      rw [List.getElem?_map] at e2
      obtain ⟨z, hz, rfl⟩ := Option.map_eq_some_iff.mp e2
      have mz := List.mem_of_getElem? hz
      obtain ⟨z1, z8, zs⟩ := ow.each z mz
      have s5 : Same H (upd Ha T (.tup [V.int (i : Nat), V.str z])) := Same.trans s4 (Same.new hT)
      refine ⟨T, _, rfl, SqT.of upd_same, rfl, _, _, rfl, _, _, rfl, rfl, ?_⟩
      generalize upd Ha T (.tup [V.int (i : Nat), V.str z]) = H5 at s5 ⊢
      refine ⟨.str z, rfl, z, rfl, ⟨ow.word mz, by omega⟩, fun H6 s6 => ⟨true, rfl, iteF ?_⟩⟩
      refine ⟨.str z, rfl, .str z, _, rfl, lenS (by omega), _, _, rfl, rfl, _, rfl, ?_⟩
      rw [decide_eq_true (show (1 : Int) ≤ (z.length : Int) by omega)]
      refine iteT ⟨_, _, rfl, rfl, _, rfl, ?_⟩
      rw [decide_eq_true (show (z.length : Int) ≤ 8 by omega)]
      refine iteF ?_
      refine ⟨.str z, rfl, z, rfl, fun D hD => ?_⟩
      refine lc_it (w := walk_str (z := z)) (g := gName 4) (tt := tYes) (fun j H' => Same H6 H' ∧ H' D = some (.lst ((List.replicate j true).map V.bl))) ⟨Same.new hD, upd_same⟩ (fun _ _ _ _ => True.intro) ?_ ?_
      · rintro j x H' H7 hj ⟨sj, eD⟩ ⟨rfl, cc, hcc, rfl⟩
        have hc : cc ∈ cl z := by
          have : (cl z)[j]? = some cc := by show z.cps.toList[j]? = _; rw [Array.getElem?_toList]; exact hcc
          exact List.mem_of_getElem? this
        refine gN ⟨rfl, yes_of (iteT ?_)⟩
        refine ⟨.str ⟨#[cc]⟩, rfl, .str g, rfl, cc, g, rfl, rfl, _, eD, ?_, ?_, ?_⟩
        · rw [List.length_map, List.length_replicate, sizeLine_eq]
          have : z.cps.size = z.length := rfl
          omega
        · intro b o e
          rw [upd_ne (ne_of_none e hD)]
          exact sj _ _ e
        · rw [upd_same, decide_eq_true ((okSg_mem sg cc).mpr (zs cc hc)), List.replicate_succ', List.map_append]; rfl
      · rintro H' ⟨sj, eD⟩
        refine ⟨D, _, rfl, SqL.of eD, ?_⟩
        refine ⟨true, by rw [show (List.replicate z.cps.size true).all id = true by simp], iteF ⟨_, _, rfl, Same.trans s5 (Same.trans s6 sj)⟩⟩
    · rintro σ H8 ⟨r2, r3, rfl, s4⟩
      exact k H8 s4
end
end K88
end

section
set_option maxHeartbeats 4000000
/-! barring_state -/
namespace K88
open PySem PySem.Spec PyProof.Rows L2

/-- the numbers of texts, from n on -/
def numK : Nat → List Str → List (Key × V)
  | _, [] => []
  | n, y :: r => (.inr y, .int (n : Int)) :: numK (n + 1) r
def ixK : Nat → List Str → Str → Option Nat
  | _, [], _ => none
  | n, y :: r, x => if y = x then some n else ixK (n + 1) r x
theorem num_val (x : Str) : ∀ (ys : List Str) (n : Nat), valV (numK n ys) (.inr x) = (ixK n ys x).map fun (i : Nat) => V.int ((i : Nat) : Int)
  | [], _ => rfl
  | y :: r, n => by
    unfold numK ixK
    by_cases e : y = x
    · rw [if_pos e, valV_pos (by rw [e])]; rfl
    · rw [if_neg e, valV_neg (fun q => e (Sum.inr.inj q))]
      exact num_val x r (n + 1)
theorem ix_some (x : Str) : ∀ (ys : List Str) (n : Nat), (ixK n ys x).isSome = true ↔ x ∈ ys
  | [], _ => by simp [ixK]
  | y :: r, n => by
    unfold ixK
    by_cases e : y = x
    · rw [if_pos e, e]; simp
    · rw [if_neg e, ix_some x r (n + 1), List.mem_cons]
      exact ⟨.inr, fun q => q.elim (fun z => absurd z.symm e) id⟩
theorem ix_lt (x : Str) : ∀ (ys : List Str) (n i : Nat), ixK n ys x = some i → i < n + ys.length
  | [], _, _, h => by cases h
  | y :: r, n, i, h => by
    unfold ixK at h
    by_cases e : y = x
    · rw [if_pos e] at h; cases h; simp
    · rw [if_neg e] at h
      have := ix_lt x r (n + 1) i h
      simp; omega
/-- where a row leads: to the longest of its ends that is a start, unless a word ends it -/
def barTo (ys ws : List Str) (x : NL) : Option Nat := if (ws.any fun wd => decide (cl wd <:+ x)) = true then none else (tlsN x).findSome? fun y => ixK 0 ys (sl y)
def barGo (ys ws : List Str) (st z : Str) : Option (Str × Nat) := (barTo ys ws (cl st ++ [cz z])).map fun i => (z, i)
def barRow (ys ws : List Str) (w : Nat) (st : Str) : List (Str × Nat) := (sgs.take w).filterMap (barGo ys ws st)
theorem bar_keys {ys ws : List Str} {st : Str} : ∀ (l : List Str), keysR (l.filterMap (barGo ys ws st)) = l.filter fun z => (barGo ys ws st z).isSome
  | [] => rfl
  | z :: l => by
    rw [List.filterMap_cons, List.filter_cons]
    have e : barGo ys ws st z = (barTo ys ws (cl st ++ [cz z])).map fun i => (z, i) := rfl
    cases q : barTo ys ws (cl st ++ [cz z]) with
    | none => rw [e, q]; simpa using bar_keys l
    | some i =>
      rw [e, q]
      show z :: keysR (l.filterMap (barGo ys ws st)) = _
      rw [bar_keys l]; rfl
theorem bar_ok (ys ws : List Str) (w : Nat) (st : Str) : okR w (barRow ys ws w st) := by
  unfold okR barRow
  rw [bar_keys]
  refine List.filter_congr fun z hz => ?_
  rw [Bool.eq_iff_iff, decide_eq_true_eq, List.mem_filter]
  exact ⟨fun h => ⟨hz, h⟩, fun h => h.2⟩
theorem bar_lt {ys ws : List Str} {w : Nat} {st : Str} {e : Str × Nat} (h : e ∈ barRow ys ws w st) : e.2 < ys.length := by
  obtain ⟨z, _, q⟩ := List.mem_filterMap.mp h
  unfold barGo at q
  obtain ⟨i, hi, rfl⟩ := Option.map_eq_some_iff.mp q
  unfold barTo at hi
  split at hi
  · cases hi
  · obtain ⟨y, _, hy⟩ := List.exists_of_findSome?_eq_some hi
    have := ix_lt _ _ _ _ hy
    simp only [Nat.zero_add] at this
    exact this
def spBState : Sp := fun vs H Q _ => ∃ (t N : Addr) (ws ys : List Str) (w : Nat) (st g : Str), vs = [.str st, .str g, .ref t, .ref N] ∧ WordsAt H t ws ∧ ws.length ≤ 8 ∧ H N = some (.dK (numK 0 ys)) ∧ (Str.empty : Str) ∈ ys ∧ 2 ≤ w ∧ w ≤ 4 ∧ okSg w g ∧ st.length ≤ 8 ∧
  ∀ (D : Addr) (H' : Hp), Same H H' → H D = none → H' D = some (.dK (rowK (barRow ys ws w st))) → Q (.ref D) H'
section
variable {P : Program} {w : World} {K : PySem.W.Frag} {mg : Str → Option Value} {base : Heap} {ad : Str → Addr} {fd : Str → FuncData}
theorem scBarringState : FnScope ["start", "signs", "words", "numbers", "leading", "sign", "row", "ends", "word", "at", "end"] ["start", "signs", "words", "numbers"] (defScope sBarringState) := ⟨rfl, rfl, rfl, by decide +kernel, rfl, by decide +kernel, by decide +kernel⟩
theorem ok_bstate (X : Tx K mg ad fd) : FnOk P w K mg base CX0 1 (ad "barring_state") (fd "barring_state") ["start", "signs", "words", "numbers"] spBState := by
  refine X.F_barring_state.ok scBarringState (fun vs H Q E h => ?_) (fun cdv A outer s H vs Q E hr h => ?_)
  · obtain ⟨t, N, ws, ys, w, st, g, rfl, et, n8, eN, e0, w2, w4, sg, st8, k⟩ := h
    rfl
  · obtain ⟨t, N, ws, ys, w, st, g, rfl, et, n8, eN, e0, w2, w4, sg, st8, k⟩ := h
    have HU : (A.deeper (envOfC "barring_state" (defScope sBarringState) s.heap.objs.size (ad "barring_state") cdv)).units + 1 < cLine := by have := hr.un; omega
    refine ⟨_, (pss_cons (ps_set (i := 4) scBarringState.nd rfl (.inl rfl) (by exact pe_dnewK))
  (pss_cons (ps_for PassesOwn.never rfl (pi_str (pv 1)) (pg_name (i := 5) scBarringState.nd rfl (.inl rfl))
  (pss_cons (ps_set (i := 6) scBarringState.nd rfl (.inr rfl) (by exact (pe_op op_add_str (pv 0) (pv 5))))
  (pss_one (ps_if (pt_not (pt_val (pe_callB (cr_anyK (K := K) rfl) (by rfl) X.m_any (by decide +kernel) (pa_cons (pe_lc (own := [("word", 8)]) (g := gName 8) rfl scBarringState.nd (pi_tupK (K := K) rfl (pv 2)) (blkOk_by (own := [("word", 8)]) (N := ["start", "signs", "words", "numbers", "leading", "sign", "row", "ends", "word", "at", "end"]) (sc := defScope sBarringState) (by decide +kernel)) (fun _ _ _ _ _ => pg_name (i := 8) scBarringState.nd rfl (Or.inl rfl)) (fun _ _ _ _ _ => pts_nil) (fun _ _ _ _ _ => (pe_bmK (K := K) rfl PySem.F.plainAttrs_str PySem.F.slot_str_endswith PySem.F.type_str_endswith mt_endswith (pv 6) (pa_cons (pv 8) pa_nil)))) pa_nil))))
  (pss_cons (ps_setLc (i := 7) (own := [("at", 9)]) (g := gName 9) rfl scBarringState.nd rfl rfl (by rfl) (pi_range1 (by rfl) X.m_range (pa_cons (pe_op op_add (pe_callB (call_lenK (K := K) rfl) (by rfl) X.m_len (by decide +kernel) (pa_cons (pv 6) pa_nil)) pe_int) pa_nil)) (blkOk_by (own := [("at", 9)]) (N := ["start", "signs", "words", "numbers", "leading", "sign", "row", "ends", "word", "at", "end"]) (sc := defScope sBarringState) (by decide +kernel)) (fun _ _ _ _ _ => pg_name (i := 9) scBarringState.nd rfl (Or.inl rfl)) (fun _ _ _ _ _ => pts_nil) (fun _ _ _ _ _ => (pe_slice sl_str (pv 6) (po_some (pv 9)) po_none)))
  (pss_one (ps_asg (by exact (pe_ix (ix_listK (K := K) rfl) (pe_lc (own := [("end", 10)]) (g := gName 10) rfl scBarringState.nd (pi_listK (K := K) rfl (pv 7)) (blkOk_by (own := [("end", 10)]) (N := ["start", "signs", "words", "numbers", "leading", "sign", "row", "ends", "word", "at", "end"]) (sc := defScope sBarringState) (by decide +kernel)) (fun _ _ _ _ _ => pg_name (i := 10) scBarringState.nd rfl (Or.inl rfl)) (fun _ _ _ _ _ => pts_one (pt_cmp (pc_din HU (pv 10) (pv 3)))) (fun _ _ _ _ _ => (pe_dget HU (pv 3) (pv 10) (fun _ _ => rfl)))) pe_int (fun _ _ => rfl))) (pg_sub (pv 4) (pv 5) (set_dict HU)))))
  pss_nil))))
  (pss_one (ps_ret (by exact (pv 4)))))), ?_⟩
    have gs := okSg_size sg w4
    have lz : (sgs.take w).length = w := by rw [List.length_take]; show min w 4 = w; omega
    refine fun D nD => ?_
    refine gN ?_
    refine ⟨.str g, rfl, g, rfl, ?_⟩
    let st0 := fun (r5 r6 r7 : Option V) => [some (V.str st), some (V.str g), some (V.ref t), some (V.ref N), some (V.ref D), r5, r6, r7, none, none, none]
    refine for_it (w := walk_str (z := g)) (fun j σ H' => ∃ (r5 r6 r7 : Option V), σ = st0 r5 r6 r7 ∧ Same H H' ∧ H' D = some (.dK (rowK (((sgs.take w).take j).filterMap (barGo ys ws st))))) ⟨_, _, _, rfl, Same.new nD, upd_same⟩ (fun _ _ _ _ _ => True.intro) ?_ ?_
    · rintro j x σ Ha Hb hj ⟨r5, r6, r7, rfl, s1, eD⟩ ⟨rfl, cc, hcc, rfl⟩
      have hz := okSg_at sg hcc
      let z : Str := ⟨#[cc]⟩
      have rl : (st ++ z).length = st.length + 1 := str_app_len st z
      refine ⟨.str st, rfl, .str z, rfl, st, z, rfl, rfl, (by show st.length + 1 ≤ _; rw [sizeLine_eq]; omega), ?_⟩
      refine gN ?_
      have fs : ((sgs.take w).take (j + 1)).filterMap (barGo ys ws st) = ((sgs.take w).take j).filterMap (barGo ys ws st) ++ (barGo ys ws st z).toList := by
        rw [take_snoc hz, List.filterMap_append]
        congr 1
      have cr : cl (st ++ z) = cl st ++ [cz z] := cl_app st z
      refine ⟨.ref t, rfl, t, rfl, ⟨_, SqT.of (s1 _ _ et)⟩, fun D1 nD1 => ?_⟩
      refine lc_it (w := walk_tup (K := K) (a := t) (xs := ws.map V.str)) (g := gName 8) (tt := tYes) (fun i H' => Same Hb H' ∧ H' D1 = some (.lst ((ws.take i).map fun wd => V.bl (decide (cl wd <:+ cl st ++ [cz z]))))) ⟨Same.new nD1, upd_same⟩ (fun _ _ _ ⟨s, _⟩ => SqT.of (s _ _ (s1 _ _ et))) ?_ ?_
      · rintro i v H3 H4 hi ⟨s3, e3⟩ hy
        obtain ⟨rfl, hv⟩ := hy
        replace hv : (ws.map V.str)[i]? = some v := hv
        rw [List.getElem?_map] at hv
        obtain ⟨wd, hw, rfl⟩ := Option.map_eq_some_iff.mp hv
        rw [List.length_map] at hi
        refine gN ⟨rfl, yes_of (iteT ?_)⟩
        refine ⟨.str (st ++ z), rfl, rfl, .str wd, rfl, st ++ z, wd, rfl, rfl, _, e3, ?_, ?_, ?_⟩
        · rw [List.length_map, List.length_take, sizeLine_eq]; omega
        · intro b o e
          rw [upd_ne (ne_of_none e nD1)]
          exact s3 _ _ e
        · rw [upd_same, take_snoc hw, List.map_append, show Txt.endswith (st ++ z) wd = decide (cl wd <:+ cl st ++ [cz z]) from by rw [← cr]; exact Bool.eq_iff_iff.mpr ((ends_iff _ _).trans decide_eq_true_iff.symm)]
          rfl
      · rintro H4 ⟨s4, e4⟩
        rw [List.length_map, List.take_length] at e4
        have e5 : H4 D1 = some (.lst ((ws.map fun wd => decide (cl wd <:+ cl st ++ [cz z])).map V.bl)) := by rw [e4, List.map_map]; rfl
        refine ⟨D1, _, rfl, SqL.of e5, _, rfl, ?_⟩
        rw [show (ws.map fun wd => decide (cl wd <:+ cl st ++ [cz z])).any id = ws.any fun wd => decide (cl wd <:+ cl st ++ [cz z]) by rw [List.any_map]; rfl]
        have s14 := Same.trans s1 s4
        have eD4 : H4 D = some (.dK (rowK (((sgs.take w).take j).filterMap (barGo ys ws st)))) := s4 _ _ eD
        have g0 : barGo ys ws st z = (barTo ys ws (cl st ++ [cz z])).map fun i => (z, i) := rfl
        by_cases an : (ws.any fun wd => decide (cl wd <:+ cl st ++ [cz z])) = true
        · rw [an]
          refine iteF ⟨_, _, _, rfl, s14, ?_⟩
          rw [fs, g0, show barTo ys ws (cl st ++ [cz z]) = none from if_pos an]
          rw [show (Option.map (fun i => (z, i)) (none : Option Nat)).toList = [] from rfl, List.append_nil]
          exact eD4
        · rw [Bool.eq_false_iff.mpr an]
          have bt : barTo ys ws (cl st ++ [cz z]) = (tlsN (cl st ++ [cz z])).findSome? fun y => ixK 0 ys (sl y) := if_neg an
          have lx : (cl st ++ [cz z]).length = st.length + 1 := by rw [List.length_append, cl_len]; rfl
          have tn : (tlsN (cl st ++ [cz z])).length = st.length + 2 := by rw [tls_drop, List.length_map, List.length_range, lx]
          have tl : ∀ i, i < st.length + 2 → (tlsN (cl st ++ [cz z]))[i]? = some ((cl st ++ [cz z]).drop i) := fun i hi => by
            rw [tls_drop, List.getElem?_map, List.getElem?_range (by rw [lx]; omega)]; rfl
          refine iteT ⟨.str (st ++ z), rfl, .str (st ++ z), _, rfl, lenS (by omega), _, _, rfl, rfl, _, rfl, (by omega), (by omega), fun D2 nD2 => ?_⟩
          rw [show ((((st ++ z).length : Nat) : Int) + 1).toNat = st.length + 2 by omega]
          refine lc_range (lo := 0) (n := st.length + 2) (fun i H' => Same H4 H' ∧ H' D2 = some (.lst (((tlsN (cl st ++ [cz z])).take i).map fun y => V.str (sl y)))) ⟨Same.new nD2, upd_same⟩ (fun i H' hi hP => ?_) (fun H5 hP => ?_)
          · obtain ⟨s5, e5⟩ := hP
            refine gN ⟨rfl, yes_of (iteT ?_)⟩
            refine ⟨.str (st ++ z), rfl, .int (0 + (i : Int)), rfl, _, rfl, st ++ z, rfl, (by rw [sizeLine_eq]; omega), _, e5, ?_, ?_, ?_⟩
            · rw [List.length_map, List.length_take, sizeLine_eq]; omega
            · intro b o e
              rw [upd_ne (ne_of_none e nD2)]
              exact s5 _ _ e
            · rw [upd_same, take_snoc (tl i hi), List.map_append, Int.zero_add, cut_from, cr]
              rfl
          · obtain ⟨s5, e5⟩ := hP
            rw [← tn, List.take_length] at e5
            refine gN ?_
            have fm : ∃ i0, (tlsN (cl st ++ [cz z])).findSome? (fun y => ixK 0 ys (sl y)) = some i0 := by
              have : ([] : NL) ∈ tlsN (cl st ++ [cz z]) := by
                have q := tl (st.length + 1) (by omega)
                rw [List.drop_of_length_le (by omega)] at q
                exact List.mem_of_getElem? q
              cases q : (tlsN (cl st ++ [cz z])).findSome? fun y => ixK 0 ys (sl y) with
              | some i0 => exact ⟨i0, rfl⟩
              | none =>
                have z1 := List.findSome?_eq_none_iff.mp q [] this
                have z2 := (ix_some (sl []) ys 0).mpr e0
                rw [z1] at z2; cases z2
            obtain ⟨i0, hi0⟩ := fm
            have hd0 : ((tlsN (cl st ++ [cz z])).filterMap fun y => ixK 0 ys (sl y)).head? = some i0 := by rw [List.head?_filterMap]; exact hi0
            have tn8 : (tlsN (cl st ++ [cz z])).length ≤ 10 := by omega
            generalize tlsN (cl st ++ [cz z]) = L at e5 hd0 tn8 bt hi0
            have s15 := Same.trans s14 s5
            have eN5 := s15 _ _ eN
            refine ⟨.ref D2, rfl, D2, rfl, ⟨_, SqL.of e5⟩, fun D3 nD3 => ?_⟩
            refine lc_it (w := walk_list (K := K) (a := D2) (xs := L.map fun y => V.str (sl y))) (g := gName 10) (fun i H' => Same H5 H' ∧ H' D3 = some (.lst (((L.take i).filterMap fun y => ixK 0 ys (sl y)).map fun (i : Nat) => V.int ((i : Nat) : Int)))) ⟨Same.new nD3, upd_same⟩ (fun _ _ _ ⟨s, _⟩ => SqL.of (s _ _ e5)) ?_ ?_
            · rintro i v H6 H7 hi ⟨s6, e6⟩ hy
              obtain ⟨rfl, hv⟩ := hy
              replace hv : (L.map fun y => V.str (sl y))[i]? = some v := hv
              rw [List.getElem?_map] at hv
              obtain ⟨y, hy, rfl⟩ := Option.map_eq_some_iff.mp hv
              rw [List.length_map] at hi
              have dg : DGet H7 N (.str (sl y)) ((ixK 0 ys (sl y)).map fun (i : Nat) => V.int ((i : Nat) : Int)) := by
                have q := DGet.k (s6 _ _ eN5) (k := .inr (sl y))
                rw [num_val] at q
                exact q
              have ft : (L.take (i + 1)).filterMap (fun y => ixK 0 ys (sl y)) = (L.take i).filterMap (fun y => ixK 0 ys (sl y)) ++ (ixK 0 ys (sl y)).toList := by
                rw [take_snoc hy, List.filterMap_append]
                congr 1
              refine gN ⟨rfl, .str (sl y), rfl, .ref N, rfl, N, _, rfl, dg, _, rfl, ?_⟩
              cases q : ixK 0 ys (sl y) with
              | none =>
                rw [q] at ft
                refine iteF ⟨s6, ?_⟩
                rw [ft, show (none : Option Nat).toList = [] from rfl, List.append_nil]
                exact e6
              | some i1 =>
                rw [q] at ft dg
                refine iteT ⟨.ref N, rfl, .str (sl y), rfl, N, _, rfl, dg, _, e6, ?_, ?_, ?_⟩
                · rw [List.length_map, sizeLine_eq]
                  have := List.length_filterMap_le (fun y => ixK 0 ys (sl y)) (L.take i)
                  rw [List.length_take] at this
                  omega
                · intro b o e
                  rw [upd_ne (ne_of_none e nD3)]
                  exact s6 _ _ e
                · rw [upd_same, ft, List.map_append]; rfl
            · rintro H6 ⟨s6, e6⟩
              rw [List.length_map, List.take_length] at e6
              have s16 := Same.trans s15 s6
              have eD6 : H6 D = some (.dK (rowK (((sgs.take w).take j).filterMap (barGo ys ws st)))) := s6 _ _ (s5 _ _ eD4)
              have nl : lkp (((sgs.take w).take j).filterMap (barGo ys ws st)) z = none := lkp_none fun q => by
                rw [bar_keys] at q
                have q2 := (List.mem_filter.mp q).1
                obtain ⟨i', hi', e'⟩ := List.mem_iff_getElem.mp q2
                rw [List.getElem_take] at e'
                rw [List.length_take] at hi'
                obtain ⟨hj', e2⟩ := List.getElem?_eq_some_iff.mp hz
                have nd : (sgs.take w).Nodup := sgs_nd.sublist (List.take_sublist ..)
                have := (List.getElem_inj (h₀ := by omega) (h₁ := hj') nd).mp (e'.trans e2.symm)
                omega
              refine ⟨D3, _, 0, V.int ((i0 : Nat) : Int), rfl, rfl, SqL.of e6, atI_nat (j := 0) (by rw [List.getElem?_map, ← List.head?_eq_getElem?, hd0]; rfl), ?_⟩
              refine ⟨.ref D, rfl, .str z, rfl, D, _, rfl, DPut.k eD6 (k := .inr z) ?_, ?_⟩
              · rw [rowK_len, sizeLine_eq]
                have := List.length_filterMap_le (barGo ys ws st) ((sgs.take w).take j)
                rw [List.length_take, lz] at this
                omega
              · rw [rowK_put nl i0]
                refine ⟨_, _, _, rfl, fun b o e => ?_, ?_⟩
                · rw [upd_ne (ne_of_none e nD)]
                  exact s16 _ _ e
                · rw [upd_same, fs, g0, bt, hi0]; rfl
    · rintro σ H8 ⟨r5, r6, r7, rfl, s1, eD⟩
      rw [gs, List.take_of_length_le (by rw [lz]; exact Nat.le_refl _)] at eD
      exact ⟨.ref D, rfl, k D H8 s1 nD eD⟩
end
end K88
end

section
set_option maxHeartbeats 4000000
/-! sets of texts whose tables can be walked; sorted of them -/
namespace K88
open PySem PySem.Spec PyProof PyProof.Rows L2
def txtOf : Value → Str
  | .str x _ => x
  | _ => Str.empty
abbrev hsh (P : Program) (w : World) (x : Str) : Int := (PySem.strKind P w).hash x
def TxtE (P : Program) (w : World) (e : Int × Value) : Prop := ∃ x t, e.2 = Value.str x t ∧ e.1 = hsh P w x
abbrev keyT (e : Int × Value) : Str := txtOf e.2
/-- the set of texts at a: S its members, n their number -/
structure SetT (P : Program) (w : World) (h : Heap) (a : Addr) (S : Str → Bool) (n : Nat) : Prop where
  ex : ∃ o es ep t, h.get? a = some o ∧ o.ExactSet ∧ o.data = .set es ep t ∧ (∀ e ∈ es.toList, TxtE P w e) ∧ (es.toList.map keyT).Nodup ∧ (∀ x, S x = true ↔ x ∈ es.toList.map keyT) ∧
    es.size < scanBound ∧ t.fits es.size = true ∧ es.size = n ∧ Ris t.place.toList ∧ (w.params.followText "set-order" = true ∨ t.led = true)
section
variable {P : Program} {w : World} {h h' : Heap} {a : Addr} {S : Str → Bool} {n : Nat}
theorem SetT.keep (R : SetT P w h a S n) (k : ∀ o, h.get? a = some o → h'.get? a = some o) : SetT P w h' a S n :=
  let ⟨o, es, ep, t, ho, r⟩ := R.ex; ⟨o, es, ep, t, k o ho, r⟩
theorem txt_elems {l : List (Int × Value)} (g : ∀ e ∈ l, TxtE P w e) : ElemsOf (PySem.strKind P w) l := fun e he => by
  obtain ⟨x, t, h1, h2⟩ := g e he
  exact ⟨⟨x, by rw [h1]; exact strKind_is P w x t, h2⟩, by rw [h1] <;> rfl⟩
theorem txt_is {e : Int × Value} (g : TxtE P w e) (x : Str) : (PySem.strKind P w).is x e.2 = true ↔ keyT e = x := by
  obtain ⟨y, t, h1, _⟩ := g
  show (PySem.strKind P w).is x e.2 = true ↔ txtOf e.2 = x
  rw [h1]
  constructor
  · exact fun q => ((PySem.strKind P w).inj _ _ _ q (strKind_is P w y t)).symm
  · rintro rfl; exact strKind_is P w _ t
theorem txt_mem {l : List (Int × Value)} (g : ∀ e ∈ l, TxtE P w e) (x : Str) : x ∈ l.map keyT ↔ ∃ e ∈ l, (PySem.strKind P w).is x e.2 = true := by
  rw [List.mem_map]
  exact ⟨fun ⟨e, he, q⟩ => ⟨e, he, (txt_is (g e he) x).mpr q⟩, fun ⟨e, he, q⟩ => ⟨e, he, (txt_is (g e he) x).mp q⟩⟩
theorem SetT.setOf (R : SetT P w h a S n) : h.SetOf (PySem.strKind P w) a S n := by
  obtain ⟨o, es, ep, t, ho, hx, hd, g, nd, hm, hb, hf, hn, _⟩ := R.ex
  exact ⟨o, es, ep, t, ho, hx, hd, txt_elems g, fun k => (hm k).trans (txt_mem g k), hb, hf, hn⟩
theorem noTexts (P : Program) (w : World) (h : Heap) : SetT P w (h.push { cls := .type "set", dict := none, data := .set #[] 0 (.fresh 0 0 (!w.params.followText "set-order")) }) h.objs.size (fun _ => false) 0 :=
  ⟨_, #[], 0, _, Heap.get?_push_size _ rfl, ⟨rfl, rfl, rfl⟩, rfl, (fun e he => by simp at he), (by simp), (fun k => by simp), (by decide), (by rfl), rfl, List.Pairwise.nil, by
    show _ ∨ (!w.params.followText "set-order") = true
    cases w.params.followText "set-order" <;> simp⟩
end
section
variable {P : Program} {w : World} {A : Around} {E : Value → Shared → Prop} {s : Shared} {a : Addr} {S : Str → Bool} {n : Nat}
theorem put_set {h : Heap} {o : Obj} {es es' : Array (Int × Value)} {ep : Nat} {t t' : SetTable} (ho : h.get? a = some o) (hd : o.data = .set es ep t) : (h.update a (Obj.putSet es' t')).get? a = some { o with data := .set es' (ep + 1) t' } := by
  rw [← putSet_of es' t' hd]
  exact Heap.get?_update_self (Obj.putSet es' t') ho (by rw [putSet_of es' t' hd]; rfl)
/-- the new members and table are written, perhaps laid anew -/
theorem write_set {g : Bool → Sem Unit} (hg : ∀ (b : Bool) (s' : Shared) (Q' : Unit → Shared → Prop), Q' () s' → wpAny (model P w) A (g b) Q' E s') {o : Obj} {es : Array (Int × Value)} {ep : Nat} {t : SetTable} (ho : s.heap.get? a = some o) (hx : o.ExactSet) (hd : o.data = .set es ep t)
    {zs : Array (Int × Value)} {u : SetTable} {T : Str → Bool} (g1 : ∀ e ∈ zs.toList, TxtE P w e) (nd : (zs.toList.map keyT).Nodup) (mm : ∀ k, T k = true ↔ k ∈ zs.toList.map keyT) (hb : zs.size < scanBound) (hf : u.fits zs.size = true) (hr : Ris u.place.toList) (hl : w.params.followText "set-order" = true ∨ u.led = true)
    {d : Bool} {R : Option Bool → Shared → Prop} (go : ∀ h', Heap.SameBut a s.heap h' → SetT P w h' a T zs.size → R (some true) { s with heap := h' }) :
    wpAny (model P w) A (do
        storeSet a zs u
        if (!d && u.tooFull) = true then do
            g (relayAll u zs (SetTable.grown zs.size)).2.2
            storeSet a (relayAll u zs (SetTable.grown zs.size)).1 (relayAll u zs (SetTable.grown zs.size)).2.1
            pure (some true)
          else pure (some true)) R E s := by
  have h1 := put_set (es' := zs) (t' := u) ho hd
  have same1 := Heap.SameBut.update s.heap a (Obj.putSet zs u)
  refine wpAny_bind (wpAny_storeSet_of ho hd ?_ (fits_of_scanBound hb))
  split
  · have pm := relayAll_perm u zs (SetTable.grown zs.size)
    have f3 := relayAll_fits u zs (SetTable.grown zs.size)
    have r3 := relayAll_ris u zs (SetTable.grown zs.size)
    have l3 := relayAll_led u zs (SetTable.grown zs.size)
    generalize relayAll u zs (SetTable.grown zs.size) = Z at pm f3 r3 l3 ⊢
    obtain ⟨ys, v, gave⟩ := Z
    dsimp only at pm f3 r3 l3 ⊢
    have sz : ys.size = zs.size := by rw [← Array.length_toList, pm.length_eq, Array.length_toList]
    have b2 : ys.size < scanBound := by omega
    have h2 := put_set (es' := ys) (t' := v) h1 rfl
    refine wpAny_bind (hg _ _ _ (wpAny_bind (wpAny_storeSet_of h1 rfl ?_ (fits_of_scanBound b2))))
    refine wpAny_pure (go _ (same1.trans (Heap.SameBut.update _ a _)) ⟨_, ys, _, v, h2, hx, rfl, fun e he => g1 e (pm.mem_iff.mp he), (pm.map keyT).nodup_iff.mpr nd, fun k => (mm k).trans (pm.map keyT).mem_iff.symm, b2, f3, sz, r3, ?_⟩)
    exact hl.imp id fun z => by rw [l3]; exact z
  · exact wpAny_pure (go _ same1 ⟨_, zs, _, u, h1, hx, rfl, g1, nd, mm, hb, hf, rfl, hr, hl⟩)
theorem add_hashed {x : Str} {tk : Tok} {Q : Bool → Shared → Prop} (R : SetT P w s.heap a S n) (room : n + 1 < scanBound)
    (go : ∀ h', Heap.SameBut a s.heap h' → SetT P w h' a (fun j => S j || decide (j = x)) (if S x = true then n else n + 1) → Q (!S x) { s with heap := h' }) :
    wpAny (model P w) A (setAddHashed a (.str x tk) (hsh P w x)) Q E s := by
  obtain ⟨o, es, ep, t, ho, hx, hd, g, nd, hm, hb, hf, hn, hr, hl⟩ := R.ex
  have isx := strKind_is P w x tk
  have sc : (Value.str x tk).scannable = true := rfl
  have el : ElemsOf (PySem.strKind P w) es.toList := txt_elems g
  unfold setAddHashed setAddHashedIn
  refine wpAny_holding (wpAny_bind (wpAny_setState_of ho hd hf ?_))
  dsimp only
  rw [byScan_of sc hb el, if_pos rfl]
  unfold setAddByScan
  refine wpAny_bind (wpAny_bind (wpAny_rule (wpAny_bind (wpAny_setScan_of isx ho hd hf el ?_))))
  cases fi : List.findIdx? (fun e => (PySem.strKind P w).is x e.2) es.toList with
  | some j =>
    obtain ⟨hj, pj, _⟩ := List.findIdx?_eq_some_iff_getElem.mp fi
    have sx : S x = true := (hm x).mpr ((txt_mem g x).mpr ⟨_, List.getElem_mem hj, pj⟩)
    refine wpAny_pure (wpAny_pure ?_)
    have q := go s.heap (Heap.SameBut.refl a s.heap) ⟨o, es, ep, t, ho, hx, hd, g, nd, fun y => by
      rw [Bool.or_eq_true, decide_eq_true_eq, ← hm y]
      exact ⟨fun z => z.elim id fun e => by rw [e]; exact sx, .inl⟩, hb, hf, by rw [if_pos sx]; exact hn, hr, hl⟩
    rw [sx] at q
    exact q
  | none =>
    have nx : x ∉ es.toList.map keyT := fun z => by
      obtain ⟨e, he, q⟩ := (txt_mem g x).mp z
      rw [List.findIdx?_eq_none_iff.mp fi e he] at q
      cases q
    have sx : S x = false := Bool.eq_false_iff.mpr fun q => nx ((hm x).mp q)
    have gw : ∀ (b : Bool) {s' : Shared} {Q' : Unit → Shared → Prop}, Q' () s' → wpAny (model P w) A (match b with | true => rule "set.scan.the-table-gave-way" | false => pure ()) Q' E s' := fun b s' Q' q => by
      cases b
      · exact wpAny_pure q
      · exact wpAny_rule q
    have pm := layNew_perm t es (hsh P w x) (.str x tk)
    have f1 := layNew_fits t es (hsh P w x) (.str x tk)
    have r1 := layNew_ris t es (hsh P w x) (.str x tk) hr
    have l1 := layNew_led t es (hsh P w x) (.str x tk)
    dsimp only
    generalize layNew t es (hsh P w x) (.str x tk) = Z at pm f1 r1 l1 ⊢
    obtain ⟨zs, u, dm, gave⟩ := Z
    dsimp only at pm f1 r1 l1 ⊢
    rw [Array.toList_push] at pm
    have pc : zs.toList.Perm ((hsh P w x, Value.str x tk) :: es.toList) := pm.trans (List.perm_append_singleton _ _)
    have pk : (zs.toList.map keyT).Perm (x :: es.toList.map keyT) := pc.map keyT
    have sz : zs.size = n + 1 := by rw [← Array.length_toList, pc.length_eq, List.length_cons, Array.length_toList, hn]
    have g1 : ∀ e ∈ zs.toList, TxtE P w e := fun e he => by
      rcases List.mem_cons.mp (pc.mem_iff.mp he) with z | z
      · rw [z]; exact ⟨x, tk, rfl, rfl⟩
      · exact g e z
    have mm : ∀ y, (S y || decide (y = x)) = true ↔ y ∈ zs.toList.map keyT := fun y => by
      rw [Bool.or_eq_true, decide_eq_true_eq, hm y, pk.mem_iff, List.mem_cons]
      exact Or.comm
    have b1 : zs.size < scanBound := by omega
    have led : w.params.followText "set-order" = true ∨ u.led = true := hl.imp id fun z => by rw [l1]; exact z
    have nd1 : (zs.toList.map keyT).Nodup := pk.nodup_iff.mpr (List.nodup_cons.mpr ⟨nx, nd⟩)
    have fin : ∀ h', Heap.SameBut a s.heap h' → SetT P w h' a (fun j => S j || decide (j = x)) zs.size → Q true { s with heap := h' } := fun h' sb r => by
      have q := go h' sb
      rw [sx] at q
      rw [sz] at r
      exact q r
    refine wpAny_bind (gw _ ?_)
    split
    · refine wpAny_bind ?_
      rw [hashByValue_scannable 8 sc]
      refine wpAny_pure ?_
      refine write_set ?_ ho hx hd g1 nd1 mm b1 ?_ ?_ ?_ ?_
      · intro b s' Q' q; exact gw b q
      · first | (split <;> first | exact f1 | exact SetTable.fits_plain_off f1) | exact f1
      · first | (split <;> exact r1) | exact r1
      · first | (split <;> exact led) | exact led
      · intro h' sb r; exact wpAny_pure (fin h' sb r)
    · refine wpAny_bind (wpAny_pure ?_)
      rw [if_pos rfl]
      refine write_set ?_ ho hx hd g1 nd1 mm b1 f1 r1 led ?_
      · intro b s' Q' q; exact gw b q
      · intro h' sb r; exact wpAny_pure (fin h' sb r)
/-- found.add(x) -/
theorem add_text {x : Str} {tk : Tok} {Q : Value → Shared → Prop} (R : SetT P w s.heap a S n) (room : n + 1 < scanBound)
    (go : ∀ h', Heap.SameBut a s.heap h' → SetT P w h' a (fun j => S j || decide (j = x)) (if S x = true then n else n + 1) → Q .none { s with heap := h', toks := s.toks + 1 }) :
    wpAny (model P w) A (call (.builtin "set.add") [.ref a, .str x tk]) Q E s := by
  have so : s.heap.SetOf (PySem.strKind P w) a S n := R.setOf
  refine wpAny_call_entry F.slot_set_add so.typeIs F.entry_set_add ?_ (F.args_set_add_2 _ _)
  unfold Builtin.«set.add» Builtin.Frozenset.oneOther
  simp only [List.isEmpty_nil, bind_assoc]
  unfold Builtin.Frozenset.addrOf setAdd
  refine wpAny_bind (wpAny_pure (wpAny_bind (wpAny_pure (wpAny_bind (wpAny_holding (wpAny_bind ((PySem.strKind P w).pyHash (strKind_is P w x tk) ?_)))))))
  refine add_hashed (s := { s with toks := s.toks + 1 }) R room fun h' sb r => ?_
  exact wpAny_pure ⟨_, rfl, go h' sb r⟩
/-- sorted(found), fewer than 64 members -/
theorem sorted_texts {Q : Value → Shared → Prop} (R : SetT P w s.heap a S n) (hh : A.handled = none) (h64 : n < 64)
    (go : ∀ s' p (out : Array Value) (c : Nat) (ys : List Str), (∀ b o, s.heap.get? b = some o → s'.heap.get? b = some o) → s'.gens = s.gens → s'.os = s.os → s.heap.objs.size ≤ p →
      s'.heap.get? p = some (seqObj "list" out c) → StrsAre out.toList ys → sortedS ys = true → ys.Nodup → (∀ x, x ∈ ys ↔ S x = true) → ys.length = n → Q (.ref p) s') :
    wpAny (model P w) A (call (.builtin "sorted") [.ref a]) Q E s := by
  obtain ⟨o, es, ep, t, ho, hx, hd, g, nd, hm, hb, hf, hn, hr, hl⟩ := R.ex
  refine Calls.call_function_entry kind_sorted plain_sorted entry_sorted (args_sorted1 _) ?_
  unfold Builtin.«sorted»
  refine wpAny_bind (m := checkCount "sorted" 1 1 _) (wpAny_pure (wpAny_bind (collect_set (A := A.in1) hh ⟨o, ho, hx.1, hd⟩ hf hb hr hl fun s1 vs k1 hz g1 o1 pm => ?_)))
  have vl : vs.length = n := by rw [pm.length_eq, List.length_map, Array.length_toList]; exact hn
  have each : ∀ v ∈ vs, ∃ x t, v = Value.str x t := fun v hv => by
    obtain ⟨e, he, q⟩ := List.mem_map.mp (pm.mem_iff.mp hv)
    obtain ⟨x, t, h1, _⟩ := g e he
    exact ⟨x, t, q.symm.trans h1⟩
  have are : ∀ l : List Value, (∀ v ∈ l, ∃ x t, v = Value.str x t) → StrsAre l (l.map txtOf) := fun l => by
    induction l with
    | nil => exact fun _ => .nil
    | cons v l ih =>
      intro h
      obtain ⟨x, t, rfl⟩ := h v List.mem_cons_self
      exact .cons x t (ih fun u hu => h u (List.mem_cons_of_mem _ hu))
  have hS := are vs each
  have pk : (vs.map txtOf).Perm (es.toList.map keyT) := by
    have q := pm.map txtOf
    rwa [List.map_map] at q
  refine wpAny_bind (wpAny_newList ?_ (by rw [vl, sizeLine_eq]; omega))
  have hoL : (s1.heap.push (seqObj "list" vs.toArray 0)).get? s1.heap.objs.size = some (seqObj "list" vs.toArray 0) := Heap.get?_push_size _ rfl
  refine wpAny_bind (wpAny_holding (wpAny_call_entry slot_list_sort ⟨_, hoL, rfl⟩ entry_list_sort (list_sort_treeKAny strKind_oneLt hoL hS.keysOf (fun v₁ v₂ rest e => keyKind_strs (by rw [← e]; exact hS)) (by rw [vl, sizeLine_eq]; omega) fun st' a1 a2 => ⟨_, rfl, ?_⟩) (args_list_sort _)))
  obtain ⟨ys, y1, y2, y3⟩ := sorted_out_str hS a1 a2
  obtain ⟨c, hc⟩ := sortedHeap_at (vs := vs) (out := (arrOf st').map (·.2)) hoL
  have pn : ys.Perm (es.toList.map keyT) := y2.trans pk
  refine wpAny_pure ⟨_, rfl, go _ s1.heap.objs.size _ c ys (fun b u e => ?_) g1 o1 hz hc y1 y3 (pn.nodup_iff.mpr nd) (fun k => by rw [pn.mem_iff, ← hm k]) (by rw [pn.length_eq, List.length_map, Array.length_toList]; exact hn)⟩
  have q := k1 b u e
  have l := Heap.lt_size q
  show (sortedHeap (s1.heap.push (seqObj "list" vs.toArray 0)) s1.heap.objs.size vs _).get? b = some u
  rw [sortedHeap_old (Nat.ne_of_lt l) (by rw [size_push']; exact Nat.lt_succ_of_lt l)]
  exact Heap.get?_push_of_some _ q
end
/-- such a set, as a tracked object -/
def SetTO (P : Program) (w : World) (a : Addr) (S : Str → Bool) (n : Nat) : HO := .ext fun h => SetT P w h a S n
section
variable {X : Cx}
theorem setTO_new {w : World} {P : Program} {H : Hp} {h : Heap} {a : Addr} {S : Str → Bool} {n : Nat} (R : SetT P w h a S n) : ObjOk P w H h a (SetTO P w a S n) :=
  ⟨R, let ⟨o, _, _, _, ho, _⟩ := R.ex; ⟨o, ho⟩, fun _ _ p k => p.keep k⟩
theorem setTO_get {pins : List (Addr × Obj)} {σ : L2.St} {H : Hp} {s : Shared} {a : Addr} {S : Str → Bool} {n : Nat} (I : Inv X pins σ H s) (ha : H a = some (SetTO X.prog X.w a S n)) : SetT X.prog X.w s.heap a S n := (I.hok a _ ha).1
def rSortedTx (P : Program) (w : World) : List V → Hp → VK → Prop := fun vs H Q => ∃ (a : Addr) (S : Str → Bool) (n : Nat), vs = [V.ref a] ∧ H a = some (SetTO P w a S n) ∧ n < 64 ∧
  ∀ (ys : List Str) (p : Addr), sortedS ys = true → ys.Nodup → (∀ x, x ∈ ys ↔ S x = true) → ys.length = n → H p = none → Q (.ref p) (upd H p (.lst (ys.map V.str)))
theorem cr_sortedTx (hc : X.calm = true) : CallR X (.builtin "sorted") (rSortedTx X.prog X.w) := by
  intro pins s σ H vs us Q I r h
  obtain ⟨a, S, n, rfl, ha, h64, q⟩ := h
  rw [Vals.ref1 r]
  refine sorted_texts (setTO_get I ha) (I.ok.hd hc) h64 fun s' p out c ys k g o hp hg hi h1 h2 h3 hl => ?_
  have ll : (ys.map V.str).length ≤ sizeLine := by rw [List.length_map, hl, sizeLine_eq]; omega
  have hn : H p = none := I.hok.fresh hp
  have J : Inv X pins σ (upd H p (.lst (ys.map V.str))) { s with heap := s'.heap, gens := s'.gens, drawn := s'.drawn, toks := s'.toks } :=
    I.call (ch := []) (Un.laid k hp hn) (I.hok.laid k hp ⟨ll, out.toList, c, vals_of_strs hi, hg⟩) (by rw [g]; exact I.bare) (fun _ z => nomatch z)
  have e : s' = { s with heap := s'.heap, gens := s'.gens, drawn := s'.drawn, toks := s'.toks } := by
    cases s'
    cases s
    cases o
    rfl
  rw [e]
  exact ⟨.ref p, _, J, rfl, q ys p h1 h2 h3 hl hn⟩
end
end K88
end

section
set_option maxHeartbeats 4000000
/-! a set comprehension of two sources without tests, its members texts (or whole numbers) -/
namespace K88
open PySem PySem.Spec PyProof PyProof.Rows L2
abbrev gens2 (ta ia tb ib : Expr) : List Comprehension := [⟨ta, ia, [], 0⟩, ⟨tb, ib, [], 0⟩]
abbrev SC2 (e0 ta ia tb ib : Expr) (sc : Scope) (ps : Pos) : Expr := .SetComp e0 (gens2 ta ia tb ib) sc ps
theorem turn_outer (e0 ta ia tb ib : Expr) (sc : Scope) (ps : Pos) (src dst : Value) (en : Env) : compTurn (SC2 e0 ta ia tb ib sc ps) 0 src dst en = (do
    standAt ia.pos
    match ← pyNext src with
    | none => pure (.done .next)
    | some u => do
      letOwnedTupleGo ta src u
      assign ta en u
      let y ← eval ib en
      standAt ib.pos
      let y ← foldedSetIterable ib en y
      let _ ← runOwn (.compStart (SC2 e0 ta ia tb ib sc ps) 1 (← holding [y] (pyIter y)) dst en) en
      again (.compLoop (SC2 e0 ta ia tb ib sc ps) 0 src dst en)) := by rfl
theorem turn_inner (e0 ta ia tb ib : Expr) (sc : Scope) (ps : Pos) (src dst : Value) (en : Env) : compTurn (SC2 e0 ta ia tb ib sc ps) 1 src dst en = (do
    standAt ib.pos
    match ← pyNext src with
    | none => pure (.done .next)
    | some u => do
      letOwnedTupleGo tb src u
      assign tb en u
      (do let y ← eval e0 en; standAt e0.pos; let _ ← call (.builtin "set.add") [dst, y])
      again (.compLoop (SC2 e0 ta ia tb ib sc ps) 1 src dst en)) := by rfl
abbrev NoX : Value → Shared → Prop := fun _ _ => False
section
variable {pg : Program} {w : World} {A : Around} {R : Result → Shared → Prop} {s0 : Shared} {e0 ta ia tb ib : Expr} {sc : Scope} {ps : Pos} {src dst : Value} {en : Env}
theorem nox {α : Type} {c : Sem α} {Q : α → Shared → Prop} {E : Value → Shared → Prop} {s : Shared} (h : wpAny (model pg w) A c Q NoX s) : wpAny (model pg w) A c Q E s := wpAny_mono h (fun _ _ q => q) fun _ _ q => q.elim
theorem nox_then {α : Type} {c : Sem α} {Q Q' : α → Shared → Prop} {E : Value → Shared → Prop} {s : Shared} (h : wpAny (model pg w) A c Q NoX s) (k : ∀ x s', Q x s' → Q' x s') : wpAny (model pg w) A c Q' E s := wpAny_mono h k fun _ _ q => q.elim
/-- the outer walk -/
theorem walk_outer (hf : ∀ y, foldedSetIterable ib en y = pure y) (J : Nat → Shared → Prop)
    (go : ∀ n s, J n s → wpAny (model pg w) A (pyNext src) (fun r s1 => match r with
      | none => R (.ok .next) s1
      | some u => wpAny (model pg w) A (letOwnedTupleGo ta src u) (fun _ s2 => wpAny (model pg w) A (assign ta en u) (fun _ s3 =>
          wpAny (model pg w) A (eval ib en) (fun y s4 => wpAny (model pg w) A (pyIter y) (fun z s5 =>
            codeAny (model pg w) A (.compStart (SC2 e0 ta ia tb ib sc ps) 1 z dst en) (fun r s' => match r with
              | .ok _ => ∃ m, m < n ∧ J m s'
              | .error _ => False) s5) NoX s4) NoX s3) NoX s2) NoX s1) NoX s)
    (n : Nat) (h : J n s0) : codeAny (model pg w) A (.compLoop (SC2 e0 ta ia tb ib sc ps) 0 src dst en) R s0 := by
  refine codeAny_loop rfl J (fun n s hJ => ?_) n h
  show wpAny _ A ((compTurn (SC2 e0 ta ia tb ib sc ps) 0 src dst en).onRaise (fun v => do noteFrame v en; theTreesLotGoes v)) _ _ s
  refine wpAny_noted ?_
  rw [turn_outer]
  refine wpAny_bind (wpAny_standAt (wpAny_bind (nox_then (go n s hJ) fun r s1 q1 => ?_)))
  cases r with
  | none => exact wpAny_pure q1
  | some u =>
    refine wpAny_bind (nox_then q1 fun _ s2 q2 => wpAny_bind (nox_then q2 fun _ s3 q3 => wpAny_bind (nox_then q3 fun y s4 q4 => ?_)))
    refine wpAny_bind (wpAny_standAt (wpAny_bind (wpAny_of_eq (hf y) (wpAny_bind (wpAny_holding (nox_then q4 fun z s5 q5 => ?_))))))
    refine wpAny_bind (wpAny_runOwn ?_)
    rw [Around.mark_none]
    refine codeAny_mono q5 fun r s' hr => ?_
    match r, hr with
    | .ok f, hr =>
      first
        | exact wpAny_pure ⟨rfl, hr⟩
        | exact wpAny_bind (wpAny_pure (wpAny_pure ⟨rfl, hr⟩))
/-- the inner walk -/
theorem walk_inner (J : Nat → Shared → Prop)
    (go : ∀ n s, J n s → wpAny (model pg w) A (pyNext src) (fun r s1 => match r with
      | none => R (.ok .next) s1
      | some u => wpAny (model pg w) A (letOwnedTupleGo tb src u) (fun _ s2 => wpAny (model pg w) A (assign tb en u) (fun _ s3 =>
          wpAny (model pg w) A (eval e0 en) (fun y s4 => wpAny (model pg w) A (call (.builtin "set.add") [dst, y]) (fun _ s5 => ∃ m, m < n ∧ J m s5) NoX s4) NoX s3) NoX s2) NoX s1) NoX s)
    (n : Nat) (h : J n s0) : codeAny (model pg w) A (.compLoop (SC2 e0 ta ia tb ib sc ps) 1 src dst en) R s0 := by
  refine codeAny_loop rfl J (fun n s hJ => ?_) n h
  show wpAny _ A ((compTurn (SC2 e0 ta ia tb ib sc ps) 1 src dst en).onRaise (fun v => do noteFrame v en; theTreesLotGoes v)) _ _ s
  refine wpAny_noted ?_
  rw [turn_inner]
  refine wpAny_bind (wpAny_standAt (wpAny_bind (nox_then (go n s hJ) fun r s1 q1 => ?_)))
  cases r with
  | none => exact wpAny_pure q1
  | some u =>
    refine wpAny_bind (nox_then q1 fun _ s2 q2 => wpAny_bind (nox_then q2 fun _ s3 q3 => ?_))
    exact wpAny_bind (wpAny_bind (nox_then q3 fun y s4 q4 => wpAny_bind (wpAny_standAt (wpAny_bind (nox_then q4 fun _ s5 q5 => wpAny_pure (wpAny_pure ⟨rfl, q5⟩))))))
/-- a walk begins -/
theorem begin_at {k : Nat} (hk : k = 0 ∨ k = 1) (h0 : codeAny (model pg w) A (.compLoop (SC2 e0 ta ia tb ib sc ps) k src dst en) R s0)
    (h : wpAny (model pg w) A (pyIter src) (fun z s' => codeAny (model pg w) A (.compLoop (SC2 e0 ta ia tb ib sc ps) k z dst en) R s')
      (notedBy (model pg w) A en fun v s' => R (.error v) s') s0) :
    codeAny (model pg w) A (.compStart (SC2 e0 ta ia tb ib sc ps) k src dst en) R s0 := by
  refine codeAny_of_tree ?_
  show wpAny _ _ ((compStart (SC2 e0 ta ia tb ib sc ps) k src dst en).onRaise (fun v => do noteFrame v en; standAt theWindowsPlace)) _ _ s0
  refine wpAny_notedAt ?_
  unfold compStart
  rcases hk with rfl | rfl
  all_goals
    show wpAny _ _ (ask >>= _) _ _ s0
    refine wpAny_bind (wpAny_askSetting (wpAny_ite ?_))
    split
    · first
        | exact wpAny_bind (wpAny_pure (wpAny_pure (And.intro rfl h0)))
        | exact wpAny_pure (And.intro rfl h0)
    · first
        | exact wpAny_bind (wpAny_rule (wpAny_bind (wpAny_standAt (wpAny_bind (wpAny_mono h (fun z s' q => wpAny_pure (And.intro rfl q)) fun _ _ q => q)))))
        | (refine wpAny_bind (wpAny_rule ?_); show wpAny _ _ (standAt _ >>= _) _ _ _; exact wpAny_bind (wpAny_standAt (wpAny_bind (wpAny_mono h (fun z s' q => wpAny_pure (And.intro rfl q)) fun _ _ q => q))))
end
section
variable {X : Cx}
/-- one more member -/
theorem member_in {pins : List (Addr × Obj)} {σ : L2.St} {H : Hp} {s : Shared} {E : Value → Shared → Prop} {D : Addr} {S : Str → Bool} {n : Nat} {x : Str} {u : Value} {Q : Value → Shared → Prop} (I : Inv X pins σ H s) (hD : H D = some (SetTO X.prog X.w D S n)) (room : n + 1 < scanBound) (r : RelV (.str x) u)
    (go : ∀ s', Inv X pins σ (upd H D (SetTO X.prog X.w D (fun j => S j || decide (j = x)) (if S x = true then n else n + 1))) s' → Q .none s') : wpAny (model X.prog X.w) X.A (call (.builtin "set.add") [.ref D, u]) Q E s := by
  obtain ⟨tk, rfl⟩ := r
  refine add_text (setTO_get I hD) room fun h' sb new => ?_
  have ex : ∃ o, h'.get? D = some o := by
    obtain ⟨o, _, _, _, ho, _⟩ := new.ex
    exact ⟨o, ho⟩
  exact go _ (I.write (e := D) (t' := s.toks + 1) (by rw [hD]; trivial) (.inl rfl) (fun b o hb ho => (sb.2 b hb).trans ho) ex (setTO_new new))
/-- {e for ta in ia for tb in ib}: D the new set; behind the outer target's store the inner walk, from which Nx is reached -/
def tSc2 (P : Program) (w : World) (wi : TI) (ga : TG) (wj : TI) (gb : TG) (te : TE) (vs us : List Nat) : TE := fun σ H Q => wi σ H fun J H1 => ∀ D, H1 D = none → ∃ W : Nat → Nat → Hp → Prop,
  (∃ m, W 0 m (upd H1 D (SetTO P w D (fun _ => false) 0))) ∧ ∀ i m H, W i m H → (J.stop i H ∧ Q (.ref D) H) ∨ (J.go i H ∧ ∃ Nx : Hp → Prop, (∀ H', Nx H' → ∃ m', m' < m ∧ W (i + 1) m' H') ∧
    ∀ x H', J.yld i H x H' → ga x (wipe σ vs) H' fun τ H2 => wipe τ vs = wipe σ vs ∧ wj τ H2 fun L H3 => ∃ V1 : Nat → Nat → Hp → Prop,
      (∃ m, V1 0 m H3) ∧ ∀ j k H, V1 j k H → (L.stop j H ∧ Nx H) ∨ (L.go j H ∧ ∃ Ny : Hp → Prop, (∀ H', Ny H' → ∃ k', k' < k ∧ V1 (j + 1) k' H') ∧
        ∀ y H', L.yld j H y H' → gb y (wipe τ us) H' fun υ H4 => wipe υ us = wipe τ us ∧ te υ H4 fun z H5 => ∃ (q : Str) (S : Str → Bool) (n : Nat), z = .str q ∧ H5 D = some (SetTO P w D S n) ∧ n + 1 < scanBound ∧
          Ny (upd H5 D (SetTO P w D (fun j => S j || decide (j = q)) (if S q = true then n else n + 1)))))
abbrev Blk (X : Cx) (sc : Scope) (P : Cx → Prop) : Prop := ∀ (s : Shared) (H : Hp) (C : Addr) (l : List (Str × Addr)) (f : List Addr), P (X.blk s H sc (compEnvC sc l C X.env) f)
theorem core_sc2 {pins : List (Addr × Obj)} {s : Shared} {σ : L2.St} {H : Hp} {Q : VK} {e0 ta ia tb ib : Expr} {sc : Scope} {own : List (Str × Nat)} {us : List Nat} {ps ps' : Pos} {wi wj : TI} {ga gb : TG} {te : TE} {use : Option (Value → Sem Unit)} {Qf : Value → Shared → Prop}
    (hc : X.calm = true) (hN : X.N.Nodup) (I : Inv X pins σ H s) (hi : PI X ta ia wi) (ok : BlkOk X.N X.env.scope sc own) (hu : ∀ i ∈ us, i ∈ own.map (·.2))
    (hga : Blk X sc fun Y => PG Y ta ga) (hj : Blk X sc fun Y => PI Y tb ib wj) (hgb : Blk X sc fun Y => PG Y tb gb) (he : Blk X sc fun Y => PE Y e0 te) (fa : ∀ x, foldedSetIterable ia X.env x = pure x) (fb : ∀ en x, foldedSetIterable ib en x = pure x)
    (h : tSc2 X.prog X.w wi ga wj gb te (own.map (·.2)) us σ H Q)
    (fin : ∀ D C s' m H', Inv X pins σ H' s' → Q (.ref D) H' → s'.heap.Ns C m → FpOk X pins H' C → compPost (model X.prog X.w) X.A X.xe use Qf (.ref D) C (.ok .next) s') :
    wpAny (model X.prog X.w) X.A (comprehension (SC2 e0 ta ia tb ib sc ps) sc X.env ps' (newSet (.type "set")) false (eval ia X.env) use) Qf X.xe s := by
  have free : ∀ y ∈ sc.names, y.2 = .free → ∃ c, X.env.cells.lookup y.1 = some c := fun y hy e => (ok.free y hy e).elim (fun z => I.ok.has _ (.inl z)) fun z => I.ok.has _ (.inr z)
  refine wpAny_comprehension_free (use := use) rfl fa (closure_ok free) ok.kind (fun y hy e => by rw [ok.uniq y hy, e]) (thn (hi.run pins s σ H _ I h) fun v s1 h1 => thn h1 fun v2 s2 h2 => ?_)
  obtain ⟨it, fp, tn, J, H2, rfl, I2, T, st2, f2, q⟩ := h2
  refine PpSet.newSet_ok (newEnv_comp ?_)
  obtain ⟨D, hD⟩ : ∃ D, D = s2.heap.objs.size := ⟨_, rfl⟩
  rw [← hD]
  have nD : H2 D = none := I2.hok.fresh (Nat.le_of_eq hD.symm)
  obtain ⟨W, ⟨m0, w0⟩, turn⟩ := q D nD
  let O0 : HO := SetTO X.prog X.w D (fun _ => false) 0
  obtain ⟨s3, hs3⟩ : ∃ s3 : Shared, s3 = { s2 with heap := s2.heap.push { cls := .type "set", dict := none, data := .set #[] 0 (.fresh 0 0 (!X.w.params.followText "set-order")) } } := ⟨_, rfl⟩
  have h3 : s3.heap = s2.heap.push { cls := .type "set", dict := none, data := .set #[] 0 (.fresh 0 0 (!X.w.params.followText "set-order")) } := by rw [hs3]
  have I3 : Inv X pins σ (upd H2 D O0) s3 := by
    rw [hs3]
    refine I2.laid (t' := s2.toks) (fun b o e => Heap.get?_push_of_some _ e) (Nat.le_of_eq hD.symm) ?_
    have z := noTexts X.prog X.w s2.heap
    rw [← hD] at z
    exact setTO_new z
  rw [← hs3]
  have lt2 : ∀ b ∈ fp, b < s2.heap.objs.size := fun b hb => let ⟨o, e, _⟩ := T.obj _ _ st2 b hb; Heap.lt_size e
  have f3 : ∀ b ∈ fp, FpOk X pins (upd H2 D O0) b ∧ b < s3.heap.objs.size := fun b hb => by
    have l := lt2 b hb
    refine ⟨⟨?_, (f2 b hb).2⟩, by rw [h3, Heap.size_push]; exact Nat.lt_succ_of_lt l⟩
    rw [upd_ne (by rw [hD]; exact Nat.ne_of_lt l)]
    exact (f2 b hb).1
  have st3 : tn 0 s3.heap := T.keep _ _ _ st2 fun b _ o e => by rw [h3]; exact Heap.get?_push_of_some _ e
  have I4 := block_start I3 ok hN f3
  let cells := cellsFrom (s3.heap.objs.size + 1) sc.names (cloFrom X.env.cells sc.names [])
  have pga := hga s3 (upd H2 D O0) s3.heap.objs.size cells fp
  have pj := hj s3 (upd H2 D O0) s3.heap.objs.size cells fp
  have pgb := hgb s3 (upd H2 D O0) s3.heap.objs.size cells fp
  have pe := he s3 (upd H2 D O0) s3.heap.objs.size cells fp
  show codeAny _ _ (.compStart (SC2 e0 ta ia tb ib sc ps) 0 (.ref it) (.ref D) (compEnvC sc cells s3.heap.objs.size X.env)) (compPost (model X.prog X.w) X.A X.xe use Qf (.ref D) s3.heap.objs.size) { s3 with heap := pushCells (s3.heap.push { cls := .type "dict", data := .dict #[] }) sc.names }
  have nf : ∀ b ∈ fp, (upd H2 D O0) b = none := fun b hb => (f3 b hb).1.1
  obtain ⟨en, hen⟩ : ∃ en, en = compEnvC sc cells s3.heap.objs.size X.env := ⟨_, rfl⟩
  have enL : en.locals = s3.heap.objs.size := by rw [hen]; rfl
  obtain ⟨s4, hs4⟩ : ∃ s4 : Shared, s4 = { s3 with heap := pushCells (s3.heap.push { cls := .type "dict", data := .dict #[] }) sc.names } := ⟨_, rfl⟩
  rw [← hs4] at I4 ⊢
  have I4 : Inv (X.blk s3 (upd H2 D O0) sc (compEnvC sc cells s3.heap.objs.size X.env) fp) [] (wipe σ (own.map (·.2))) (upd H2 D O0) s4 := I4
  rw [← hen] at I4 pga pj pgb pe ⊢
  have w0 : W 0 m0 (upd H2 D O0) := w0
  generalize upd H2 D O0 = H3 at I3 I4 pga pj pgb pe w0 nf f3
  obtain ⟨Y, hY⟩ : ∃ Y, Y = X.blk s3 H3 sc en fp := ⟨_, rfl⟩
  have st4 : tn 0 s4.heap := T.keep _ _ _ st3 fun b _ o e => by rw [hs4]; exact pushCells_keeps _ _ _ _ (Heap.get?_push_of_some _ e)
  have still : ∀ {τ : L2.St} {H' : Hp} {s' : Shared}, Inv (X.blk s3 H3 sc en fp) [] τ H' s' → (∀ b ∈ fp, H' b = none) → ∀ b ∈ fp, FpOk (X.blk s3 H3 sc en fp) [] H' b := fun {τ H' s'} I' hn b hb =>
    ⟨hn b hb, (I'.ok.exf b hb).1, I'.ok.exfs b hb, .inl hb, fun x c e => (I'.ok.exf b hb).2 x c e, fun p hp => absurd (show p ∈ ([] : List (Addr × Obj)) ++ [] from hp) (by simp)⟩
  let At : Nat → Shared → Prop := fun n s' => ∃ i H', Inv (X.blk s3 H3 sc en fp) [] (wipe σ (own.map (·.2))) H' s' ∧ tn i s'.heap ∧ (∀ b ∈ fp, H' b = none) ∧ W i n H'
  have outer : codeAny (model X.prog X.w) X.A (.compLoop (SC2 e0 ta ia tb ib sc ps) 0 (.ref it) (.ref D) en) (compPost (model X.prog X.w) X.A X.xe use Qf (.ref D) s3.heap.objs.size) s4 := by
    refine walk_outer (fb en) At ?_ m0 ⟨0, H3, I4, st4, nf, w0⟩
    rintro n s5 ⟨i, H5, I5, st5, n5, w5⟩
    rcases turn i n H5 w5 with ⟨stop, qq⟩ | ⟨go, Nx, less, step⟩
    · refine thnF (T.done (X.blk s3 H3 sc en fp) rfl rfl rfl hc i [] s5 _ H5 NoX I5 (still I5 n5) st5 stop) fun r s6 ⟨hr, I6⟩ => ?_
      subst hr
      have I7 : Inv X pins σ H5 s6 := I3.call' (ch := fp) I6.os I6.base I6.hok I6.bare fun b hb => let z := (f3 b hb).1.2; ⟨z.2.2.1, z.1, z.2.2.2.1, z.2.2.2.2⟩
      have nC : H5 s3.heap.objs.size = none := by
        have z : H5 en.locals = none := I6.free
        rwa [enL] at z
      obtain ⟨m, hn, _⟩ := I6.loc
      have hn : s6.heap.Ns en.locals m := hn
      rw [enL] at hn
      exact fin D s3.heap.objs.size s6 m H5 I7 qq hn (I3.fpOk (Nat.le_refl _) nC)
    · refine thnF (T.item (X.blk s3 H3 sc en fp) rfl rfl rfl hc i [] s5 _ H5 NoX I5 (still I5 n5) st5 go) fun r s6 ⟨u, hr, h6⟩ => ?_
      subst hr
      refine thnF h6 fun _ s7 ⟨x, H7, I7, r7, y7, st7, n7⟩ => ?_
      have J7 := I7.pinned (still I7 n7) (T.obj _ _ st7)
      refine thnF (pga.run _ s7 _ H7 x u _ J7 r7 (step x H7 y7)) fun _ s8 ⟨τ, H8, I8, e8, q8⟩ => ?_
      have back : ∀ {υ : L2.St} {s' : Shared} {H' : Hp}, Inv (X.blk s3 H3 sc en fp) ([] ++ pinsAt fp s7.heap) υ H' s' → (wipe σ (own.map (·.2))).length = υ.length → (∀ (j : Nat) v, (wipe σ (own.map (·.2)))[j]? = some (some v) → υ[j]? = some (some v)) → Nx H' → ∃ m, m < n ∧ At m s' := fun {υ s' H'} I' hl hk nx => by
        obtain ⟨m', hm, w'⟩ := less H' nx
        have kept : ∀ b ∈ fp, ∀ o, s7.heap.get? b = some o → s'.heap.get? b = some o ∧ H' b = none := fun b hb o e =>
          let z := I'.pin (b, o) (List.mem_append_right _ (List.mem_append_right _ (mem_pinsAt hb e))); ⟨z.1, z.2.1⟩
        refine ⟨m', hm, i + 1, H', (I'.unpinned (pins := [])).weak hl hk, T.keep _ _ _ st7 fun b hb o e => (kept b hb o e).1, fun b hb => ?_, w'⟩
        obtain ⟨o, e, _⟩ := T.obj _ _ st7 b hb
        exact (kept b hb o e).2
      have l8 : (wipe σ (own.map (·.2))).length = τ.length := by rw [← e8, wipe_length]
      have k8 : ∀ (j : Nat) v, (wipe σ (own.map (·.2)))[j]? = some (some v) → (wipe τ us)[j]? = some (some v) := fun j v e => by
        rw [← e8] at e
        obtain ⟨z1, z2⟩ := wipe_some e
        rw [wipe_out fun z => z2 (hu j z)]
        exact z1
      refine thnF (pj.run _ s8 τ H8 _ I8 q8) fun v3 s10 hx => thnF hx fun v4 s11 h11 => ?_
      obtain ⟨it1, fp1, tn1, L, H11, rfl, I11, T1, st11, f11, V1, ⟨m1, w1⟩, turn1⟩ := h11
      have still1 : ∀ {H' : Hp}, (∀ b ∈ fp1, H' b = none) → ∀ b ∈ fp1, FpOk (X.blk s3 H3 sc en fp) ([] ++ pinsAt fp s7.heap) H' b := fun hn b hb => ⟨hn b hb, (f11 b hb).2⟩
      let At1 : Nat → Shared → Prop := fun k s' => ∃ j H', Inv (X.blk s3 H3 sc en fp) ([] ++ pinsAt fp s7.heap) (wipe τ us) H' s' ∧ tn1 j s'.heap ∧ (∀ b ∈ fp1, H' b = none) ∧ V1 j k H'
      have inner : codeAny (model X.prog X.w) X.A (.compLoop (SC2 e0 ta ia tb ib sc ps) 1 (.ref it1) (.ref D) en) (fun r s' => match r with
          | .ok _ => ∃ m, m < n ∧ At m s'
          | .error _ => False) s11 := by
        refine walk_inner At1 ?_ m1 ⟨0, H11, I11.weak (wipe_length _ _) (fun j v e => (wipe_some e).1), st11, fun b hb => (f11 b hb).1, w1⟩
        rintro k s12 ⟨j, H12, I12, st12, n12, w12⟩
        rcases turn1 j k H12 w12 with ⟨stop1, nx1⟩ | ⟨go1, Ny, less1, step1⟩
        · refine thnF (T1.done (X.blk s3 H3 sc en fp) rfl rfl rfl hc j _ s12 (wipe τ us) H12 NoX I12 (still1 n12) st12 stop1) fun r s13 ⟨hr, I13⟩ => ?_
          subst hr
          exact back I13 (l8.trans (wipe_length τ us).symm) k8 nx1
        · refine thnF (T1.item (X.blk s3 H3 sc en fp) rfl rfl rfl hc j _ s12 (wipe τ us) H12 NoX I12 (still1 n12) st12 go1) fun r s13 ⟨u1, hr, h13⟩ => ?_
          subst hr
          refine thnF h13 fun _ s14 ⟨x1, H14, I14, r14, y14, st14, n14⟩ => ?_
          have J14 := I14.pinned (still1 n14) (T1.obj _ _ st14)
          refine thnF (pgb.run _ s14 (wipe τ us) H14 x1 u1 _ J14 r14 (step1 x1 H14 y14)) fun _ s15 ⟨υ, H15, I15, e15, q15⟩ => ?_
          refine thnF (pe.run _ s15 υ H15 _ I15 q15) fun z s17 ⟨zv, H17, I17, r17, key, S, n0, ez, hD17, room, nx⟩ => ?_
          subst ez
          refine member_in (X := X.blk s3 H3 sc en fp) I17 hD17 room r17 fun s18 I18 => ?_
          obtain ⟨m', hm, w'⟩ := less1 _ nx
          have kept : ∀ b ∈ fp1, ∀ o, s14.heap.get? b = some o → s18.heap.get? b = some o ∧ _ = none := fun b hb o e =>
            let z := I18.pin (b, o) (List.mem_append_right _ (List.mem_append_right _ (mem_pinsAt hb e))); ⟨z.1, z.2.1⟩
          refine ⟨m', hm, j + 1, _, I18.unpinned.weak (by rw [← e15, wipe_length]) (fun i' v e => by rw [← e15] at e; exact (wipe_some e).1), T1.keep _ _ _ st14 fun b hb o e => (kept b hb o e).1, fun b hb => ?_, w'⟩
          obtain ⟨o, e, _⟩ := T1.obj _ _ st14 b hb
          exact (kept b hb o e).2
      exact begin_at (.inr rfl) inner (T1.self X.A 0 _ _ _ st11 inner)
  exact begin_at (.inl rfl) outer (T.self X.A 0 _ _ _ st4 outer)
/-- as a value -/
theorem pe_sc2 {e0 ta ia tb ib : Expr} {sc : Scope} {own : List (Str × Nat)} {us : List Nat} {ps : Pos} {wi wj : TI} {ga gb : TG} {te : TE} (hc : X.calm = true) (hN : X.N.Nodup) (hi : PI X ta ia wi) (ok : BlkOk X.N X.env.scope sc own) (hu : ∀ i ∈ us, i ∈ own.map (·.2))
    (hga : Blk X sc fun Y => PG Y ta ga) (hj : Blk X sc fun Y => PI Y tb ib wj) (hgb : Blk X sc fun Y => PG Y tb gb) (he : Blk X sc fun Y => PE Y e0 te) (fa : ∀ x, foldedSetIterable ia X.env x = pure x := by intro _; rfl) (fb : ∀ en x, foldedSetIterable ib en x = pure x := by intro _ _; rfl) :
    PE X (SC2 e0 ta ia tb ib sc ps) (tSc2 X.prog X.w wi ga wj gb te (own.map (·.2)) us) := by
  refine ⟨fun pins s σ H Q I h => ?_⟩
  rw [PpSet.eval_SetComp]
  refine core_sc2 hc hN I hi ok hu hga hj hgb he fa fb h fun D C s' m H' I' q hn f => ⟨m, hn, fun h'' sb => ?_⟩
  obtain ⟨f0, f1, f2, f3, f4, f5⟩ := f
  exact ⟨.ref D, H', I'.turned (t' := s'.toks) (fun b o hb e => (sb.2 b hb).trans e) f0 f1 f3 f4 f5, rfl, q⟩
end
end K88
end

section
set_option maxHeartbeats 4000000
/-! barring_table -/
namespace K88
open PySem PySem.Spec PyProof.Rows L2

theorem walk_W {J : It} {n : Nat} {G : Hp → Prop} {Y : Nat → Hp → V → Hp → Prop} (w : Walk J n G Y) {B : (Hp → Prop) → V → Hp → Prop} {Qd : Hp → Prop} {H0 : Hp} (Pv : Nat → Hp → Prop) (h0 : Pv 0 H0) (hG : ∀ i H, i ≤ n → Pv i H → G H)
    (hs : ∀ i x H H', i < n → Pv i H → Y i H x H' → B (Pv (i + 1)) x H') (hd : ∀ H, Pv n H → Qd H) :
    ∃ W : Nat → Nat → Hp → Prop, (∃ m, W 0 m H0) ∧ ∀ i m H, W i m H → (J.stop i H ∧ Qd H) ∨ (J.go i H ∧ ∃ Nx : Hp → Prop, (∀ H', Nx H' → ∃ m', m' < m ∧ W (i + 1) m' H') ∧ ∀ x H', J.yld i H x H' → B Nx x H') := by
  refine ⟨fun i m H => m = n - i ∧ i ≤ n ∧ Pv i H, ⟨n, by simp, Nat.zero_le _, h0⟩, ?_⟩
  rintro i m H ⟨rfl, hi, p⟩
  have q := hG i H hi p
  rcases Nat.lt_or_ge i n with l | l
  · exact .inr ⟨w.goes i H l q, Pv (i + 1), fun H' p' => ⟨n - (i + 1), by omega, rfl, l, p'⟩, fun x H' y => hs i x H H' l p (w.yields i H x H' l q y)⟩
  · obtain rfl : i = n := by omega
    exact .inl ⟨w.stops H q, hd H p⟩
theorem walk_rng {lo : Int} {n : Nat} : Walk (Itr lo n) n (fun _ => True) (fun i H x H' => H' = H ∧ x = .int (lo + i)) :=
  ⟨fun _ _ h _ => h, fun _ _ => Nat.le_refl _, fun _ _ _ _ _ _ y => y⟩
/-- a proper beginning of a word of the list -/
def begB (wd x : Str) (j : Nat) : Bool := decide (cl x <+: cl wd) && decide (x.length < j)
def preS (ws : List Str) (x : Str) : Bool := ws.any fun wd => begB wd x wd.length
structure IsStarts (ws ys : List Str) : Prop where
  srt : sortedS ys = true
  nd : ys.Nodup
  mem : ∀ x, x ∈ ys ↔ preS ws x = true
def barT (ys ws : List Str) (w : Nat) : Ch := ys.map (barRow ys ws w)
def spBTab : Sp := fun vs H Q _ => ∃ (t : Addr) (ws : List Str) (w : Nat) (g : Str), vs = [.str g, .ref t] ∧ WordsAt H t ws ∧ OkWords w ws ∧ 2 ≤ w ∧ w ≤ 4 ∧ okSg w g ∧
  ∀ (ys : List Str) (D : Addr) (H' : Hp), IsStarts ws ys → ys.length < 64 → Same H H' → H D = none → NewT H H' D (barT ys ws w) → Q (.ref D) H'
theorem pre_zero {ws : List Str} {w : Nat} (ow : OkWords w ws) : preS ws Str.empty = true := by
  have n1 := ow.n1
  cases ws with
  | nil => simp at n1
  | cons z r =>
    have z1 := (ow.each z List.mem_cons_self).1
    unfold preS
    rw [List.any_cons, Bool.or_eq_true]
    left
    unfold begB
    rw [Bool.and_eq_true, decide_eq_true_eq, decide_eq_true_eq]
    exact ⟨List.nil_prefix, by show 0 < z.length; omega⟩
/-- the members when i words are done and of the next one j beginnings -/
def memS (ws : List Str) (i j : Nat) (x : Str) : Bool := (preS (ws.take i) x) || (match ws[i]? with | some wd => begB wd x j | none => false)
theorem mem_none (ws : List Str) (x : Str) : memS ws 0 0 x = false := by
  unfold memS preS
  rw [List.take_zero, List.any_nil, Bool.false_or]
  cases ws[0]? with
  | none => rfl
  | some wd => show (decide (cl x <+: cl wd) && decide (x.length < 0)) = false; simp
theorem mem_row {ws : List Str} {i : Nat} {wd : Str} (h : ws[i]? = some wd) : memS ws i wd.length = memS ws (i + 1) 0 := by
  funext x
  unfold memS
  rw [h, take_snoc h]
  show (preS (ws.take i) x || begB wd x wd.length) = (preS (ws.take i ++ [wd]) x || _)
  have e : preS (ws.take i ++ [wd]) x = (preS (ws.take i) x || begB wd x wd.length) := by unfold preS; rw [List.any_append]; simp
  rw [e]
  have z : (match ws[i + 1]? with | some wd => begB wd x 0 | none => false) = false := by
    cases ws[i + 1]? with
    | none => rfl
    | some u => show (decide (cl x <+: cl u) && decide (x.length < 0)) = false; simp
  rw [z, Bool.or_false]
theorem mem_one {ws : List Str} {i j : Nat} {wd : Str} (h : ws[i]? = some wd) (hj : j < wd.length) : (fun x => memS ws i j x || decide (x = sl ((cl wd).take j))) = memS ws i (j + 1) := by
  funext x
  unfold memS
  rw [h]
  show ((preS (ws.take i) x || begB wd x j) || decide (x = sl ((cl wd).take j))) = (preS (ws.take i) x || begB wd x (j + 1))
  rw [Bool.or_assoc]
  congr 1
  unfold begB
  rw [Bool.eq_iff_iff]
  simp only [Bool.or_eq_true, Bool.and_eq_true, decide_eq_true_eq]
  have lw : (cl wd).length = wd.length := cl_len wd
  constructor
  · rintro (⟨h1, h2⟩ | rfl)
    · exact ⟨h1, by omega⟩
    · refine ⟨List.take_prefix .., ?_⟩
      rw [sl_len, List.length_take]; omega
  · rintro ⟨h1, h2⟩
    by_cases c : x.length < j
    · exact .inl ⟨h1, c⟩
    · right
      refine cl_ext ?_
      rw [cl_sl]
      have := List.prefix_iff_eq_take.mp h1
      rw [this, cl_len, show x.length = j by omega]
theorem mem_zero {ws : List Str} {w i j : Nat} (ow : OkWords w ws) (hi : i < ws.length) (h : 0 < i ∨ 0 < j) : memS ws i j Str.empty = true := by
  unfold memS
  rw [Bool.or_eq_true]
  rcases Nat.eq_zero_or_pos i with e | e
  · right
    rw [List.getElem?_eq_getElem hi]
    show (decide (cl Str.empty <+: cl ws[i]) && decide (Str.empty.length < j)) = true
    rw [Bool.and_eq_true, decide_eq_true_eq, decide_eq_true_eq]
    exact ⟨List.nil_prefix, by show 0 < j; omega⟩
  · left
    refine pre_zero (w := w) ⟨by rw [List.length_take]; omega, by rw [List.length_take]; have := ow.n8; omega, fun z hz => ow.each z (List.mem_of_mem_take hz)⟩
theorem num_app (y : Str) : ∀ (l : List Str) (n : Nat), numK n (l ++ [y]) = numK n l ++ [(.inr y, .int ((n + l.length : Nat) : Int))]
  | [], n => rfl
  | z :: r, n => by
    show (_ :: numK (n + 1) (r ++ [y])) = _
    rw [num_app y r (n + 1)]
    show _ = (_ :: (numK (n + 1) r ++ _))
    rw [show n + 1 + r.length = n + (z :: r).length by simp; omega]
theorem num_len : ∀ (l : List Str) (n : Nat), (numK n l).length = l.length
  | [], _ => rfl
  | _ :: r, n => by show (numK (n + 1) r).length + 1 = _; rw [num_len r]; rfl
theorem num_put {l : List Str} {y : Str} (h : y ∉ l) : putK (numK 0 l) (.inr y) (.int ((l.length : Nat) : Int)) = numK 0 (l ++ [y]) := by
  have q : valV (numK 0 l) (.inr y) = none := by
    rw [num_val]
    cases z : ixK 0 l y with
    | none => rfl
    | some i => exact absurd ((ix_some y l 0).mp (by rw [z]; rfl)) h
  rw [putK_new _ q, num_app, Nat.zero_add]
section
variable {P : Program} {w : World} {K : PySem.W.Frag} {mg : Str → Option Value} {base : Heap} {ad : Str → Addr} {fd : Str → FuncData}
theorem scBarringTable : FnScope ["signs", "words", "starts", "word", "length", "numbers", "number", "start"] ["signs", "words"] (defScope sBarringTable) := ⟨rfl, rfl, rfl, by decide +kernel, rfl, by decide +kernel, by decide +kernel⟩
theorem ok_btab (X : Tx K mg ad fd) : FnOk P w K mg base CX0 2 (ad "barring_table") (fd "barring_table") ["signs", "words"] spBTab := by
  have G_barring_state := ok_bstate (P := P) (w := w) (base := base) X
  refine X.F_barring_table.ok scBarringTable (fun vs H Q E h => ?_) (fun cdv A outer s H vs Q E hr h => ?_)
  · obtain ⟨t, ws, wn, g, rfl, et, ow, w2, w4, sg, k⟩ := h
    rfl
  · obtain ⟨t, ws, wn, g, rfl, et, ow, w2, w4, sg, k⟩ := h
    have HR_barring_state : Room 1 _ := hr
    refine ⟨_, (pss_cons (ps_set (i := 2) scBarringTable.nd rfl (.inl rfl) (by exact (pe_callB (cr_sortedTx rfl) (by rfl) X.m_sorted (by decide +kernel) (pa_cons (pe_sc2 (own := [("word", 3), ("length", 4)]) (us := [4]) rfl scBarringTable.nd (pi_tup (pv 1)) (blkOk_by (own := [("word", 3), ("length", 4)]) (N := ["signs", "words", "starts", "word", "length", "numbers", "number", "start"]) (sc := defScope sBarringTable) (by decide +kernel)) (by decide) (fun _ _ _ _ _ => pg_name (i := 3) scBarringTable.nd rfl (Or.inl rfl)) (fun _ _ _ _ _ => pi_range1 (by rfl) X.m_range (pa_cons (pe_callB (call_lenK (K := K) rfl) (by rfl) X.m_len (by decide +kernel) (pa_cons (pv 3) pa_nil)) pa_nil)) (fun _ _ _ _ _ => pg_name (i := 4) scBarringTable.nd rfl (Or.inl rfl)) (fun _ _ _ _ _ => (pe_slice sl_str (pv 3) po_none (po_some (pv 4))))) pa_nil))))
  (pss_cons (ps_set (i := 5) scBarringTable.nd rfl (.inr rfl) (by exact (pe_dc (own := [("number", 6), ("start", 7)]) (g := gTup K 2 (gCons (gName 6) (gCons (gName 7) (gNil)))) rfl scBarringTable.nd (pi_enum (by rfl) X.m_enumerate (pa_cons (pv 2) pa_nil)) (blkOk_by (own := [("number", 6), ("start", 7)]) (N := ["signs", "words", "starts", "word", "length", "numbers", "number", "start"]) (sc := defScope sBarringTable) (by decide +kernel)) (fun _ _ _ _ _ => pg_tupK (K := K) rfl rfl (pgs_cons (pg_name (i := 6) scBarringTable.nd rfl (Or.inl rfl)) (pgs_cons (pg_name (i := 7) scBarringTable.nd rfl (Or.inl rfl)) (pgs_nil)))) (fun _ _ _ _ _ => pts_nil) (fun _ _ _ _ _ => (pv 7)) (fun _ _ _ _ _ => (pv 6)))))
  (pss_one (ps_ret (by exact (pe_lc (own := [("start", 7)]) (g := gName 7) rfl scBarringTable.nd (pi_listK (K := K) rfl (pv 2)) (blkOk_by (own := [("start", 7)]) (N := ["signs", "words", "starts", "word", "length", "numbers", "number", "start"]) (sc := defScope sBarringTable) (by decide +kernel)) (fun _ _ _ _ _ => pg_name (i := 7) scBarringTable.nd rfl (Or.inl rfl)) (fun _ _ _ _ _ => pts_nil) (fun _ _ _ _ _ => (pe_call G_barring_state HR_barring_state (by rfl) X.g_barring_state X.F_barring_state.kp X.b_barring_state .nil pass0 (pa_cons (pv 7) (pa_cons (pv 0) (pa_cons (pv 1) (pa_cons (pv 5) pa_nil)))))))))))), ?_⟩
    have n1 := ow.n1
    have n8 := ow.n8
    refine ⟨.ref t, rfl, t, rfl, ⟨_, SqT.of et⟩, fun D0 nD0 => ?_⟩
    refine walk_W (w := walk_tup (K := K) (a := t) (xs := ws.map V.str)) (fun i H' => Same H H' ∧ ∃ n, H' D0 = some (SetTO P w D0 (memS ws i 0) n) ∧ n ≤ 7 * i + 1 ∧ (i = 0 → n = 0)) ⟨Same.new nD0, 0, ?_, Nat.zero_le _, fun _ => rfl⟩ (fun _ _ _ ⟨s, _⟩ => SqT.of (s _ _ et)) ?_ ?_
    · rw [upd_same, show memS ws 0 0 = fun _ => false from funext (mem_none ws)]
      rfl
    · rintro i v Ha Hb hi ⟨s1, n0, e0, l0, z0⟩ ⟨rfl, hv⟩
      replace hv : (ws.map V.str)[i]? = some v := hv
      rw [List.getElem?_map] at hv
      obtain ⟨wd, hw, rfl⟩ := Option.map_eq_some_iff.mp hv
      rw [List.length_map] at hi
      obtain ⟨d1, d8, _⟩ := ow.each wd (List.mem_of_getElem? hw)
      refine gN ⟨rfl, .str wd, rfl, .str wd, _, rfl, lenS (by omega), _, rfl, by omega, by omega, ?_⟩
      rw [show ((wd.length : Nat) : Int).toNat = wd.length by omega]
      refine walk_W (w := walk_rng (lo := 0) (n := wd.length)) (fun j H' => Same H H' ∧ ∃ n, H' D0 = some (SetTO P w D0 (memS ws i j) n) ∧ n ≤ 7 * i + 1 + (j - 1) ∧ (i = 0 → j = 0 → n = 0)) ⟨s1, n0, e0, by omega, fun h _ => z0 h⟩ (fun _ _ _ _ => True.intro) ?_ ?_
      · rintro j v Hc Hd hj ⟨s2, n1', e1, l1, z1⟩ ⟨rfl, rfl⟩
        refine gN ⟨rfl, .str wd, rfl, .int (0 + (j : Int)), rfl, _, rfl, wd, rfl, (by rw [sizeLine_eq]; omega), ?_⟩
        rw [show (0 : Int) + (j : Int) = (j : Int) by omega, cut_to]
        refine ⟨_, _, n1', rfl, e1, (by unfold scanBound; omega), fun b o eb => ?_, (if memS ws i j (sl ((cl wd).take j)) = true then n1' else n1' + 1), ?_, ?_, fun _ h => by omega⟩
        · rw [upd_ne (ne_of_none eb nD0)]
          exact s2 _ _ eb
        · rw [upd_same, mem_one hw hj]
          rfl
        · split
          · omega
          · rename_i h
            by_cases c : 0 < i ∨ 0 < j
            · rcases Nat.eq_zero_or_pos j with e | e
              · subst e
                exact absurd (mem_zero ow hi (by omega)) h
              · omega
            · have := z1 (by omega) (by omega)
              omega
      · rintro Hc ⟨s2, n1', e1, l1, z1⟩
        rw [mem_row hw] at e1
        exact ⟨s2, n1', e1, by omega, fun h => by omega⟩
    · rintro Ha ⟨s1, n0, e0, l0, z0⟩
      rw [List.length_map] at e0 l0
      refine ⟨D0, _, n0, rfl, e0, by omega, fun ys F srt nd mem len nF => ?_⟩
      have st : IsStarts ws ys := ⟨srt, nd, fun x => (mem x).trans (by
        rw [show memS ws ws.length 0 x = preS ws x from by
          unfold memS
          rw [List.take_length, List.getElem?_eq_none (Nat.le_refl _), Bool.or_false]])⟩
      have y64 : ys.length < 64 := by omega
      have s2 : Same H (upd Ha F (.lst (ys.map V.str))) := Same.trans s1 (Same.new nF)
      have eF : (upd Ha F (.lst (ys.map V.str))) F = some (.lst (ys.map V.str)) := upd_same
      generalize upd Ha F (.lst (ys.map V.str)) = H1 at s2 eF ⊢
      have z0 : (Str.empty : Str) ∈ ys := (st.mem _).mpr (pre_zero ow)
      have y8 : ∀ y ∈ ys, y.length ≤ 8 := fun y hy => by
        obtain ⟨wd, hw, q⟩ := List.any_eq_true.mp ((st.mem y).mp hy)
        unfold begB at q
        rw [Bool.and_eq_true, decide_eq_true_eq, decide_eq_true_eq] at q
        have := (ow.each wd hw).2.1
        omega
      refine gN ?_
      refine ⟨.ref F, rfl, F, _, rfl, SqL.of eF, fun Nd nN => ?_⟩
      refine dc_it (w := walk_enum (K := K) (a := F) (xs := ys.map V.str)) (fun i H' => Same H1 H' ∧ H' Nd = some (.dK (numK 0 (ys.take i)))) ⟨Same.new nN, upd_same⟩ (fun _ _ _ ⟨s, _⟩ => SqL.of (s _ _ eF)) ?_ ?_
      · rintro i v Hb Hc hi ⟨s3, e3⟩ ⟨T, u1, u2, rfl, hT, rfl, e1, e2⟩
        cases e1
        replace e2 : (ys.map V.str)[i]? = some u2 := e2
        rw [List.getElem?_map] at e2
        obtain ⟨y, hy, rfl⟩ := Option.map_eq_some_iff.mp e2
        have hl := (List.getElem?_eq_some_iff.mp hy).1
        have sT := Same.new hT (o := .tup [V.int (i : Nat), V.str y])
        refine ⟨T, _, rfl, SqT.of upd_same, rfl, _, _, rfl, _, _, rfl, rfl, rfl, yes_of (iteT ?_)⟩
        refine ⟨.str y, rfl, .int ((i : Nat) : Int), rfl, _, .inr y, rfl, sT _ _ e3, ?_, fun b o eb => ?_, ?_⟩
        · rw [num_len, List.length_take, sizeLine_eq]; omega
        · rw [upd_ne (ne_of_none eb nN)]
          exact sT _ _ (s3 _ _ eb)
        · have ny : y ∉ ys.take i := fun q => by
            obtain ⟨j, hj, ej⟩ := List.mem_iff_getElem.mp q
            rw [List.getElem_take] at ej
            rw [List.length_take] at hj
            obtain ⟨_, e2⟩ := List.getElem?_eq_some_iff.mp hy
            have := (List.getElem_inj (h₀ := by omega) (h₁ := hl) nd).mp (ej.trans e2.symm)
            omega
          have q := num_put ny
          rw [List.length_take, Nat.min_eq_left (by omega)] at q
          rw [upd_same, take_snoc hy]
          exact congrArg (fun z => some (HO.dK z)) q
      · rintro H2 ⟨s3, e3⟩
        rw [List.length_map, List.take_length] at e3
        refine gN ?_
        have s12 := Same.trans s2 s3
        have eF2 := s3 _ _ eF
        refine ⟨.ref F, rfl, F, rfl, ⟨_, SqL.of eF2⟩, fun D nD => ?_⟩
        refine lc_it (w := walk_list (K := K) (a := F) (xs := ys.map V.str)) (g := gName 7) (tt := tYes) (fun i H' => Same H2 H' ∧ ∃ ds : List Addr, H' D = some (.lst (ds.map V.ref)) ∧ ds.length = i ∧ ∀ (j : Nat) (d : Addr), ds[j]? = some d → H2 d = none ∧ H' d = some (.dK (rowK (rowC (barT ys ws wn) j)))) ⟨Same.new nD, [], upd_same, rfl, fun j d h => by cases h⟩ (fun _ _ _ ⟨s, _⟩ => SqL.of (s _ _ eF2)) ?_ ?_
        · rintro i v Hb Hc hi ⟨s4, ds, eD, ld, kd⟩ ⟨rfl, hv⟩
          replace hv : (ys.map V.str)[i]? = some v := hv
          rw [List.getElem?_map] at hv
          obtain ⟨y, hy, rfl⟩ := Option.map_eq_some_iff.mp hv
          rw [List.length_map] at hi
          have s14 := Same.trans s12 s4
          refine gN ⟨rfl, yes_of (iteT ?_)⟩
          refine ⟨.str y, rfl, .str g, rfl, .ref t, rfl, .ref Nd, rfl, t, Nd, ws, ys, wn, y, g, rfl, s14 _ _ et, n8, s4 _ _ e3, z0, w2, w4, sg, y8 y (List.mem_of_getElem? hy), fun Dr H3 s5 nDr eDr => ?_⟩
          have rD : Dr ≠ D := fun z => by rw [z, eD] at nDr; cases nDr
          refine ⟨_, s5 _ _ eD, ?_, fun b o eb => ?_, ds ++ [Dr], ?_, ?_, fun j d hd => ?_⟩
          · rw [List.length_map, ld, sizeLine_eq]; omega
          · rw [upd_ne (ne_of_none eb nD)]
            exact s5 _ _ (s4 _ _ eb)
          · rw [upd_same, List.map_append]; rfl
          · rw [List.length_append, ld]; rfl
          · by_cases c : j < ds.length
            · rw [List.getElem?_append_left c] at hd
              obtain ⟨h1, h2⟩ := kd j d hd
              refine ⟨h1, ?_⟩
              rw [upd_ne (fun z => by rw [z, eD] at h2; cases h2)]
              exact s5 _ _ h2
            · rw [List.getElem?_append_right (by omega)] at hd
              obtain ⟨q, hq⟩ : ∃ q, q = j - ds.length := ⟨_, rfl⟩
              rw [← hq] at hd
              cases q with
              | succ q => simp at hd
              | zero =>
                cases hd
                refine ⟨none_back s4 nDr, ?_⟩
                rw [upd_ne rD, eDr]
                have : rowC (barT ys ws wn) j = barRow ys ws wn y := by
                  unfold rowC barT
                  rw [List.getD_eq_getElem?_getD, List.getElem?_map, show j = i by omega, hy]; rfl
                rw [this]
        · rintro H3 ⟨s4, ds, eD, ld, kd⟩
          rw [List.length_map] at ld
          exact k ys D H3 st y64 (Same.trans s12 s4) (none_back s12 nD) ⟨ds, eD, by rw [ld]; exact (List.length_map ..).symm, fun i d q => ⟨none_back s12 (kd i d q).1, (kd i d q).2⟩⟩
end
end K88
end

section
set_option maxHeartbeats 4000000
/-! Medium.barring -/
namespace K88
open PySem PySem.Spec PyProof.Rows L2

/-- what the top has written of Medium.barring -/
structure MedB (K : PySem.W.Frag) (mg : Str → Option Value) (ad : Str → Addr) (fd : Str → FuncData) : Prop where
  F_bar : Fun K "barring" "Medium.barring" sM_barring (ad "Medium.barring") (fd "Medium.barring")
  crb : ∃ mc, ClX.CRead K (ad "Medium") mc ∧ ClX.CMet K (ad "Medium") mc "barring" (ad "Medium.barring!") (ad "Medium.barring") ∧ ∃ u, ClX.CVal K (ad "Medium") mc "LETTERS" (.str "abcd") u
theorem barT_wf {ys ws : List Str} {w : Nat} (h : 0 < ys.length) : WfC (barT ys ws w) := by
  refine ⟨by unfold barT; rw [List.length_map]; exact h, fun r hr e he => ?_⟩
  obtain ⟨st, _, rfl⟩ := List.mem_map.mp hr
  unfold barT
  rw [List.length_map]
  exact bar_lt he
theorem barT_ok (ys ws : List Str) (w : Nat) : okT w (barT ys ws w) := fun r hr => by
  obtain ⟨st, _, rfl⟩ := List.mem_map.mp hr
  exact ⟨bar_ok .., True.intro⟩
def spBarI (C : Addr) : Sp := fun vs H Q _ => ∃ (t : Addr) (ws : List Str) (w : Nat), vs = [.ref C, .int (w : Int), .ref t] ∧ WordsAt H t ws ∧ OkWords w ws ∧ 2 ≤ w ∧ w ≤ 4 ∧
  (∀ ys, IsStarts ws ys → ys.length < 64 → liveB (barT ys ws w) 0 = true ∧ (leastC (barT ys ws w)).length ≤ 16) ∧
  ∀ (ys : List Str) (x : Addr) (H' : Hp), IsStarts ws ys → Same H H' → H x = none → MedO C H' x w (leastC (barT ys ws w)) → Q (.ref x) H'
def spMBar (C : Addr) : Sp := fun vs H Q E => ∃ us rest : List V, vs = us ++ rest ∧ us.length = (["cls", "many"] : List Str).length ∧ rest.length ≤ sizeLine ∧ ∀ p, H p = none → spBarI C (us ++ [V.ref p]) (upd H p (.tup rest)) Q E
section
variable {P : Program} {w : World} {K : PySem.W.Frag} {mg : Str → Option Value} {base : Heap} {ad : Str → Addr} {fd : Str → FuncData}
theorem scM_barring : FnScope ["cls", "many", "words", "signs"] ["cls", "many", "words"] (defScope sM_barring) := ⟨rfl, rfl, rfl, by decide +kernel, rfl, by decide +kernel, by decide +kernel⟩
theorem ok_mbar (X : Tx K mg ad fd) (M : MedC K mg ad fd) (MB : MedB K mg ad fd) {N W fW : Addr} (L_N : ErrN K mg "NothingLeft" N) (L_W : ErrW K mg "TooMany" W fW) : FnR P w K mg base CX0 7 (ad "Medium.barring") (spMBar (ad "Medium")) := by
  have G_check_many := ok_check_many (P := P) (w := w) (base := base) X
  have G_check_words := ok_check_words (P := P) (w := w) (base := base) X
  have G_barring_table := ok_btab (P := P) (w := w) (base := base) X
  have G_init := fnOk_cx0 (ok_minit (P := P) (w := w) (base := base) X M L_N L_W)
  obtain ⟨oc, od, kV, doc, pm, an, cdv, ct, osl, ef, lk, hcd⟩ := MB.F_bar.ex
  rw [ef] at lk
  refine StX.fn_star (ps := ["cls", "many"]) (pv := "words") (N := ["cls", "many", "words", "signs"]) (k := 6) lk hcd scM_barring StX.cxUp_none (StX.bind_star2 (B := fun l => bindArgs (PySem.W.fnOf "barring" "Medium.barring" (defArgs sM_barring) (defBody sM_barring) (defScope sM_barring) .none kV doc pm an cdv ct) ⟨l, []⟩) (p1 := "cls") (p2 := "many") (pv := "words") (fun a b => rfl) (fun a b r rs => rfl)) (fun A outer s H vs Q E hr h => ?_)
  obtain ⟨t, ws, wn, rfl, et, ow, w2, w4, fit, k⟩ := h
  have HR_check_many : Room 3 _ := hr.mono (by decide)
  have HR_check_words : Room 2 _ := hr.mono (by decide)
  have HR_barring_table : Room 2 _ := hr.mono (by decide)
  have HR_init : Room 6 _ := hr
  obtain ⟨mc, cr, cm, ul, cl_⟩ := MB.crb
  have body : ∃ tt, PSs (cxOf CX0 P w K mg base ["cls", "many", "words", "signs"] "Medium.barring" (defScope sM_barring) (ad "Medium.barring") cdv A outer s H E).nox (defBody sM_barring) tt ∧ tt { nx := fun _ H' => Q .non H', rt := Q } (L2.start ["cls", "many", "words", "signs"] [.ref (ad "Medium"), .int (wn : Int), .ref t]) H := by
    refine ⟨_, (pss_cons (ps_expr (by exact (pe_call G_check_many HR_check_many (by rfl) X.g_check_many X.F_check_many.kp X.b_check_many .nil pass0 (pa_cons (pv 1) pa_nil))))
  (pss_cons (ps_set (i := 3) scM_barring.nd rfl (.inl rfl) (by exact (pe_slice sl_str (ClX.pe_cval (pv 0)) po_none (po_some (pv 1)))))
  (pss_cons (ps_expr (by exact (pe_call G_check_words HR_check_words (by rfl) X.g_check_words X.F_check_words.kp X.b_check_words .nil pass0 (pa_cons (pv 2) (pa_cons (pv 3) pa_nil)))))
  (pss_one (ps_ret (by exact (pe_makeL M.mks G_init HR_init (pv 0) M.b_init .nil pass0 (pa_cons (pv 1) (pa_cons (pe_lock (pe_call G_barring_table HR_barring_table (by rfl) X.g_barring_table X.F_barring_table.kp X.b_barring_table .nil pass0 (pa_cons (pv 3) (pa_cons (pv 2) pa_nil)))) pa_nil))))))))), ?_⟩
    refine ⟨.int (wn : Int), rfl, (wn : Int), rfl, by omega, by omega, ?_⟩
    refine ⟨.ref (ad "Medium"), rfl, ad "Medium", mc, .str "abcd", ul, rfl, cr, cl_, .int (wn : Int), rfl, (wn : Int), rfl, "abcd", rfl, abcd_len, ?_⟩
    refine gN ?_
    have sg := cut_let w2 w4
    refine ⟨.ref t, rfl, .str _, rfl, t, ws, wn, _, rfl, et, ow, sg, fun H1 s1 => ?_⟩
    refine ⟨.ref (ad "Medium"), rfl, rfl, .int (wn : Int), rfl, .str _, rfl, .ref t, rfl, t, ws, wn, _, rfl, s1 _ _ et, ow, w2, w4, sg, fun ys D H2 st y64 s2 nD nt => ⟨fun b => H1 b = none, fun H3 L3 => fun x dx nx ndx ne => ?_⟩⟩
    obtain ⟨ls, tb⟩ := nt.lock L3
    have s3 := L3.same s2
    have s13 := Same.trans s1 s3
    have sx : Same H3 (upd (upd H3 dx (.own x)) x (.ins (ad "Medium") dx [])) := fun b o e => by rw [upd_ne (ne_of_none e nx), upd_ne (ne_of_none e ndx)]; exact e
    obtain ⟨lv, l16⟩ := fit ys st y64
    have y0 : 0 < ys.length := List.length_pos_iff.mpr fun e => by
      have := (st.mem _).mpr (pre_zero ow)
      rw [e] at this
      cases this
    have bl : (barT ys ws wn).length = ys.length := List.length_map ..
    refine ⟨x, dx, D, ls, barT ys ws wn, wn, rfl, upd_same, w2, w4, (tb.same sx).toP, barT_wf y0, barT_ok ys ws wn, by omega, fun l => (by rw [lv] at l; cases l), fun _ l => absurd l (by omega), fun _ _ H' b mo => ⟨rfl, ?_⟩⟩
    exact k ys x H' st (fun b' o e => b _ _ (ne_of_none (s13 _ _ e) nx) (sx _ _ (s13 _ _ e))) (none_back s13 nx) mo
  obtain ⟨tt, h1, h2⟩ := body
  exact ⟨tt, h1.nox, h2⟩
end
end K88
end

section
set_option maxHeartbeats 4000000
/-! the law: _law_joins_right -/
namespace K88
open PySem PySem.Spec PyProof.Rows L2 LamX

def spJoins (C : Addr) (T : List (Addr × Str)) : Sp := fun vs H Q _ => ∃ (pt a F : Addr) (ls : List Addr) (c : Ch) (w : Nat), vs = [.ref pt, .ref a, .ref F, .int (w : Int)] ∧ PotAt H pt ∧ MedO C H a w c ∧ TbR H F ls c ∧ WfC c ∧ okT w c ∧ Full c ∧ c.length ≤ 64 ∧ 2 ≤ w ∧ w ≤ 4 ∧ Tabs T H ∧
  ∀ H', ButN pt H H' → PotAt H' pt → Tabs T H' → Q (.bl true) H'
section
variable {P : Program} {w : World} {K : PySem.W.Frag} {mg : Str → Option Value} {base : Heap} {ad : Str → Addr} {fd : Str → FuncData}
theorem scJoinsRight : FnScope ["_law_pot_here", "_law_made", "_law_lines_here", "_law_width", "_law_mark_word", "_law_word_here", "_law_turn", "_law_told_here", "_law_due", "_law_free", "_law_far", "_law_longer", "_law_near", "_law_spare", "_law_odd", "_law_letter"] ["_law_pot_here", "_law_made", "_law_lines_here", "_law_width"] (defScope sJoinsRight) := ⟨rfl, rfl, rfl, by decide +kernel, rfl, by decide +kernel, by decide +kernel⟩
theorem ok_joins (X : Tx K mg ad fd) (M : MedC K mg ad fd) (MW : MedW K mg ad fd) (MX : MedX K mg ad fd) {I fI N W fW : Addr} (L : TellC K mg ad I fI) (L_N : ErrN K mg "NothingLeft" N) (L_W : ErrW K mg "TooMany" W fW) {TT : List (Addr × Str)} {c0 PT : Addr} (tb : Tb mg base fd TT "_law_joins_right" "_law_joins_right.<locals>.<lambda>" c0 PT) :
    FnG P w K mg base 10 (ad "_law_joins_right") (fd "_law_joins_right") ["_law_pot_here", "_law_made", "_law_lines_here", "_law_width"] (spJoins (ad "Medium") TT) := by
  have G__law_draw := ok_draw (P := P) (w := w) (base := base) X
  have G__law_pick := ok_pick (P := P) (w := w) (base := base) X
  have G__law_mark := ok_mark (P := P) (w := w) (base := base) X
  have G__law_word := ok_word (P := P) (w := w) (base := base) X
  have G__law_words := ok_words (P := P) (w := w) (base := base) X
  have G__law_join := ok_lawjoin (P := P) (w := w) (base := base) X
  have G__law_is_fine := ok_fine (P := P) (w := w) (base := base) X
  have G__law_walked := ok_lawwalked (P := P) (w := w) (base := base) X
  have G_joinE := ok_join (P := P) (w := w) (base := base) X M MW MX L.R
  have G_join := fnOk_cx0 G_joinE
  obtain ⟨mcM, crM, cmM, _⟩ := MW.cr
  have FM := (ok_mfree (P := P) (w := w) (base := base) X M MW L_N L_W).raw MW.b_free .nil
  refine fnG_bodyT X.F__law_joins_right tb.code scJoinsRight (fun vs H Q E h => ?_) (fun A outer s H vs Q E hr h => ?_)
  · obtain ⟨pt, a, F, ls, c, w0, rfl, _⟩ := h
    rfl
  · obtain ⟨pt, a, F, ls, c, w0, rfl, pot, med, tb0, wf, okt, fu, cl64, w2, w4, tabs, k⟩ := h
    have hu64 : (A.deeper (envOfC "_law_joins_right" (defScope sJoinsRight) s.heap.objs.size (ad "_law_joins_right") (.ref c0))).units + 64 < cLine := by have := hr.rm.un; omega
    have HR9 : Room 9 _ := hr.rm
    have HR7 : Room 7 _ := hr.rm.mono (by decide)
    have HR_join : Room 4 _ := hr.rm.mono (by decide)
    have HR__law_join : Room 3 _ := hr.rm.mono (by decide)
    have HR__law_word : Room 3 _ := hr.rm.mono (by decide)
    have HR__law_mark : Room 3 _ := hr.rm.mono (by decide)
    have HR__law_is_fine : Room 2 _ := hr.rm.mono (by decide)
    have HR__law_pick : Room 2 _ := hr.rm.mono (by decide)
    have HR__law_words : Room 1 _ := hr.rm.mono (by decide)
    have HR__law_walked : Room 1 _ := hr.rm.mono (by decide)
    refine ⟨_, (pss_cons (ps_asg (by exact (pe_tup (pa_cons (pe_call G__law_mark HR__law_mark (by rfl) X.g__law_mark X.F__law_mark.kp X.b__law_mark .nil pass0 (pa_cons (pv 0) (pa_cons (pv 2) (pa_cons (pv 3) pa_nil)))) (pa_cons pe_str pa_nil)))) (pg_tup rfl (pgs_cons (pg_name (i := 4) scJoinsRight.nd rfl (.inr rfl)) (pgs_cons (pg_name (i := 5) scJoinsRight.nd rfl (.inl rfl)) pgs_nil))))
  (pss_cons (ps_for PassesOwn.never rfl (pi_range1 (by rfl) X.m_range (pa_cons pe_int pa_nil)) (pg_name (i := 6) scJoinsRight.nd rfl (.inl rfl))
  (pss_cons (ps_set (i := 5) scJoinsRight.nd rfl (.inl rfl) (by exact (pe_call G__law_word HR__law_word (by rfl) X.g__law_word X.F__law_word.kp X.b__law_word .nil pass0 (pa_cons (pv 0) (pa_cons (pv 2) (pa_cons (pv 4) pa_nil))))))
  (pss_cons (ps_par (i := 7) (j := 8) rfl scJoinsRight.nd rfl rfl (by decide) rfl rfl (by exact (pa_cons (pe_call G_join HR_join (by rfl) X.g_join X.F_join.kp X.b_join .nil pass0 (pa_cons (pv 1) (pa_cons (pv 4) (pa_cons (pv 5) pa_nil)))) (pa_cons (pe_call G__law_join HR__law_join (by rfl) X.g__law_join X.F__law_join.kp X.b__law_join .nil pass0 (pa_cons (pv 2) (pa_cons (pv 4) (pa_cons (pv 5) pa_nil)))) pa_nil))) (by rfl))
  (pss_cons (ps_set (i := 9) scJoinsRight.nd rfl (.inl rfl) (by exact (pe_lst (pa_cons (pe_callTy (call_dictPK (K := K) rfl rfl) (by rfl) X.m_dict (by decide +kernel) (pa_cons (pe_lc (own := [("_law_letter", 15)]) (g := gName 15) rfl scJoinsRight.nd (pi_str (pe_slice sl_str pe_str po_none (po_some (pv 3)))) (blkOk_by (own := [("_law_letter", 15)]) (N := ["_law_pot_here", "_law_made", "_law_lines_here", "_law_width", "_law_mark_word", "_law_word_here", "_law_turn", "_law_told_here", "_law_due", "_law_free", "_law_far", "_law_longer", "_law_near", "_law_spare", "_law_odd", "_law_letter"]) (sc := defScope sJoinsRight) (by decide +kernel)) (fun _ _ _ _ _ => pg_name (i := 15) scJoinsRight.nd rfl (Or.inl rfl)) (fun _ _ _ _ _ => pts_nil) (fun _ _ _ _ _ => (pe_tup (pa_cons (pv 15) (pa_cons pe_int pa_nil))))) pa_nil)) pa_nil))))
  (pss_cons (ps_set (i := 10) scJoinsRight.nd rfl (.inl rfl) (by exact (pe_call G_join HR_join (by rfl) X.g_join X.F_join.kp X.b_join .nil pass0 (pa_cons (ClX.pe_cmeth (pe_glob (v := .ref (ad "Medium")) (by rfl) M.G rfl) crM cmM FM HR7 pass0 (pa_cons (pv 3) pa_nil)) (pa_cons (pv 4) (pa_cons (pv 5) pa_nil))))))
  (pss_cons (ps_if (PW.pt (pw_or (pt_cmpR op_ne (pv 7) (pv 8) (nomark _)) (pw_or1 (pt_cmpR op_ne (pv 10) (pe_call G__law_join HR__law_join (by rfl) X.g__law_join X.F__law_join.kp X.b__law_join .nil pass0 (pa_cons (pv 9) (pa_cons (pv 4) (pa_cons (pv 5) pa_nil)))) (nomark _)))))
  (pss_one (ps_ret (by exact pe_bl)))
  pss_nil)
  (pss_cons (ps_if (pt_cmpR op_ne (pe_callKW G_join HR_join (by rfl) X.g_join X.F_join.kp (kb_join X) (pk_cons (pv 5) (pk_cons (pv 4) (pk_cons (pv 1) pk_nil)))) (pv 8) (nomark _))
  (pss_one (ps_ret (by exact pe_bl)))
  pss_nil)
  (pss_cons (ps_set (i := 11) scJoinsRight.nd rfl (.inl rfl) (by exact (pe_ifExp (pt_cmpR op_isN (pv 7) pe_non (nomark _)) (pe_op op_add_str (pv 5) (pv 4)) (pe_op op_add_str (pe_op op_add_str (pv 5) (pv 7)) (pv 4)))))
  (pss_cons (ps_if (PW.pt (pw_and (pt_cmpR op_notN (pv 7) pe_non (nomark _)) (pw_and1 (pt_not (pt_val (pe_call G__law_is_fine HR__law_is_fine (by rfl) X.g__law_is_fine X.F__law_is_fine.kp X.b__law_is_fine .nil pass0 (pa_cons (pv 2) (pa_cons (pv 11) (pa_cons (pv 4) pa_nil)))))))))
  (pss_one (ps_ret (by exact pe_bl)))
  pss_nil)
  (pss_one (ps_for PassesOwn.never rfl (pi_list (pe_call G__law_words HR__law_words (by rfl) X.g__law_words X.F__law_words.kp X.b__law_words .nil pass0 (pa_cons (pv 3) (pa_cons pe_int pa_nil)))) (pg_name (i := 12) scJoinsRight.nd rfl (.inl rfl))
  (pss_one (ps_if (pt_val (pe_call G__law_is_fine HR__law_is_fine (by rfl) X.g__law_is_fine X.F__law_is_fine.kp X.b__law_is_fine .nil pass0 (pa_cons (pv 2) (pa_cons (pe_op op_add_str (pe_op op_add_str (pv 5) (pv 12)) (pv 4)) (pa_cons (pv 4) pa_nil)))))
  (pss_one (ps_if (PW.pt (pw_or (pt_cmpR op_isN (pv 7) pe_non (nomark _)) (pw_or1 (pt_cmpR (op_ltD hu64) (pe_tup (pa_cons (pe_callB (call_lenK (K := K) rfl) (by rfl) X.m_len (by decide +kernel) (pa_cons (pv 12) pa_nil)) (pa_cons (pv 12) pa_nil))) (pe_tup (pa_cons (pe_callB (call_lenK (K := K) rfl) (by rfl) X.m_len (by decide +kernel) (pa_cons (pv 7) pa_nil)) (pa_cons (pv 7) pa_nil))) (nomark _)))))
  (pss_one (ps_ret (by exact pe_bl)))
  pss_nil))
  pss_nil)))))))))))))
  (pss_cons (ps_set (i := 13) scJoinsRight.nd rfl (.inl rfl) (by exact (pe_op op_add_str (pv 5) (pe_call G__law_pick HR__law_pick (by rfl) X.g__law_pick X.F__law_pick.kp X.b__law_pick .nil pass0 (pa_cons (pv 0) (pa_cons pe_str pa_nil))))))
  (pss_cons (ps_set (i := 14) scJoinsRight.nd rfl (.inr rfl) (by exact (pe_call G__law_pick HR__law_pick (by rfl) X.g__law_pick X.F__law_pick.kp X.b__law_pick .nil pass0 (pa_cons (pv 0) (pa_cons (pe_lst (pa_cons (pe_op op_add_str (pv 5) (pv 4)) (pa_cons (pe_op op_add_str (pv 4) (pv 5)) (pa_cons (pv 13) (pa_cons (pv 4) pa_nil))))) pa_nil)))))
  (pss_cons (ps_set (i := 8) scJoinsRight.nd rfl (.inl rfl) (by exact (pe_lst (pa_cons pe_str (pa_cons (pv 14) (pa_cons pe_bl pa_nil))))))
  (pss_cons (ps_if (PW.pt (pw_and (pt_cmpR op_notN (pe_call G__law_walked HR__law_walked (by rfl) X.g__law_walked X.F__law_walked.kp X.b__law_walked .nil pass0 (pa_cons (pv 2) (pa_cons (pv 14) (pa_cons pe_int pa_nil)))) pe_non (nomark _)) (pw_and1 (pt_cmpR op_notIn_str (pv 4) (pv 14) rfl))))
  (pss_one (ps_set (i := 8) scJoinsRight.nd rfl (.inl rfl) (by exact (pe_lst (pa_cons pe_str (pa_cons (pe_call G__law_join HR__law_join (by rfl) X.g__law_join X.F__law_join.kp X.b__law_join .nil pass0 (pa_cons (pv 2) (pa_cons (pv 4) (pa_cons (pv 14) pa_nil)))) pa_nil))))))
  pss_nil)
  (pss_one (ps_ret (by exact (pe_cmpR (op_eqD hu64) (lam_given (k := 4) (T := TT) (TT := TTell I) X.F__law_told (by rfl) X.g__law_told X.b__law_told scTold rfl (Or.inl rfl) (fun cdv => told_gives X L cdv _) tb.tab rfl tb.mem tb.uni HR9 (lamS_by (by rfl)) rfl (fun _ _ _ _ _ => rfl) (fun A' outer' s' H' E' f' c'' hr' => (pe_call G_joinE (hr'.mono (by omega)) (by rfl) X.g_join X.F_join.kp X.b_join .nil (passes_own rfl rfl rfl rfl) (pa_cons (pv 1) (pa_cons (pv 4) (pa_cons (pv 14) pa_nil)))))) (pv 8) (nomark _))))))))))), ?_⟩
    have ndt := okT_nd okt
    obtain ⟨fwf, fok, fnd, ffu⟩ := freeT w2 w4
    have sg := cut_let w2 w4
    have gs := okSg_size sg w4
    refine ⟨.ref pt, rfl, .ref F, rfl, .int (w0 : Int), rfl, pt, F, ls, c, w0, rfl, pot, tb0, wf, okt, ndt, fu, cl64, w2, w4, fun m H1 hm pot1 b1 => ⟨by show 2 ≤ _; rw [sizeLine_eq]; decide, fun t nt => ?_⟩⟩
    refine ⟨t, _, rfl, SqT.of upd_same, rfl, _, _, rfl, _, _, rfl, rfl, ?_⟩
    have b2 := b1.trans (But.new (o := .tup [.str m, .str ""]) nt)
    have pot2 := pot1.same (Same.new (o := .tup [.str m, .str ""]) nt)
    generalize upd H1 t (.tup [.str m, .str ""]) = H2 at b2 pot2 ⊢
    clear nt b1 pot1
    have mne := hm.ne
    have m8 := hm.2.2
    have m1 := hm.2.1
    have wm := hm.1
    refine ⟨4, rfl, by decide, by decide, ?_⟩
    refine for_range (lo := 0) (n := 4) (fun i σ H' => ∃ (x : Str) (r6 r7 r8 r9 r10 r11 r12 r13 r14 r15 : Option V), σ = [some (.ref pt), some (.ref a), some (.ref F), some (.int (w0 : Int)), some (.str m), some (.str x), r6, r7, r8, r9, r10, r11, r12, r13, r14, r15] ∧ PotAt H' pt ∧ But pt H H' ∧ wordD (.str x) = true ∧ x.length ≤ 8) ⟨"", _, _, _, _, _, _, _, _, _, _, rfl, pot2, b2, rfl, by decide⟩ ?_ ?_
    · rintro i σ H3 hi ⟨x0, r6, r7, r8, r9, r10, r11, r12, r13, r14, r15, rfl, pot3, b3, wx0, lx0⟩
      refine gN ?_
      refine ⟨.ref pt, rfl, .ref F, rfl, .str m, rfl, pt, F, ls, c, w0, m, rfl, pot3, tb0.butP0 pot b3, wf, okt, ndt, w2, w4, hm, fun x g H4 ⟨wx, lx, e0, n0⟩ pot4 b4 => ?_⟩
      refine gN ?_
      have b34 := b3.trans b4
      have med4 := med.butP pot b34
      have tb4 := tb0.butP0 pot b34
      clear b3 b4 pot3 wx0 lx0
      refine ⟨.ref a, rfl, .str m, rfl, .str x, rfl, a, w0, c, m, x, rfl, med4, w2, w4, wf, okt, cl64, hm, ⟨wx, by omega⟩, fun _ _ H5 s5 => ?_, fun q => absurd ⟨by rw [e0]; rfl, n0⟩ q⟩
      refine ⟨.ref F, rfl, .str m, rfl, .str x, rfl, F, ls, c, w0, m, x, g, rfl, tb4.same s5, ndt, wf, okt, w4, cl64, hm, wx, by omega, e0, n0, fun H6 s6 => ?_⟩
      refine ⟨_, _, rfl, ?_⟩
      have s46 := Same.trans s5 s6
      -- the free table
      refine ⟨.int (w0 : Int), rfl, (w0 : Int), rfl, "abcd", rfl, abcd_len, _, rfl, fun T nT => ?_⟩
      have lf : (freeR w0).length = w0 := by unfold freeR; rw [List.length_map, List.length_take]; show min w0 4 = w0; omega
      refine lc_it (w := walk_str (z := cutS "abcd" none (some (w0 : Int)))) (g := gName 15) (tt := tYes) (fun j H' => Same H6 H' ∧ WxAt H' T ((freeR w0).take j)) ⟨Same.new nT, [], upd_same, rfl, fun j t h => by cases h⟩ (fun _ _ _ _ => True.intro) ?_ ?_
      · rintro j y Ha Hb hj ⟨sj, wxj⟩ ⟨rfl, cc, hcc, rfl⟩
        have hz := okSg_at sg hcc
        have hf : (freeR w0)[j]? = some (⟨#[cc]⟩, 0) := by unfold freeR; rw [List.getElem?_map, hz]; rfl
        refine gN ⟨rfl, yes_of (iteT ?_)⟩
        refine ⟨.str ⟨#[cc]⟩, rfl, sz2, fun t nt => ?_⟩
        obtain ⟨ts, eT, lt, kt⟩ := id wxj
        refine ⟨_, Same.new nt _ _ eT, ?_, ?_, ?_⟩
        · rw [List.length_map, lt, List.length_take, lf, sizeLine_eq]; omega
        · intro b o eb
          rw [upd_ne (ne_of_none eb nT)]
          exact Same.new nt _ _ (sj _ _ eb)
        · rw [take_snoc hf]
          refine (wxj.same (Same.new nt)).add (T := t) (fun b o n eb => by rw [upd_ne n]; exact eb) ?_ (Same.new nt _ _ eT) upd_same
          rw [upd_ne (fun z => by rw [z, eT] at nt; cases nt), upd_same]; rfl
      · rintro H7 ⟨s67, wx7⟩
        rw [gs, List.take_of_length_le (by rw [lf]; exact Nat.le_refl _)] at wx7
        obtain ⟨ts, eT, lt, kt⟩ := wx7
        refine ⟨T, ts, _, rfl, SqL.of eT, row_paired lt kt, fun d nd0 => ⟨sz1, fun D nD => ?_⟩⟩
        have em : mergeK [] (rowK (freeR w0)) = rowK (freeR w0) := rowK_merge (freeR w0) [] (okR_nd (free_ok w2 w4).1)
        rw [em] at nD ⊢
        refine gN ?_
        have Dd : D ≠ d := fun z => by rw [z, upd_same] at nD; cases nD
        have s8 := Same.trans s67 (Same.trans (Same.new (o := .dK (rowK (freeR w0))) nd0) (Same.new (o := .lst [.ref d]) nD))
        have tbF : TbR (upd (upd H7 d (.dK (rowK (freeR w0)))) D (.lst [.ref d])) D [d] [freeR w0] := ⟨by rw [upd_same]; rfl, rfl, fun i a q => by
          cases i with
          | zero => cases q; exact ⟨freeR w0, List.Perm.refl _, .inl (by rw [upd_ne (fun z => Dd z.symm), upd_same])⟩
          | succ i => cases q⟩
        generalize (upd (upd H7 d (.dK (rowK (freeR w0)))) D (.lst [.ref d])) = H8 at s8 tbF ⊢
        have s48 := Same.trans s46 s8
        clear eT kt s67 nd0 nD Dd s6 s5
        have xin := led_in okt e0
        have ef := led_free w2 w4 xin
        generalize hJ : joinJ c (cl m) (cl x) = J
        refine ⟨rfl, .int (w0 : Int), rfl, w0, rfl, w2, w4, fun z H9 s9 nz med9 => ?_⟩
        refine ⟨.str m, rfl, .str x, rfl, z, w0, [freeR w0], m, x, rfl, med9, w2, w4, fwf, fok, Nat.le_of_lt (by decide : 1 < 64), hm, ⟨wx, by omega⟩, fun _ _ H10 s10 => ?_, fun q => absurd ⟨by rw [ef]; rfl, n0⟩ q⟩
        refine gN ?_
        refine ⟨_, rfl, _, rfl, scalJ J, _, rfl, ?_⟩
        rw [decide_eq_true rfl, Bool.not_true]
        refine iteF ?_
        have tbF10 := tbF.same (Same.trans s9 s10)
        have s410 := Same.trans s48 (Same.trans s9 s10)
        clear tbF s48 s9 s10 nz med9 s46
        refine ⟨_, rfl, .ref D, rfl, .str m, rfl, .str x, rfl, D, [d], [freeR w0], w0, m, x, 0, rfl, tbF10, fnd, fwf, fok, w4, Nat.le_of_lt (by decide : 1 < 64), hm, wx, by omega, ef, n0, fun H11 s11 => ⟨scalJ _, _, rfl, ?_⟩⟩
        rw [decide_eq_true rfl, Bool.not_true]
        refine iteF ?_
        have s411 := Same.trans s410 s11
        have med11 := med4.same s411
        refine ⟨.str x, rfl, .str m, rfl, .ref a, rfl, a, w0, c, m, x, rfl, med11, w2, w4, wf, okt, cl64, hm, ⟨wx, by omega⟩, fun _ _ H12 s12 => ?_, fun q => absurd ⟨by rw [e0]; rfl, n0⟩ q⟩
        rw [hJ]
        refine ⟨_, rfl, scalJ J, _, rfl, ?_⟩
        rw [decide_eq_true rfl, Bool.not_true]
        refine iteF ?_
        have s412 := Same.trans s411 s12
        have tb12 := tb4.same s412
        clear s411 s410 s11 s12 tbF10 med11
        have hno : ∀ y, fineJ c (cl m) (cl x) y → ∃ t, J = some t ∧ tle t y := fun y hy => by
          cases J with
          | none => exact absurd hy (join_none wf okt mne e0 n0 hJ y)
          | some t => exact ⟨t, rfl, (join_some okt mne e0 n0 hJ).2 y hy⟩
        cases J with
        | none =>
          refine ⟨optT none, rfl, rfl, _, rfl, ?_⟩
          rw [decide_eq_true (show optT none = V.non from rfl)]
          refine iteT ⟨.str x, rfl, .str m, rfl, x, m, rfl, rfl, by rw [sizeLine_eq]; omega, ?_⟩
          refine gN ?_
          refine ⟨optT none, rfl, rfl, _, rfl, ?_⟩
          rw [decide_eq_true (show optT none = V.non from rfl)]
          refine iteF (iteF ?_)
          refine ⟨.int (w0 : Int), rfl, w0, 3, rfl, w2, w4, by decide, fun W H13 s13 nW eW => ⟨W, rfl, ⟨_, SqL.of eW⟩, ?_⟩⟩
          refine for_it (w := walk_list (K := K) (a := W) (xs := wdsV (wordsW w0 3))) (fun j σ H' => ∃ r12 : Option V, σ = [some (.ref pt), some (.ref a), some (.ref F), some (.int (w0 : Int)), some (.str m), some (.str x), some (.int (0 + (i : Int))), some (optT none), some (optT none), some (.ref D), some (optT (joinJ [freeR w0] (cl m) (cl x))), some (.str (x ++ m)), r12, r13, r14, r15] ∧ Same H13 H') ⟨_, rfl, Same.refl⟩ (fun j σ H' _ ⟨_, _, s⟩ => SqL.of (s _ _ eW)) ?_ ?_
          · rintro j y0 σ Ha Hb hj ⟨r12', rfl, sj⟩ ⟨rfl, hx⟩
            unfold wdsV at hx
            rw [List.getElem?_map] at hx
            obtain ⟨u, hu, rfl⟩ := Option.map_eq_some_iff.mp hx
            obtain ⟨ul, us⟩ := words_mem (List.mem_of_getElem? hu)
            have wy := (cat_ok us (by omega)).1
            have ly : (catL u).length ≤ 3 := by rw [cat_len us]; exact ul
            generalize catL u = y at wy ly
            have s1j := Same.trans s13 sj
            refine gN ?_
            refine ⟨.ref F, rfl, .str x, rfl, .str y, rfl, x, y, rfl, rfl, by rw [sizeLine_eq]; omega, .str m, rfl, x ++ y, m, rfl, rfl, by rw [str_app_len, sizeLine_eq]; omega, .str m, rfl, F, ls, c, x ++ y ++ m, m, rfl, tb12.same s1j, ndt, wf, word_app (word_app wx wy) wm, by rw [str_app_len]; omega, by rw [str_app_len, str_app_len]; omega, ?_⟩
            rw [← cl_len (x ++ y ++ m), ← cl_len m, cl_app, cl_app]
            by_cases hf : fineJ c (cl m) (cl x) (cl y)
            · obtain ⟨t1, et, lt1⟩ := hno _ hf
              rw [fine_iff.mpr hf]
              refine ⟨_, rfl, iteT ?_⟩
              cases et
            · rw [Bool.eq_false_iff.mpr fun q => hf (fine_iff.mp q)]
              exact ⟨_, rfl, iteF ⟨_, rfl, sj⟩⟩
          · rintro σ H14 ⟨r12', rfl, sj⟩
            have s414 := Same.trans s412 (Same.trans s13 sj)
            exact ⟨x, _, _, _, _, _, _, _, _, _, _, rfl, pot4.same s414, b34.trans (But.same s414), wx, lx⟩
        | some t =>
          obtain ⟨hfine, _⟩ := join_some okt mne e0 n0 hJ
          have tl : t.length ≤ 512 := Nat.le_trans (join_len wf okt mne e0 n0 hJ) (Nat.le_trans (Nat.mul_le_mul cl64 (by rw [cl_len]; exact m8)) (by decide))
          have tl2 := sl_len t
          have wt : wordD (.str (sl t)) = true := by
            have h1 := hfine.1
            rw [List.append_assoc, ledN_app, e0] at h1
            have h2 : (ledN c g (t ++ cl m)).isSome = true := h1
            rw [ledN_app] at h2
            cases q : ledN c g t with
            | none => rw [q] at h2; cases h2
            | some v => exact led_word okt q
          refine ⟨optT (some t), rfl, rfl, _, rfl, ?_⟩
          rw [decide_eq_false (show ¬ optT (some t) = V.non from fun y => by cases y)]
          refine iteF ⟨.str x, rfl, .str (sl t), rfl, x, sl t, rfl, rfl, by rw [sizeLine_eq]; omega, .str m, rfl, x ++ sl t, m, rfl, rfl, by rw [str_app_len, sizeLine_eq]; omega, ?_⟩
          refine gN ?_
          refine ⟨optT (some t), rfl, rfl, _, rfl, ?_⟩
          rw [decide_eq_false (show ¬ optT (some t) = V.non from fun y => by cases y)]
          refine iteT ⟨.ref F, rfl, .str (x ++ sl t ++ m), rfl, .str m, rfl, F, ls, c, x ++ sl t ++ m, m, rfl, tb12, ndt, wf, word_app (word_app wx wt) wm, by rw [str_app_len]; omega, by rw [str_app_len, str_app_len]; omega, ?_⟩
          rw [← cl_len (x ++ sl t ++ m), ← cl_len m, cl_app, cl_app, cl_sl, fine_iff.mpr hfine]
          refine ⟨_, rfl, iteF ?_⟩
          refine ⟨.int (w0 : Int), rfl, w0, 3, rfl, w2, w4, by decide, fun W H13 s13 nW eW => ⟨W, rfl, ⟨_, SqL.of eW⟩, ?_⟩⟩
          refine for_it (w := walk_list (K := K) (a := W) (xs := wdsV (wordsW w0 3))) (fun j σ H' => ∃ r12 : Option V, σ = [some (.ref pt), some (.ref a), some (.ref F), some (.int (w0 : Int)), some (.str m), some (.str x), some (.int (0 + (i : Int))), some (optT (some t)), some (optT (some t)), some (.ref D), some (optT (joinJ [freeR w0] (cl m) (cl x))), some (.str (x ++ sl t ++ m)), r12, r13, r14, r15] ∧ Same H13 H') ⟨_, rfl, Same.refl⟩ (fun j σ H' _ ⟨_, _, s⟩ => SqL.of (s _ _ eW)) ?_ ?_
          · rintro j y0 σ Ha Hb hj ⟨r12', rfl, sj⟩ ⟨rfl, hx⟩
            unfold wdsV at hx
            rw [List.getElem?_map] at hx
            obtain ⟨u, hu, rfl⟩ := Option.map_eq_some_iff.mp hx
            obtain ⟨ul, us⟩ := words_mem (List.mem_of_getElem? hu)
            have wy := (cat_ok us (by omega)).1
            have ly : (catL u).length ≤ 3 := by rw [cat_len us]; exact ul
            generalize catL u = y at wy ly
            have s1j := Same.trans s13 sj
            refine gN ?_
            refine ⟨.ref F, rfl, .str x, rfl, .str y, rfl, x, y, rfl, rfl, by rw [sizeLine_eq]; omega, .str m, rfl, x ++ y, m, rfl, rfl, by rw [str_app_len, sizeLine_eq]; omega, .str m, rfl, F, ls, c, x ++ y ++ m, m, rfl, tb12.same s1j, ndt, wf, word_app (word_app wx wy) wm, by rw [str_app_len]; omega, by rw [str_app_len, str_app_len]; omega, ?_⟩
            rw [← cl_len (x ++ y ++ m), ← cl_len m, cl_app, cl_app]
            by_cases hf : fineJ c (cl m) (cl x) (cl y)
            · obtain ⟨t1, et, lt1⟩ := hno _ hf
              rw [fine_iff.mpr hf]
              refine ⟨_, rfl, iteT ?_⟩
              cases et
              refine ⟨optT (some t), rfl, rfl, _, rfl, ?_⟩
              rw [decide_eq_false (show ¬ optT (some t) = V.non from fun y => by cases y)]
              refine iteF ⟨.str y, rfl, .str y, _, rfl, lenS (by omega), .str y, rfl, sz2, fun p1 np1 => ?_⟩
              refine ⟨.str (sl t), rfl, .str (sl t), _, rfl, lenS (by omega), .str (sl t), rfl, sz2, fun p2 np2 => ?_⟩
              have n12 : p1 ≠ p2 := ne_of_none upd_same np2
              refine ⟨pairD y, pairD (sl t), .tup (by rw [upd_ne n12]; exact upd_same) (.cons (.int _) (.cons (.str _) .nil)), .tup upd_same (.cons (.int _) (.cons (.str _) .nil)), rfl, (fun z => by cases z), (show (2 : Nat) - 1 ≤ 40 by decide), ?_⟩
              rw [show PySem.W.dataLt (pairD y) (pairD (sl t)) = false from not_ahead (by rw [cl_sl]; exact lt1)]
              exact ⟨_, rfl, iteF ⟨_, rfl, Same.trans sj (Same.trans (Same.new np1) (Same.new np2))⟩⟩
            · rw [Bool.eq_false_iff.mpr fun q => hf (fine_iff.mp q)]
              exact ⟨_, rfl, iteF ⟨_, rfl, sj⟩⟩
          · rintro σ H14 ⟨r12', rfl, sj⟩
            have s414 := Same.trans s412 (Same.trans s13 sj)
            exact ⟨x, _, _, _, _, _, _, _, _, _, _, rfl, pot4.same s414, b34.trans (But.same s414), wx, lx⟩
    · rintro σ H3 ⟨x, r6, r7, r8, r9, r10, r11, r12, r13, r14, r15, rfl, pot3, b3, wx, lx⟩
      refine ⟨.str x, rfl, .ref pt, rfl, pt, _, rfl, pot3, .inl ⟨"abcd", rfl, by decide +kernel, by decide +kernel, fun cc H4 hc pot4 b4 => ?_⟩⟩
      refine ⟨x, ⟨#[cc]⟩, rfl, rfl, by rw [sizeLine_eq]; show x.length + 1 ≤ _; omega, ?_⟩
      refine gN ?_
      have b34 := b3.trans b4
      refine ⟨.ref pt, rfl, .str x, rfl, .str m, rfl, x, m, rfl, rfl, by rw [sizeLine_eq]; omega, .str m, rfl, .str x, rfl, m, x, rfl, rfl, by rw [sizeLine_eq]; omega, .str (x ++ ⟨#[cc]⟩), rfl, .str m, rfl, by show 4 ≤ _; rw [sizeLine_eq]; decide, fun L4 nL => ?_⟩
      have b5 := b34.trans (But.new (o := .lst [.str (x ++ m), .str (m ++ x), .str (x ++ ⟨#[cc]⟩), .str m]) nL)
      refine ⟨pt, _, rfl, pot4.same (Same.new nL), .inr ⟨L4, _, rfl, pot4.ne nL, upd_same, (by show 0 < 4; decide), (by show 4 ≤ 1000; decide), fun v H5 hv pot5 b6 => ?_⟩⟩
      have b7 := b5.trans b6
      obtain ⟨o, rfl, wo, lo⟩ : ∃ o, v = .str o ∧ wordD (.str o) = true ∧ o.length ≤ 16 := by
        simp only [List.mem_cons, List.not_mem_nil, or_false] at hv
        rcases hv with h | h | h | h
        · exact ⟨_, h, word_app wx wm, by rw [str_app_len]; omega⟩
        · exact ⟨_, h, word_app wm wx, by rw [str_app_len]; omega⟩
        · exact ⟨_, h, word_app wx (word_one hc), by rw [str_app_len]; show x.length + 1 ≤ 16; omega⟩
        · exact ⟨_, h, wm, by omega⟩
      clear b5 b6 hv nL pot4 b4 b34
      refine gN ?_
      refine ⟨.str o, rfl, by show 3 ≤ _; rw [sizeLine_eq]; decide, fun D1 nD1 => ?_⟩
      refine gN ?_
      have b8 := b7.trans (But.new (o := .lst [.str "row", .str o, .bl true]) nD1)
      have pot8 := pot5.same (Same.new (o := .lst [.str "row", .str o, .bl true]) nD1)
      have eD8 : (upd H5 D1 (.lst [.str "row", .str o, .bl true])) D1 = some (.lst [.str "row", .str o, .bl true]) := upd_same
      generalize upd H5 D1 (.lst [.str "row", .str o, .bl true]) = H8 at b8 pot8 eD8 ⊢
      clear nD1 b7 pot5
      have tb8 := tb0.butP0 pot b8
      have med8 := med.butP pot b8
      have tabs8 := tabsB tabs pot b8
      have ost := word_strOk wo
      have bad : ¬ ((ledN c 0 (cl o)).isSome = true ∧ ¬ cl m <:+: cl o) → tSeq tNext (tRet (tOp (rEqD K) (tLam TT (TTell I) fun E => tCall (spJoin (ad "Medium") I) [] E (tCons (tVar 1) (tCons (tVar 4) (tCons (tVar 14) tNil)))) (tVar 8))) { nx := fun _ H' => Q .non H', rt := Q } [some (.ref pt), some (.ref a), some (.ref F), some (.int (w0 : Int)), some (.str m), some (.str x), r6, r7, some (.ref D1), r9, r10, r11, r12, some (.str (x ++ ⟨#[cc]⟩)), some (.str o), r15] H8 := fun no => by
        refine told_row (v := .str o) tabs8 (fun H2 E' Q' ex er => ?_) (fun H2 l ex t2 el => ?_)
        · exact ⟨.ref a, rfl, .str m, rfl, .str o, rfl, a, w0, c, m, o, rfl, med8.ext ex, w2, w4, wf, okt, cl64, hm, ⟨wo, by omega⟩, fun h1 h2 => absurd ⟨h1, h2⟩ no, fun _ => er⟩
        · refine ⟨.ref D1, rfl, rowDt o, rowDt o, .lst (SqL.of el) (.cons (.str _) (.cons (.str _) (.cons (.bl _) .nil))), .lst (SqL.of (ex _ _ eD8 fun _ z => nomatch z)) (.cons (.str _) (.cons (.str _) (.cons (.bl _) .nil))), rowDt_shaped ost, rowDt_shaped ost, ?_⟩
          rw [rowDt_self]
          exact k H2 ((ButN.of b8).trans (ButN.ext ex)) (pot8.extN ex) t2
      refine ⟨.ref F, rfl, .str o, rfl, F, ls, c, 0, lettersS o, by rw [letters_cat]; rfl, tb8, ndt, wf, wf.1, letters_in wo, ?_⟩
      rw [show ledL c 0 (lettersS o) = ledN c 0 (cl o) from rfl]
      cases e0 : ledN c 0 (cl o) with
      | none =>
        refine ⟨rfl, _, rfl, ?_⟩
        rw [decide_eq_true (show optV none = V.non from rfl)]
        exact iteF (iteF (bad fun q => by rw [e0] at q; cases q.1))
      | some v =>
        refine ⟨rfl, _, rfl, ?_⟩
        rw [decide_eq_false (show ¬ optV (some v) = V.non from fun y => by cases y)]
        refine iteT ⟨.str m, rfl, .str o, rfl, m, o, rfl, rfl, _, rfl, ?_⟩
        rw [show (!(Builtin.Str.occurrences o m 0 o.length 1).isEmpty) = infB (cl m) (cl o) from Bool.eq_iff_iff.mpr ((in_iff _ _).trans infB_iff.symm)]
        by_cases n0 : cl m <:+: cl o
        · rw [infB_iff.mpr n0]
          exact iteF (bad fun q => q.2 n0)
        · rw [infB_no.mpr n0]
          refine iteT ?_
          refine ⟨.ref F, rfl, .str m, rfl, .str o, rfl, F, ls, c, w0, m, o, v, rfl, tb8, ndt, wf, okt, w4, cl64, hm, wo, by omega, e0, n0, fun H9 s9 => ?_⟩
          generalize hJ : joinJ c (cl m) (cl o) = J
          refine ⟨sz2, fun D2 nD2 => ?_⟩
          refine gN ?_
          have s89 := Same.trans s9 (Same.new (o := .lst [.str "told", optT J]) nD2)
          have eD9 : (upd H9 D2 (.lst [.str "told", optT J])) D2 = some (.lst [.str "told", optT J]) := upd_same
          generalize upd H9 D2 (.lst [.str "told", optT J]) = HX at s89 eD9 ⊢
          have sok : ∀ t, J = some t → PyData.strOk (sl t) = true := fun t ht => by
            rw [ht] at hJ
            obtain ⟨hfine, _⟩ := join_some okt mne e0 n0 hJ
            have h1 := hfine.1
            rw [List.append_assoc, ledN_app, e0] at h1
            have h2 : (ledN c v (t ++ cl m)).isSome = true := h1
            rw [ledN_app] at h2
            cases q : ledN c v t with
            | none => rw [q] at h2; cases h2
            | some v => exact word_strOk (led_word okt q)
          refine told_told (v := optT J) (tabsS tabs8 s89) (fun H2 E' Q' ex er => ?_) (fun H2 l ex t2 el => ?_)
          · exact ⟨.ref a, rfl, .str m, rfl, .str o, rfl, a, w0, c, m, o, rfl, (med8.same s89).ext ex, w2, w4, wf, okt, cl64, hm, ⟨wo, by omega⟩, fun h1 h2 H' s' => by rw [hJ]; exact er H' s', fun no => absurd ⟨by rw [e0]; rfl, n0⟩ no⟩
          · refine ⟨.ref D2, rfl, toldD (optDT J), toldD (optDT J), .lst (SqL.of el) (.cons (.str _) (.cons (optDT_dp J) .nil)), .lst (SqL.of (ex _ _ eD9 fun _ z => nomatch z)) (.cons (.str _) (.cons (optDT_dp J) .nil)), toldD_shaped sok, toldD_shaped sok, ?_⟩
            rw [toldD_self (optDT_self J)]
            exact k H2 ((ButN.of (b8.trans (But.same s89))).trans (ButN.ext ex)) ((pot8.same s89).extN ex) t2
end
end K88
end

section
set_option maxHeartbeats 4000000
/-! least tables are their own -/
namespace K88
open PySem PySem.Spec PyProof.Rows L2
/-- the table of a least machine -/
structure DueT (w : Nat) (d : Ch) : Prop where
  wf : WfC d
  ok : okT w d
  full : Full d
  mn : ∀ x y, x < d.length → y < d.length → Lw d x y → x = y
  rg : reached d = List.range d.length
theorem due_of {w : Nat} {c : Ch} (wf : WfC c) (ok : okT w c) (l : liveB c 0 = true) : DueT w (leastC c) := by
  have wl := living_wf wf
  have hs : 0 < (living c).length := by rw [living_len]; exact wf.1
  refine ⟨chartS_wf wl hs, chartS_ok wl (living_ok ok) hs, chartS_full wf l, fun x y hx hy h => ?_, chartS_reached wl hs⟩
  unfold leastC at hx hy h
  rw [chartS_zero wl] at hx hy h
  exact chart_like wl hx hy h
theorem due_self {w : Nat} {d : Ch} (D : DueT w d) : leastC d = d ∧ liveB d 0 = true :=
  least_via (R := fun a b => a = b ∧ b < d.length) (q := fun i => i) ⟨fun a b ⟨e, h⟩ => ⟨e ▸ h, h⟩, fun a b z b' ⟨e, h⟩ q => ⟨b', e ▸ q, rfl, lkp_lt D.wf q⟩, fun a b z a' ⟨e, h⟩ q r => by rw [e, q] at r; cases r⟩ D.wf D.wf D.ok D.ok D.full rfl (fun i hi => ⟨rfl, hi⟩) D.mn D.rg
theorem leastC_le {c : Ch} (wf : WfC c) : (leastC c).length ≤ c.length := by
  have := chartS_le (living_wf wf) (s := 0) (by rw [living_len]; exact wf.1)
  rwa [living_len] at this
theorem via2 {G P : Addr → Hp → Prop} {R : Prop} (h : (∀ D H, P D H → G D H) → R) (p : ∀ D H, P D H → G D H) : R := h p
/-- what a law's table is: the least one of itself -/
structure OwnT (w : Nat) (d : Ch) : Prop where
  wf : WfC d
  ok : okT w d
  full : Full d
  own : leastC d = d
  live : liveB d 0 = true
  le : d.length ≤ 16
theorem own_least {w : Nat} {c : Ch} (wf : WfC c) (ok : okT w c) (l : liveB c 0 = true) (le : c.length ≤ 16) : OwnT w (leastC c) := by
  have D := due_of wf ok l
  obtain ⟨h1, h2⟩ := due_self D
  exact ⟨D.wf, D.ok, D.full, h1, h2, Nat.le_trans (leastC_le wf) le⟩
theorem own_free {w : Nat} (h : w = 2 ∨ w = 3) : OwnT w [freeR 2] := by
  have ok : okR w (freeR 2) := by rcases h with rfl | rfl <;> (unfold freeR okR; decide +kernel)
  obtain ⟨_, h2, h3⟩ := free_ok (w := 2) (by decide) (by decide)
  obtain ⟨e1, e2, e3, e4⟩ := one_least ok h2 h3
  exact ⟨e3, e4, (freeT (w := 2) (by decide) (by decide)).2.2.2, e1, e2, by show 1 ≤ 16; decide⟩
end K88
end

section
set_option maxHeartbeats 4000000
/-! right, by the law -/
namespace K88
open PySem PySem.Spec PyProof.Rows L2 LamX

def spRight (T : List (Addr × Str)) : Sp := fun vs H Q _ => ∃ pt : Addr, vs = [.ref pt] ∧ PotAt H pt ∧ Tabs T H ∧ ∀ H', ButN pt H H' → PotAt H' pt → Tabs T H' → Q (.bl true) H'
section
variable {P : Program} {w : World} {K : PySem.W.Frag} {mg : Str → Option Value} {base : Heap} {ad : Str → Addr} {fd : Str → FuncData}
theorem scRight : FnScope ["_law_pot_here", "_law_width", "_law_turn", "_law_lines_here", "_law_made", "_law_again"] ["_law_pot_here"] (defScope sRight) := ⟨rfl, rfl, rfl, by decide +kernel, rfl, by decide +kernel, by decide +kernel⟩
theorem ok_right (X : Tx K mg ad fd) (M : MedC K mg ad fd) (MW : MedW K mg ad fd) (MX : MedX K mg ad fd) {I fI N W fW : Addr} (L : TellC K mg ad I fI) (L_N : ErrN K mg "NothingLeft" N) (L_W : ErrW K mg "TooMany" W fW) {TT : List (Addr × Str)} {c0 PT : Addr} (tb : Tb mg base fd TT "_law_joins_right" "_law_joins_right.<locals>.<lambda>" c0 PT) : FnG P w K mg base 12 (ad "_law_right") (fd "_law_right") ["_law_pot_here"] (spRight TT) := by
  have G__law_draw := ok_draw (P := P) (w := w) (base := base) X
  have G__law_lines := ok_lines (P := P) (w := w) (base := base) X
  have G__law_least := ok_lawleast (P := P) (w := w) (base := base) X
  have G__law_joins_right := ok_joins (P := P) (w := w) (base := base) X M MW MX L L_N L_W tb
  have G_table := ok_mtable (P := P) (w := w) (base := base) X M
  have G_init := fnOk_cx0 (ok_minit (P := P) (w := w) (base := base) X M L_N L_W)
  refine fnG_body X.F__law_right scRight (fun vs H Q E h => ?_) (fun cdv A outer s H vs Q E hr h => ?_)
  · obtain ⟨pt, rfl, pot, tabs, k⟩ := h
    rfl
  · obtain ⟨pt, rfl, pot, tabs, k⟩ := h
    have hg := hr.gd
    have hs := X.sys
    have hu64 : (A.deeper (envOfC "_law_right" (defScope sRight) s.heap.objs.size (ad "_law_right") cdv)).units + 64 < cLine := by have := hr.rm.un; omega
    have HR__law_draw : Room 1 _ := hr.rm.mono (by decide)
    have HR__law_lines : Room 2 _ := hr.rm.mono (by decide)
    have HG__law_least : RoomG 2 _ := hr.mono (by decide)
    have HG__law_joins_right : RoomG 10 _ := hr.mono (by decide)
    have HR1 : Room 1 _ := hr.rm.mono (by decide)
    have HR6 : Room 6 _ := hr.rm.mono (by decide)
    refine ⟨_, (pss_cons (ps_set (i := 1) scRight.nd rfl (.inr rfl) (by exact (pe_op op_add pe_int (pe_call G__law_draw HR__law_draw (by rfl) X.g__law_draw X.F__law_draw.kp X.b__law_draw .nil pass0 (pa_cons (pv 0) (pa_cons pe_int pa_nil))))))
  (pss_cons (ps_for PassesOwn.never rfl (pi_range1 (by rfl) X.m_range (pa_cons pe_int pa_nil)) (pg_name (i := 2) scRight.nd rfl (.inl rfl))
  (pss_cons (ps_set (i := 3) scRight.nd rfl (.inr rfl) (by exact (pe_callG (E := E0) G__law_least HG__law_least (by rfl) X.g__law_least X.F__law_least.kp X.b__law_least (pa_cons (pe_call G__law_lines HR__law_lines (by rfl) X.g__law_lines X.F__law_lines.kp X.b__law_lines .nil pass0 (pa_cons (pv 0) (pa_cons (pv 1) (pa_cons pe_int pa_nil)))) pa_nil))))
  (pss_cons (ps_set (i := 3) scRight.nd rfl (.inr rfl) (by exact (pe_lock (pe_ifExp (pt_cmpR op_isN (pv 3) pe_non (nomark _)) (pe_lst (pa_cons (pe_disp (pps_cons pe_str pe_int (pps_cons pe_str pe_int pps_nil)) rfl rfl (fun z => nomatch z) (by show 2 ≤ 15; decide)) pa_nil)) (pv 3)))))
  (pss_cons (ps_set (i := 4) scRight.nd rfl (.inr rfl) (by exact (pe_make M.mks G_init HR6 (by rfl) M.G M.b_init .nil pass0 (pa_cons (pv 1) (pa_cons (pv 3) pa_nil)))))
  (pss_cons (ps_if (pt_not (pt_val (pe_callB (cr_allK (K := K) rfl) (by rfl) X.m_all (by decide +kernel) (pa_cons (pe_lc (own := [("_law_again", 5)]) (g := gName 5) rfl scRight.nd (pi_range1 (by rfl) X.m_range (pa_cons pe_int pa_nil)) (blkOk_by (own := [("_law_again", 5)]) (N := ["_law_pot_here", "_law_width", "_law_turn", "_law_lines_here", "_law_made", "_law_again"]) (sc := defScope sRight) (by decide +kernel)) (fun _ _ _ _ _ => pg_name (i := 5) scRight.nd rfl (Or.inl rfl)) (fun _ _ _ _ _ => pts_nil) (fun _ _ _ _ _ => (pe_callG (E := E0) G__law_joins_right HG__law_joins_right (by rfl) X.g__law_joins_right X.F__law_joins_right.kp X.b__law_joins_right (pa_cons (pv 0) (pa_cons (pv 4) (pa_cons (pv 3) (pa_cons (pv 1) pa_nil))))))) pa_nil))))
  (pss_one (ps_ret (by exact pe_bl)))
  pss_nil)
  (pss_one (ps_if (pt_cmpR (op_neTT hu64) (pe_meth0 (pv 4) M.cl M.m_table G_table HR1 M.b_table .nil pass0) (pv 3) (nomark _))
  (pss_one (ps_ret (by exact pe_bl)))
  pss_nil)))))))
  (pss_one (ps_ret (by exact pe_bl))))), ?_⟩
    refine ⟨.ref pt, rfl, pt, 2, rfl, pot, by decide, by decide, fun d0 H1 d00 d01 pot1 b1 => ⟨2, d0, rfl, rfl, ?_⟩⟩
    obtain ⟨mm, rfl⟩ := Int.eq_ofNat_of_zero_le d00
    obtain ⟨wd, hwd⟩ : ∃ wd : Nat, 2 + mm = wd := ⟨_, rfl⟩
    have w23 : wd = 2 ∨ wd = 3 := by omega
    have w2 : 2 ≤ wd := by omega
    have w4 : wd ≤ 4 := by omega
    dsimp only
    rw [show V.int (2 + (mm : Int)) = V.int ((2 + mm : Nat) : Int) from rfl, hwd]
    refine gN ?_
    refine ⟨4, rfl, by decide, by decide, ?_⟩
    refine for_range (lo := 0) (n := 4) (fun i σ H' => ∃ r2 r3 r4 r5 : Option V, σ = [some (.ref pt), some (.int (wd : Int)), r2, r3, r4, r5] ∧ PotAt H' pt ∧ ButN pt H H' ∧ Tabs TT H') ⟨_, _, _, _, rfl, pot1, ButN.of b1, tabsB tabs pot b1⟩ ?_ ?_
    · rintro i σ H2 hi ⟨r2, r3, r4, r5, rfl, pot2, b2, t2⟩
      refine gN ?_
      refine' via2 (P := fun D H5 => ∃ ls d, TbF H5 D ls d ∧ OwnT wd d ∧ ButN pt H H5 ∧ PotAt H5 pt ∧ Tabs TT H5) (fun hR => ?_) ?_
      rotate_left
      · refine ⟨.ref pt, rfl, .int (wd : Int), rfl, pt, wd, 4, rfl, pot2, w2, w4, by decide, by decide, fun F c H3 nF nt cw co cl pot3 b3 => ?_⟩
        obtain ⟨lsF, tr⟩ := nt.toR
        have b23 := b2.trans (ButN.of b3)
        have t3 := tabsB t2 pot2 b3
        refine ⟨F, lsF, c, wd, rfl, tr, cw, co, by omega, fun lv H4 s4 => ?_, fun lv D H4 s4 nD ntD => ?_⟩
        · refine gN ?_
          refine ⟨.non, rfl, rfl, _, rfl, ?_⟩
          rw [decide_eq_true rfl]
          refine iteT fun p np => ⟨upd_same, [(.inr "a", .int 0), (.inr "b", .int 0)], rfl, by decide, sz1, fun L1 nL => ⟨fun b => H4 b = none, fun H5 L5 => ?_⟩⟩
          have ed : mergeK [] [((.inr "a" : Key), V.int 0), (.inr "b", .int 0)] = rowK (rowC [freeR 2] 0) := by decide +kernel
          rw [ed] at nL L5
          have s4b : Same H4 (upd (upd (upd H4 p (.dK [])) p (.dK (rowK (rowC [freeR 2] 0)))) L1 (.lst [.ref p])) := fun b o e => by
            rw [upd_ne (ne_of_none (show (upd (upd H4 p (.dK [])) p (.dK (rowK (rowC [freeR 2] 0)))) b = some o by rw [upd_ne (ne_of_none e np), upd_ne (ne_of_none e np)]; exact e) nL), upd_ne (ne_of_none e np), upd_ne (ne_of_none e np)]
            exact e
          have pL : p ≠ L1 := fun z => by rw [← z, upd_same] at nL; cases nL
          have ntD : NewT H4 (upd (upd (upd H4 p (.dK [])) p (.dK (rowK (rowC [freeR 2] 0)))) L1 (.lst [.ref p])) L1 [freeR 2] := ⟨[p], upd_same, rfl, fun i d q => by
            cases i with
            | zero => cases q; exact ⟨np, by rw [upd_ne pL, upd_same]⟩
            | succ i => cases q⟩
          obtain ⟨ld, tbD⟩ := ntD.lock L5
          have s35 := Same.trans s4 (L5.same s4b)
          exact hR L1 H5 ⟨ld, _, tbD, own_free w23, b23.trans (ButN.same s35), pot3.same s35, tabsS t3 s35⟩
        · refine gN ?_
          refine ⟨.ref D, rfl, rfl, _, rfl, ?_⟩
          rw [decide_eq_false (fun z => by cases z)]
          refine iteF ⟨.ref D, rfl, fun b => H3 b = none, fun H5 L5 => ?_⟩
          obtain ⟨ld, tbD⟩ := ntD.lock L5
          have s35 := L5.same s4
          exact hR D H5 ⟨ld, _, tbD, own_least cw co lv (by omega), b23.trans (ButN.same s35), pot3.same s35, tabsS t3 s35⟩
      · rintro D H5 ⟨ls, d, tbD, ow, b5, pot5, t5⟩
        refine gN ?_
        have le64 : d.length ≤ 64 := Nat.le_trans ow.le (by decide)
        refine ⟨.int (wd : Int), rfl, .ref D, rfl, fun x dx nx ndx ne => ?_⟩
        have sx : Same H5 (upd (upd H5 dx (.own x)) x (.ins (ad "Medium") dx [])) := fun b o e => by rw [upd_ne (ne_of_none e nx), upd_ne (ne_of_none e ndx)]; exact e
        refine ⟨x, dx, D, ls, d, wd, rfl, upd_same, w2, w4, (tbD.same sx).toP, ow.wf, ow.ok, le64, fun l => (by rw [ow.live] at l; cases l), fun l l16 => absurd l16 (by rw [ow.own]; have := ow.le; omega), fun l l16 H6 b6 mo => ⟨rfl, ?_⟩⟩
        rw [ow.own] at mo
        have s56 : Same H5 H6 := fun b' o e => b6 _ _ (ne_of_none e nx) (sx _ _ e)
        refine gN ?_
        have pot6 := pot5.same s56
        have t6 := tabsS t5 s56
        have bh6 := b5.trans (ButN.same s56)
        have tb6 := tbD.same s56
        refine ⟨3, rfl, by decide, by decide, fun D2 nD2 => ?_⟩
        have nDp := pot6.ne nD2
        refine lc_range (lo := 0) (n := 3) (fun i H' => ButN pt H6 H' ∧ PotAt H' pt ∧ Tabs TT H' ∧ H' D2 = some (.lst ((List.replicate i true).map V.bl))) ⟨ButN.same (Same.new nD2), pot6.same (Same.new nD2), tabsS t6 (Same.new nD2), upd_same⟩ (fun i H7 hi hP => ?_) (fun H7 hP => ?_)
        · obtain ⟨b7, pot7, t7, eD7⟩ := hP
          refine ⟨rfl, .ref pt, rfl, .ref x, rfl, .ref D, rfl, .int (wd : Int), rfl, pt, x, D, ls, d, wd, rfl, pot7, mo.butN pot6 b7, (tb6.butN pot6 b7).toR, ow.wf, ow.ok, ow.full, le64, w2, w4, t7, fun H8 b8 pot8 t8 => ?_⟩
          have eD8 := b8 _ _ nDp eD7 (fun _ z => nomatch z)
          refine ⟨_, eD8, ?_, fun b o n e nt => ?_, ?_, tabsU t8 eD8, ?_⟩
          · rw [List.length_map, List.length_replicate, sizeLine_eq]; omega
          · rw [upd_ne (ne_of_none e nD2)]
            exact b8 _ _ n (b7 _ _ n e nt) nt
          · obtain ⟨p1, p2, pe, pr⟩ := pot8
            exact ⟨p1, p2, by rw [upd_ne (fun z => nDp z.symm)]; exact pe, pr⟩
          · rw [upd_same, List.replicate_succ', List.map_append]; rfl
        · obtain ⟨b7, pot7, t7, eD7⟩ := hP
          refine ⟨D2, _, rfl, SqL.of eD7, _, rfl, ?_⟩
          rw [show (List.replicate 3 true).all id = true from rfl]
          refine iteF ?_
          have mo7 := mo.butN pot6 b7
          obtain ⟨dxm, Fm, lsm, Lm, tsm, em, _⟩ := id mo7
          refine ⟨.ref x, rfl, x, dxm, _, rfl, em, rfl, x, wd, d, rfl, mo7, le64, fun T H8 s8 nT ntT => ?_⟩
          obtain ⟨lsT, trT⟩ := ntT.toR
          refine ⟨.ref D, rfl, T, D, lsT, ls, d, d, rfl, rfl, trT, ((tb6.butN pot6 b7).same s8).toR, okT_nd ow.ok, okT_nd ow.ok, le64, _, rfl, ?_⟩
          rw [eqTB_ok ow.ok ow.ok, decide_eq_true rfl, Bool.not_true]
          exact iteF ⟨_, _, _, _, rfl, pot7.same s8, (bh6.trans b7).trans (ButN.same s8), tabsS t7 s8⟩
    · rintro σ H2 ⟨r2, r3, r4, r5, rfl, pot2, b2, t2⟩
      exact k H2 b2 pot2 t2
end
end K88
end

section
set_option maxHeartbeats 4000000
/-! the joins that are told outright -/
namespace K88
open PySem PySem.Spec PyProof.Rows L2 LamX
def barC : Ch := [[("a", 0), ("b", 1)], [("a", 0)]]
theorem bar_tab : barT ["", "b"] ["bb"] 2 = barC := by decide +kernel
theorem barC_okR : ∀ r ∈ barC, okR 2 r := by unfold okR; decide +kernel
theorem barC_due : DueT 2 barC where
  wf := ⟨by decide, by decide +kernel⟩
  ok := fun r hr => ⟨barC_okR r hr, trivial⟩
  full := by
    intro r hr e
    subst e
    revert hr
    decide +kernel
  mn := fun x y hx hy h => by
    have q := h.keys
    have hx : x < 2 := hx
    have hy : y < 2 := hy
    have n01 : keysR (rowC barC 0) ≠ keysR (rowC barC 1) := by decide +kernel
    rcases (by omega : x = 0 ∨ x = 1) with rfl | rfl <;> rcases (by omega : y = 0 ∨ y = 1) with rfl | rfl
    · rfl
    · exact absurd q n01
    · exact absurd q.symm n01
    · rfl
  rg := by decide +kernel
theorem bar_okw : OkWords 2 ["bb"] := ⟨by decide, by decide, fun z hz => by
  rw [List.mem_singleton.mp hz]
  exact ⟨by decide, by decide, by decide +kernel⟩⟩
theorem pre_bb (x : Str) : preS ["bb"] x = true ↔ x = "" ∨ x = "b" := by
  unfold preS begB
  rw [List.any_cons, List.any_nil, Bool.or_false, Bool.and_eq_true, decide_eq_true_iff, decide_eq_true_iff]
  constructor
  · rintro ⟨h, l⟩
    have l : x.length < 2 := l
    rw [← cl_len] at l
    have e : cl x = (cl "bb").take (cl x).length := List.prefix_iff_eq_take.mp h
    rcases (by omega : (cl x).length = 0 ∨ (cl x).length = 1) with q | q
    · exact .inl (cl_ext (by rw [e, q]; decide +kernel))
    · exact .inr (cl_ext (by rw [e, q]; decide +kernel))
  · rintro (rfl | rfl)
    · exact ⟨by decide +kernel, by decide⟩
    · exact ⟨by decide +kernel, by decide⟩
theorem starts_bb {ys : List Str} (h : IsStarts ["bb"] ys) : ys = (["", "b"] : List Str) := by
  have m : ∀ x, x ∈ ys ↔ x = "" ∨ x = "b" := fun x => (h.mem x).trans (pre_bb x)
  have ne : ("" : Str) ≠ "b" := by decide +kernel
  have nd2 : (["", "b"] : List Str).Nodup := by decide +kernel
  have pm : ys.Perm ["", "b"] := (List.perm_ext_iff_of_nodup h.nd nd2).mpr fun x => by rw [m x]; simp
  have l2 : ys.length = 2 := pm.length_eq
  match ys, l2, m, h.srt, h.nd with
  | [p, q], _, m, st, nd =>
    rcases (m p).mp List.mem_cons_self with rfl | rfl <;> rcases (m q).mp (List.mem_cons_of_mem _ List.mem_cons_self) with rfl | rfl
    · exact absurd List.mem_cons_self (List.nodup_cons.mp nd).1
    · rfl
    · revert st; decide +kernel
    · exact absurd List.mem_cons_self (List.nodup_cons.mp nd).1
theorem j1 : joinJ barC (cl "aaa") (cl "aa") = some [98] := by decide +kernel
theorem j2 : joinJ barC (cl "aaa") (cl "b") = some [] := by decide +kernel
theorem j3 : joinJ barC (cl "bb") (cl "") = none := by decide +kernel
theorem j4 : joinJ barC (cl "c") (cl "a") = none := by decide +kernel
theorem j5 : joinJ [freeR 2] (cl "aaaaaaaa") (cl "aaaaaaa") = some [98] := by decide +kernel
theorem barLed : (ledN barC 0 (cl "aa")).isSome = true ∧ (ledN barC 0 (cl "b")).isSome = true ∧ (ledN barC 0 (cl "")).isSome = true ∧ (ledN barC 0 (cl "a")).isSome = true ∧ (ledN [freeR 2] 0 (cl "aaaaaaa")).isSome = true := by decide +kernel
theorem barNo : infB (cl "aaa") (cl "aa") = false ∧ infB (cl "aaa") (cl "b") = false ∧ infB (cl "bb") (cl "") = false ∧ infB (cl "c") (cl "a") = false ∧ infB (cl "aaaaaaaa") (cl "aaaaaaa") = false := by decide +kernel
theorem marksOk : okMark "aaa" ∧ okMark "bb" ∧ okMark "c" ∧ okMark "aaaaaaaa" ∧ okMark "b" ∧ okMark "ab" := by
  refine ⟨⟨?_, by decide, by decide⟩, ⟨?_, by decide, by decide⟩, ⟨?_, by decide, by decide⟩, ⟨?_, by decide, by decide⟩, ⟨?_, by decide, by decide⟩, ⟨?_, by decide, by decide⟩⟩ <;> decide +kernel
theorem rowsOk : okRow "aa" ∧ okRow "b" ∧ okRow "" ∧ okRow "a" ∧ okRow "aaaaaaa" := by
  refine ⟨⟨?_, by decide⟩, ⟨?_, by decide⟩, ⟨?_, by decide⟩, ⟨?_, by decide⟩, ⟨?_, by decide⟩⟩ <;> decide +kernel
/-- so many a -/
def aN (n : Nat) : Str := sl (List.replicate n 97)
theorem aN_cl (n : Nat) : cl (aN n) = List.replicate n 97 := rfl
theorem aN_row {n : Nat} (h : n ≤ 2000) : okRow (aN n) := by
  refine ⟨?_, by unfold aN; rw [sl_len, List.length_replicate]; exact h⟩
  show (List.replicate n 97).all sgn = true
  rw [List.all_eq_true]
  intro x hx
  rw [(List.mem_replicate.mp hx).2]
  decide +kernel
theorem aN_led (n : Nat) : ledN [freeR 2] 0 (cl (aN n)) = some 0 := led_free (by decide) (by decide) fun a ha => by
  rw [aN_cl] at ha
  rw [(List.mem_replicate.mp ha).2]
  decide +kernel
theorem aN_no {n : Nat} {m : NL} (h : 98 ∈ m) : ¬ m <:+: cl (aN n) := fun q => by
  have := q.subset h
  rw [aN_cl] at this
  have := (List.mem_replicate.mp this).2
  omega
theorem join_aN {n : Nat} {m : Str} (hm : okMark m) (l : (ledN [freeR 2] 0 (cl m)).isSome = true) (h : 98 ∈ cl m) (e : ∃ k, cl m = List.replicate k 97 ++ [98]) : joinJ [freeR 2] (cl m) (cl (aN n)) = some [] := by
  obtain ⟨fwf, fok, _, _⟩ := freeT (w := 2) (by decide) (by decide)
  have n0 := aN_no (n := n) h
  have f : fineJ [freeR 2] (cl m) (cl (aN n)) [] := by
    refine ⟨?_, fun q => ?_⟩
    · rw [List.append_nil, ledN_app, aN_led]; exact l
    · obtain ⟨k, ek⟩ := e
      have := q.subset h
      rw [List.append_nil, ek, aN_cl, ← List.append_assoc, List.dropLast_concat, List.mem_append] at this
      rcases this with z | z <;> (have := (List.mem_replicate.mp z).2; omega)
  cases J : joinJ [freeR 2] (cl m) (cl (aN n)) with
  | none => exact absurd f (join_none fwf fok hm.ne (aN_led n) n0 J [])
  | some t =>
    have := (join_some fok hm.ne (aN_led n) n0 J).2 [] f
    rcases this with q | q
    · rcases q with q | ⟨_, q⟩
      · exact absurd q (Nat.not_lt_zero _)
      · cases t <;> cases q
    · rw [q]
theorem jb (n : Nat) : joinJ [freeR 2] (cl "b") (cl (aN n)) = some [] := join_aN marksOk.2.2.2.2.1 (by decide +kernel) (by decide +kernel) ⟨0, by decide +kernel⟩
theorem jab (n : Nat) : joinJ [freeR 2] (cl "ab") (cl (aN n)) = some [] := join_aN marksOk.2.2.2.2.2 (by decide +kernel) (by decide +kernel) ⟨1, by decide +kernel⟩
theorem mulA (n : Nat) : Txt.mul "a" (n : Int) = aN n := cl_ext (by
  rw [show ("a" : Str) = (⟨#[97]⟩ : Str) by decide +kernel]
  exact mul_one_list 97 (n : Int))
end K88
end

section
set_option maxHeartbeats 4000000
/-! the law -/
namespace K88
open PySem PySem.Spec PyProof.Rows L2 LamX
theorem sqKeep {K : PySem.W.Frag} {H H' : Hp} {a : Addr} {xs : List V} (h : SqL K H a xs) (s : ∀ o, H a = some o → (∀ ps, o ≠ .tbl ps) → H' a = some o) : SqL K H' a xs := by
  rcases h with h | h
  · rcases h with e | ⟨o, e⟩
    · exact .inl (.inl (s _ e (fun _ z => nomatch z)))
    · exact .inl (.inr ⟨o, s _ e (fun _ z => nomatch z)⟩)
  · exact .inr h
def spLaw (K : PySem.W.Frag) (T : List (Addr × Str)) : Sp := fun vs H Q _ => ∃ (a : Addr) (ns : List Int), vs = [.ref a] ∧ SqL K H a (ns.map V.int) ∧ Tabs T H ∧ ∀ H', Q (.bl true) H'
section
variable {P : Program} {w : World} {K : PySem.W.Frag} {mg : Str → Option Value} {base : Heap} {ad : Str → Addr} {fd : Str → FuncData}
theorem scLaw : FnScope ["_law_script", "_law_bars", "_law_told_here", "_law_k"] ["_law_script"] (defScope sLaw) := ⟨rfl, rfl, rfl, by decide +kernel, rfl, by decide +kernel, by decide +kernel⟩
theorem ok_law (X : Tx K mg ad fd) (M : MedC K mg ad fd) (MW : MedW K mg ad fd) (MX : MedX K mg ad fd) (MB : MedB K mg ad fd) {I fI N W fW : Addr} (L : TellC K mg ad I fI) (L_N : ErrN K mg "NothingLeft" N) (L_W : ErrW K mg "TooMany" W fW) {TT : List (Addr × Str)} {c0 PT : Addr} (tb : Tb mg base fd TT "_law_joins_right" "_law_joins_right.<locals>.<lambda>" c0 PT) : FnG P w K mg base 13 (ad "law") (fd "law") ["_law_script"] (spLaw K TT) := by
  have G__law_pot := ok_pot (P := P) (w := w) (base := base) X
  have G__law_right := ok_right (P := P) (w := w) (base := base) X M MW MX L L_N L_W tb
  have G_join := fnOk_cx0 (ok_join (P := P) (w := w) (base := base) X M MW MX L.R)
  obtain ⟨mcM, crM, cmM, _⟩ := MW.cr
  have FM := (ok_mfree (P := P) (w := w) (base := base) X M MW L_N L_W).raw MW.b_free .nil
  obtain ⟨mcB, crB, cmB, _⟩ := MB.crb
  have FB := ok_mbar (P := P) (w := w) (base := base) X M MB L_N L_W
  refine fnG_body X.F_law scLaw (fun vs H Q E h => ?_) (fun cdv A outer s H vs Q E hr h => ?_)
  · obtain ⟨a, ns, rfl, sq, tabs, k⟩ := h
    rfl
  · obtain ⟨a, ns, rfl, sq, tabs, k⟩ := h
    have hg := hr.gd
    have hs := X.sys
    have hu64 : (A.deeper (envOfC "law" (defScope sLaw) s.heap.objs.size (ad "law") cdv)).units + 64 < cLine := by have := hr.rm.un; omega
    have HR__law_pot : Room 1 _ := hr.rm.mono (by decide)
    have HG__law_right : RoomG 12 _ := hr
    have HR7 : Room 7 _ := hr.rm.mono (by decide)
    have HR_join : Room 4 _ := hr.rm.mono (by decide)
    refine ⟨_, (pss_cons (ps_set (i := 1) scLaw.nd rfl (.inl rfl) (by exact (ClX.pe_cmeth (pe_glob (v := .ref (ad "Medium")) (by rfl) M.G rfl) crB cmB FB HR7 pass0 (pa_cons pe_int (pa_cons pe_str pa_nil)))))
  (pss_cons (ps_set (i := 2) scLaw.nd rfl (.inl rfl) (by exact (pe_lst (pa_cons (pe_call G_join HR_join (by rfl) X.g_join X.F_join.kp X.b_join .nil pass0 (pa_cons (pv 1) (pa_cons pe_str (pa_cons pe_str pa_nil)))) (pa_cons (pe_call G_join HR_join (by rfl) X.g_join X.F_join.kp X.b_join .nil pass0 (pa_cons (pv 1) (pa_cons pe_str (pa_cons pe_str pa_nil)))) (pa_cons (pe_call G_join HR_join (by rfl) X.g_join X.F_join.kp X.b_join .nil pass0 (pa_cons (pv 1) (pa_cons pe_str (pa_cons pe_str pa_nil)))) (pa_cons (pe_call G_join HR_join (by rfl) X.g_join X.F_join.kp X.b_join .nil pass0 (pa_cons (pv 1) (pa_cons pe_str (pa_cons pe_str pa_nil)))) pa_nil)))))))
  (pss_cons (ps_if (PW.pt (pw_or (pt_cmpR (op_neD hu64) (pv 2) (pe_lst (pa_cons pe_str (pa_cons pe_str (pa_cons pe_non (pa_cons pe_non pa_nil))))) (nomark _)) (pw_or1 (pt_cmpR op_ne (pe_call G_join HR_join (by rfl) X.g_join X.F_join.kp X.b_join .nil pass0 (pa_cons (ClX.pe_cmeth (pe_glob (v := .ref (ad "Medium")) (by rfl) M.G rfl) crM cmM FM HR7 pass0 (pa_cons pe_int pa_nil)) (pa_cons pe_str (pa_cons (pe_op op_mulS pe_str pe_int) pa_nil)))) pe_str (nomark _)))))
  (pss_one (ps_ret (by exact pe_bl)))
  pss_nil)
  (pss_cons (ps_if (PW.pt (pw_or (pt_cmpR op_ne (pe_call G_join HR_join (by rfl) X.g_join X.F_join.kp X.b_join .nil pass0 (pa_cons (ClX.pe_cmeth (pe_glob (v := .ref (ad "Medium")) (by rfl) M.G rfl) crM cmM FM HR7 pass0 (pa_cons pe_int pa_nil)) (pa_cons pe_str (pa_cons (pe_op op_mulS pe_str pe_int) pa_nil)))) pe_str (nomark _)) (pw_or1 (pt_cmpR op_ne (pe_call G_join HR_join (by rfl) X.g_join X.F_join.kp X.b_join .nil pass0 (pa_cons (ClX.pe_cmeth (pe_glob (v := .ref (ad "Medium")) (by rfl) M.G rfl) crM cmM FM HR7 pass0 (pa_cons pe_int pa_nil)) (pa_cons pe_str (pa_cons (pe_op op_mulS pe_str pe_int) pa_nil)))) pe_str (nomark _)))))
  (pss_one (ps_ret (by exact pe_bl)))
  pss_nil)
  (pss_one (ps_ret (by exact (pe_callB (cr_allK (K := K) rfl) (by rfl) X.m_all (by decide +kernel) (pa_cons (pe_lc (own := [("_law_k", 3)]) (g := gName 3) rfl scLaw.nd (pi_range1 (by rfl) X.m_range (pa_cons (pe_callB (call_max2 rfl) (by rfl) X.m_max (by decide +kernel) (pa_cons pe_int (pa_cons (pe_callB (call_min2 rfl) (by rfl) X.m_min (by decide +kernel) (pa_cons pe_int (pa_cons (pe_callB (call_lenK (K := K) rfl) (by rfl) X.m_len (by decide +kernel) (pa_cons (pv 0) pa_nil)) pa_nil))) pa_nil))) pa_nil)) (blkOk_by (own := [("_law_k", 3)]) (N := ["_law_script", "_law_bars", "_law_told_here", "_law_k"]) (sc := defScope sLaw) (by decide +kernel)) (fun _ _ _ _ _ => pg_name (i := 3) scLaw.nd rfl (Or.inl rfl)) (fun _ _ _ _ _ => pts_nil) (fun _ _ _ _ _ => (pe_callG (E := E0) G__law_right HG__law_right (by rfl) X.g__law_right X.F__law_right.kp X.b__law_right (pa_cons (pe_call G__law_pot HR__law_pot (by rfl) X.g__law_pot X.F__law_pot.kp X.b__law_pot .nil pass0 (pa_cons (pv 0) (pa_cons (pv 3) pa_nil))) pa_nil)))) pa_nil))))))))), ?_⟩
    have own := due_self barC_due
    obtain ⟨fwf, fok, _, _⟩ := freeT (w := 2) (by decide) (by decide)
    obtain ⟨mk1, mk2, mk3, mk4, mk5, mk6⟩ := marksOk
    obtain ⟨rw1, rw2, rw3, rw4, rw5⟩ := rowsOk
    obtain ⟨ld1, ld2, ld3, ld4, ld5⟩ := barLed
    obtain ⟨no1, no2, no3, no4, no5⟩ := barNo
    refine ⟨rfl, [.ref (ad "Medium"), .int 2], [.str "bb"], rfl, rfl, sz1, fun p np => ⟨p, ["bb"], 2, rfl, upd_same, bar_okw, by decide, by decide, fun ys hs _ => ?_, fun ys x H1 hs s1 nx mo => ?_⟩⟩
    · rw [starts_bb hs, bar_tab]
      exact ⟨own.2, by rw [own.1]; decide⟩
    rw [starts_bb hs, bar_tab, own.1] at mo
    have s01 := Same.trans (Same.new (o := .tup [.str "bb"]) np) s1
    refine gN ?_
    have c64 : barC.length ≤ 64 := by decide
    refine ⟨.ref x, rfl, x, 2, barC, "aaa", "aa", rfl, mo, by decide, by decide, barC_due.wf, barC_due.ok, c64, mk1, rw1, fun _ _ H2 s2 => ?_, fun q => absurd ⟨ld1, infB_no.mp no1⟩ q⟩
    rw [j1]
    refine ⟨.ref x, rfl, x, 2, barC, "aaa", "b", rfl, mo.same s2, by decide, by decide, barC_due.wf, barC_due.ok, c64, mk1, rw2, fun _ _ H3 s3 => ?_, fun q => absurd ⟨ld2, infB_no.mp no2⟩ q⟩
    rw [j2]
    have s13 := Same.trans s2 s3
    refine ⟨.ref x, rfl, x, 2, barC, "bb", "", rfl, mo.same s13, by decide, by decide, barC_due.wf, barC_due.ok, c64, mk2, rw3, fun _ _ H4 s4 => ?_, fun q => absurd ⟨ld3, infB_no.mp no3⟩ q⟩
    rw [j3]
    have s14 := Same.trans s13 s4
    refine ⟨.ref x, rfl, x, 2, barC, "c", "a", rfl, mo.same s14, by decide, by decide, barC_due.wf, barC_due.ok, c64, mk3, rw4, fun _ _ H5 s5 => ?_, fun q => absurd ⟨ld4, infB_no.mp no4⟩ q⟩
    rw [j4]
    have s15 := Same.trans s14 s5
    refine ⟨by show 4 ≤ _; rw [sizeLine_eq]; decide, fun D nD => ?_⟩
    refine gN ?_
    have s06 := Same.trans (Same.trans s01 s15) (Same.new (o := .lst [optT (some [98]), optT (some []), optT none, optT none]) nD)
    have eD : (upd H5 D (.lst [optT (some [98]), optT (some []), optT none, optT none])) D = some (.lst [.str (sl [98]), .str (sl []), .non, .non]) := upd_same
    refine ⟨.ref D, rfl, by show 4 ≤ _; rw [sizeLine_eq]; decide, fun E1 nE => ?_⟩
    refine ⟨.list [.str (sl [98]), .str (sl []), .none, .none], .list [.str "b", .str "", .none, .none], .lst (SqL.of (Same.new nE _ _ eD)) (.cons (.str _) (.cons (.str _) (.cons .non (.cons .non .nil)))), .lst (SqL.of upd_same) (.cons (.str _) (.cons (.str _) (.cons .non (.cons .non .nil)))), by decide +kernel, by decide +kernel, _, rfl, ?_⟩
    rw [show PyData.eqv (.list [.str (sl [98]), .str (sl []), .none, .none]) (.list [.str "b", .str "", .none, .none]) = true by decide +kernel]
    refine iteF ?_
    have s07 := Same.trans s06 (Same.new (o := .lst [.str "b", .str "", .non, .non]) nE)
    refine ⟨rfl, 2, rfl, by decide, by decide, fun z1 H7 s7 _ md7 => ?_⟩
    refine ⟨"a", 7, rfl, rfl, mul_ok (by decide) (by decide) (by decide), ?_⟩
    rw [show Txt.mul "a" 7 = "aaaaaaa" by decide +kernel]
    refine ⟨z1, 2, [freeR 2], "aaaaaaaa", "aaaaaaa", rfl, md7, by decide, by decide, fwf, fok, by decide, mk4, rw5, fun _ _ H8 s8 => ?_, fun q => absurd ⟨ld5, infB_no.mp no5⟩ q⟩
    rw [j5]
    refine ⟨rfl, _, rfl, ?_⟩
    rw [show (!decide (optT (some [98]) = V.str "b")) = false by decide +kernel]
    refine iteF ?_
    have s08 := Same.trans s07 (Same.trans s7 s8)
    have ra := aN_row (Nat.le_refl 2000)
    have la : (ledN [freeR 2] 0 (cl (aN 2000))).isSome = true := by rw [aN_led]; rfl
    refine ⟨rfl, 2, rfl, by decide, by decide, fun z2 H9 s9 _ md9 => ?_⟩
    refine ⟨"a", 2000, rfl, rfl, mul_ok (by decide) (by decide) (by decide), ?_⟩
    rw [show Txt.mul "a" 2000 = aN 2000 from mulA 2000]
    refine ⟨z2, 2, [freeR 2], "b", aN 2000, rfl, md9, by decide, by decide, fwf, fok, by decide, mk5, ra, fun _ _ HA sA => ?_, fun q => absurd ⟨la, aN_no (by decide +kernel)⟩ q⟩
    rw [jb]
    refine ⟨rfl, _, rfl, ?_⟩
    rw [show (!decide (optT (some []) = V.str "")) = false by decide +kernel]
    refine iteF ?_
    have s0A := Same.trans s08 (Same.trans s9 sA)
    refine ⟨rfl, 2, rfl, by decide, by decide, fun z3 HB sB _ mdB => ?_⟩
    refine ⟨"a", 2000, rfl, rfl, mul_ok (by decide) (by decide) (by decide), ?_⟩
    rw [show Txt.mul "a" 2000 = aN 2000 from mulA 2000]
    refine ⟨z3, 2, [freeR 2], "ab", aN 2000, rfl, mdB, by decide, by decide, fwf, fok, by decide, mk6, ra, fun _ _ HC sC => ?_, fun q => absurd ⟨la, aN_no (by decide +kernel)⟩ q⟩
    rw [jab]
    refine ⟨rfl, _, rfl, ?_⟩
    rw [show (!decide (optT (some []) = V.str "")) = false by decide +kernel]
    refine iteF ?_
    have s0C := Same.trans s0A (Same.trans sB sC)
    have sqC := sqKeep sq fun o e _ => s0C _ _ e
    have tabC := tabsS tabs s0C
    clear s01 s13 s14 s15 s06 s07 s08 s0A mo md7 md9 mdB eD nE nD np
    obtain ⟨m, hm, em⟩ : ∃ m : Nat, m ≤ 4 ∧ (if (if ((ns.map V.int).length : Int) < 4 then ((ns.map V.int).length : Int) else 4) > 1 then (if ((ns.map V.int).length : Int) < 4 then ((ns.map V.int).length : Int) else 4) else 1) = (m : Int) := by
      by_cases c : ((ns.map V.int).length : Int) < 4
      · rw [if_pos c]
        by_cases c2 : ((ns.map V.int).length : Int) > 1
        · rw [if_pos c2]; exact ⟨_, by omega, rfl⟩
        · rw [if_neg c2]; exact ⟨1, by omega, rfl⟩
      · rw [if_neg c, if_pos (by decide)]; exact ⟨4, Nat.le_refl _, rfl⟩
    refine ⟨.ref a, rfl, .ref a, _, rfl, .inl ⟨_, sqC, rfl⟩, 4, _, rfl, 1, _, rfl, _, rfl, ?_⟩
    rw [em]
    refine ⟨by omega, by omega, fun D hD => ?_⟩
    refine lc_range (lo := 0) (n := (m : Int).toNat) (fun i H' => (∀ o, HC a = some o → (∀ ps, o ≠ .tbl ps) → H' a = some o) ∧ Tabs TT H' ∧ H' D = some (.lst ((List.replicate i true).map V.bl))) ⟨fun o e _ => Same.new hD _ _ e, tabsS tabC (Same.new hD), upd_same⟩ (fun i H' hi hP => ?_) (fun H' hP => ?_)
    · obtain ⟨s4, t4, eD⟩ := hP
      refine ⟨rfl, .ref a, rfl, .int (0 + i), rfl, a, ns, _, rfl, sqKeep sqC s4, by omega, by omega, fun p H4 hp0 hpot s5 => ⟨p, rfl, hpot, tabsS t4 s5, fun H5 hb hp5 t5 => ?_⟩⟩
      have eD4 := s5 _ _ eD
      have nDp : D ≠ p := ne_of_none eD hp0
      have eD5 := hb _ _ nDp eD4 (fun _ z => nomatch z)
      refine ⟨_, eD5, ?_, ?_, tabsU t5 eD5, ?_⟩
      · rw [List.length_map, List.length_replicate, sizeLine_eq]; omega
      · intro o e n
        rw [upd_ne (ne_of_none e hD)]
        exact hb _ _ (ne_of_none (s4 o e n) hp0) (s5 _ _ (s4 o e n)) n
      · rw [upd_same, List.replicate_succ', List.map_append]; rfl
    · obtain ⟨s4, t4, eD⟩ := hP
      have ea : (List.replicate (m : Int).toNat true).all id = true := by simp
      refine ⟨D, _, rfl, SqL.of eD, ?_⟩
      rw [ea]
      exact k _
end
end K88
end

section
set_option maxHeartbeats 4000000
/-! the end of a law whose defs call repr, tables of code objects too -/
namespace K88
open PySem PySem.Spec PyProof.Rows L2 LamX
/-- at the call: empty tables, and the script unless it is one of the module's own objects -/
def atCall (K : PySem.W.Frag) (ts : List Addr) (a : Addr) (o : Obj) (xs : List V) : Hp := fun b =>
  match decide (b ∈ ts), decide (b = a), K.lookup a with
  | true, _, _ => some (.tbl #[])
  | false, true, none => some (.frz o (.lst xs))
  | _, _, _ => none
section
variable {K : PySem.W.Frag} {ts : List Addr} {a b : Addr} {o : Obj} {xs : List V} {u : HO}
theorem atCall_tab (h : b ∈ ts) : atCall K ts a o xs b = some (.tbl #[]) := by
  unfold atCall
  rw [decide_eq_true h]
theorem atCall_script (h : a ∉ ts) (n : K.lookup a = none) : atCall K ts a o xs a = some (.frz o (.lst xs)) := by
  unfold atCall
  rw [decide_eq_false h, decide_eq_true rfl, n]
theorem atCall_some (h : atCall K ts a o xs b = some u) : (b ∈ ts ∧ u = .tbl #[]) ∨ (b ∉ ts ∧ b = a ∧ K.lookup a = none ∧ u = .frz o (.lst xs)) := by
  unfold atCall at h
  by_cases h1 : b ∈ ts
  · rw [decide_eq_true h1] at h
    exact .inl ⟨h1, (Option.some.inj h).symm⟩
  · rw [decide_eq_false h1] at h
    by_cases h2 : b = a
    · rw [decide_eq_true h2] at h
      cases e : K.lookup a with
      | none => rw [e] at h; exact .inr ⟨h1, h2, rfl, (Option.some.inj h).symm⟩
      | some z => rw [e] at h; cases h
    · rw [decide_eq_false h2] at h
      cases h
end
/-- a data that is no list of things and no empty record -/
def ApartD (d : Data) : Prop := (∀ vs n, d ≠ .seq vs n) ∧ d ≠ .fields #[]
theorem law_endT {P : Program} {w : World} {K : PySem.W.Frag} {mg mb : Str → Option Value} {k : Nat} {fa a : Addr} {cs : List (Addr × Addr)} {fd : FuncData} {x : Str} {sp : Sp} {s₁ : Shared} {vs : List Value} {ns : List Int}
    (inK : K.In s₁.heap) (gl : s₁.heap.Ns mainGlobals mg) (bl : s₁.heap.Ns builtinsNs mb) (bb : ∀ x : Str, x ≠ "__name__" → mb x = bootBuiltins x) (nl : s₁.heap.NoLimit) (g0 : s₁.gens = #[])
    (empty : ∀ p ∈ cs, s₁.heap.get? p.2 = some { cls := .none, data := .fields #[] }) (free : ∀ p ∈ cs, K.lookup p.2 = none) (heads : ∀ p ∈ cs, PySem.W.CodeHd s₁.heap p.1 p.2)
    (main : ∃ (bm : Addr) (ob : Obj), mg "__builtins__" = some (.ref bm) ∧ bm ≠ builtinsNs ∧ s₁.heap.get? bm = some ob ∧ ob.cls = .type "module" ∧ ob.dict = some builtinsNs ∧ ob.data = .plain)
    (at_a : s₁.heap.get? a = some { cls := .type "list", data := .seq vs.toArray }) (hints : IntsAre vs ns) (size : ns.length ≤ sizeLine) (room : Room k callerA)
    (F : ∀ base : Heap, K.In base → base.Ns mainGlobals mg → (∀ p ∈ cs, TabB base mg p.1 p.2) → FnG P w K mg base k fa fd [x] sp) (bind : ∀ (s : Shared) (u : Value), BindsTo s fd ⟨[u], []⟩ [(x, u)])
    (goal : ∀ H : Hp, (∀ p ∈ cs, H p.2 = some (.tbl #[])) → SqL K H a (ns.map V.int) → sp [.ref a] H (fun v _ => v = .bl true) fun _ _ _ => False) :
    codeAny (model P w) callerA (.call (.ref fa) ⟨[.ref a], []⟩) (fun r s' => r = .ok (.ret (.bool true)) ∧ OldK s₁.heap s'.heap ∧ s'.os = s₁.os ∧ AllBare s'.gens) s₁ := by
  have vals := vals_ints hints
  have tabO : ∀ b, b ∈ cs.map (·.2) → s₁.heap.get? b = some { cls := .none, data := .fields #[] } := by
    intro b hb
    obtain ⟨p, hp, rfl⟩ := List.mem_map.mp hb
    exact empty p hp
  have aT : a ∉ cs.map (·.2) := fun z => by
    have e := at_a.symm.trans (tabO a z)
    have d : Data.seq vs.toArray _ = Data.fields #[] := congrArg Obj.data (Option.some.inj e)
    cases d
  let H := atCall K (cs.map (·.2)) a { cls := .type "list", data := .seq vs.toArray } (ns.map V.int)
  have tabH : ∀ p ∈ cs, H p.2 = some (.tbl #[]) := fun p hp => atCall_tab (List.mem_map_of_mem (f := (·.2)) hp)
  have ok : HOk P w H s₁.heap := fun b u e => by
    rcases atCall_some e with ⟨hb, rfl⟩ | ⟨_, rfl, _, rfl⟩
    · exact tabO b hb
    · exact ⟨at_a, by rw [List.length_map]; exact size, vs, _, vals, at_a⟩
  have sq : SqL K H a (ns.map V.int) := by
    cases e : K.lookup a with
    | none => exact .inl (.inr ⟨_, atCall_script aT e⟩)
    | some o =>
      have z := Option.some.inj ((inK a o e).symm.trans at_a)
      subst z
      exact .inr ⟨_, _, _, e, rfl, rfl, rfl, by rw [List.size_toArray, hints.length]; exact size, by simpa using vals⟩
  -- what is not tracked is seen below
  have low : ∀ {b : Addr} {o : Obj}, s₁.heap.get? b = some o → ApartD o.data → (hidT s₁.heap H).get? b = some o := fun {b o} e ap => hidT_get e (by
    cases z : H b with
    | none => rfl
    | some u =>
      exfalso
      rcases atCall_some z with ⟨hb, _⟩ | ⟨_, rfl, _, _⟩
      · have := Option.some.inj (e.symm.trans (tabO b hb))
        subst this
        exact ap.2 rfl
      · have := Option.some.inj (e.symm.trans at_a)
        subst this
        exact ap.1 _ _ rfl)
  have dic : ∀ {o : Obj} {es : Array DictEntry} {ep : Nat}, o.data = .dict es ep → ApartD o.data := fun {o es ep} e => by
    rw [e]
    exact ⟨(fun _ _ z => nomatch z), fun z => nomatch z⟩
  have names : ∀ {b : Addr} {m : Str → Option Value}, s₁.heap.Ns b m → (hidT s₁.heap H).Ns b m := by
    rintro b m ⟨o, es, ep, e, d, r⟩
    exact ⟨o, es, ep, low e (dic d), d, r⟩
  have inB : K.In (hidT s₁.heap H) := fun b o e => hidT_get (inK b o e) (by
    cases z : H b with
    | none => rfl
    | some u =>
      exfalso
      rcases atCall_some z with ⟨hb, _⟩ | ⟨_, rfl, n, _⟩
      · obtain ⟨p, hp, ep⟩ := List.mem_map.mp hb
        have := free p hp
        rw [ep] at this
        exact nomatch (show none = some o from this.symm.trans e)
      · exact nomatch (show none = some o from n.symm.trans e))
  have tabs : ∀ p ∈ cs, TabB (hidT s₁.heap H) mg p.1 p.2 := fun p hp => {
    code := by
      obtain ⟨o, us, file, tf, flags, tg, inF, text, tt, e, c1, c2, rest⟩ := heads p hp
      refine ⟨o, us, file, tf, flags, tg, inF, text, tt, low e ?_, c1, c2, rest⟩
      rw [c2]
      refine ⟨(fun _ _ z => nomatch z), fun z => ?_⟩
      cases z
      have := rest.1
      simp at this
    bm := by
      obtain ⟨bm, ob, m1, m2, m3, m4, m5, m6⟩ := main
      refine ⟨bm, ob, m1, m2, fun z => ?_, fun z => ?_, low m3 ?_, m4, m5, m6⟩
      · obtain ⟨o, es, ep, e, d, _⟩ := gl
        rw [z] at m3
        have := Option.some.inj (m3.symm.trans e)
        subst this
        exact nomatch (show Data.plain = Data.dict es ep from m6.symm.trans d)
      · rw [z] at m3
        have := Option.some.inj (m3.symm.trans (empty p hp))
        subst this
        exact nomatch m6
      · rw [m6]
        exact ⟨(fun _ _ z => nomatch z), fun z => nomatch z⟩
    gP := fun z => by
      obtain ⟨o, es, ep, e, d, _⟩ := gl
      rw [z] at e
      have := Option.some.inj (e.symm.trans (empty p hp))
      subst this
      exact nomatch d }
  have md : Mod K mg (hidT s₁.heap H) := ⟨inB, names gl, ⟨mb, names bl, bb⟩, nl.elim fun mc q => ⟨mc, names q.1, q.2⟩⟩
  have none_in : ∀ b, b ∉ frs ([] : List Env) := fun b z => by cases (show b ∈ ([] : List Addr) from z)
  have e0 : Env0 P w K mg (hidT s₁.heap H) callerA [] s₁ H := ⟨rfl, md, fun b o e => of_hidT e, Nat.le_of_eq (hidT_size _ _), trivial, fun b z => (none_in b z).elim, ok, .of_eq g0⟩
  refine codeAny_mono ((F _ inB (names gl) tabs).run callerA [] s₁ H ⟨[.ref a], []⟩ [.ref a] [.ref a] _ _ ⟨room, rfl⟩ e0 (bind s₁ (.ref a)) (.cons rfl .nil) (goal H tabH sq)) fun r s' hr => ?_
  match r, hr with
  | .ok (.ret u), ⟨v, H', os, bare, un, ok', rv, (hv : v = .bl true)⟩ =>
    subst hv
    obtain rfl : u = Value.bool true := rv
    have stays : ∀ b o, b ∉ cs.map (·.2) → s₁.heap.get? b = some o → s'.heap.get? b = some o := fun b o nb e => by
      cases z : H b with
      | none => exact un.keep b o e z (none_in b) (by simp)
      | some t =>
        rcases atCall_some z with ⟨hb, _⟩ | ⟨_, _, _, rfl⟩
        · exact (nb hb).elim
        · have now := (ok' b _ (un.frzs b _ _ z)).1
          have then_ := (ok b _ z).1
          rw [now, ← then_, e]
    have grows : ∀ p ∈ cs, ∃ more : Array Value, s'.heap.get? p.2 = some { cls := .none, data := .fields more } := fun p hp =>
      let ⟨more, z⟩ := un.tbls p.2 #[] (tabH p hp)
      ⟨_, ok' p.2 _ z⟩
    refine ⟨rfl, ⟨fun b o e => ?_, fun b o e => ?_⟩, os, bare⟩
    · by_cases hb : b ∈ cs.map (·.2)
      · obtain ⟨p, hp, rfl⟩ := List.mem_map.mp hb
        obtain ⟨more, g⟩ := grows p hp
        have := Option.some.inj (e.symm.trans (empty p hp))
        subst this
        exact .inr (.inl ⟨((heads p hp).tab (empty p hp)).isCodeTable, rfl, #[], more, rfl, by rw [Array.empty_append]; exact g⟩)
      · exact .inl (stays b o hb e)
    · by_cases hb : b ∈ cs.map (·.2)
      · obtain ⟨p, hp, rfl⟩ := List.mem_map.mp hb
        exact let ⟨_, g⟩ := grows p hp; ⟨_, g⟩
      · exact ⟨o, stays b o hb e⟩
end K88
end

section
set_option maxHeartbeats 4000000
/-! what the top has left, as bools of the written part -/
namespace K88
open PySem PySem.Spec PyProof.Rows L2
section
open PySem.W
def xbB (K : Frag) (C : Addr) (bmB : List Value) (newId : String) : Bool := match K.lookup C with
  | some ⟨.type "type", _, .cls cd, sl⟩ => (match cd.mro, sl.toList with
    | .ref C' :: bm, [_, _, _, _, some (.builtin n), _] => C' == C && n == newId && !cd.hasDel && cd.hasDict && refsTo bmB bm
    | _, _ => false)
  | _ => false
theorem xb_cls {K : Frag} {C : Addr} {bmB : List Value} {newId : String} (q : xbB K C bmB newId = true) :
    ∃ nm qn N bs bm sn sub ab col dd k0 k1 k2 k3 k5, K.lookup C = some (excClassObj nm qn C N bs bm true sn sub ab col dd k0 k1 k2 k3 k5 newId) ∧ refsTo bmB bm = true := by
  unfold xbB at q
  split at q
  · rename_i dd cd sl ho
    split at q
    · rename_i C' bm k0 k1 k2 k3 n k5 hm hs
      simp only [Bool.and_eq_true, beq_iff_eq, Bool.not_eq_true'] at q
      obtain ⟨⟨⟨⟨rfl, rfl⟩, hdel⟩, hdic⟩, ht⟩ := q
      obtain ⟨nm, bs, mro, ns, qn, hd, sn, sub, ab, col, del⟩ := cd
      dsimp only at hm hdel hdic
      subst hm hdel hdic
      refine ⟨nm, qn, ns, bs, bm, sn, sub, ab, col, dd, k0, k1, k2, k3, k5, ?_, ht⟩
      rw [ho]
      have e : sl = #[k0, k1, k2, k3, some (.builtin n), k5] := by
        obtain ⟨l⟩ := sl
        have : l = [k0, k1, k2, k3, some (.builtin n), k5] := hs
        rw [this]
      rw [e]
    · cases q
  · cases q
def ecB (K : Frag) (D : Addr) : Bool :=
  decide (findIn K (.ref D) "__getattribute__" = some (some (.builtin "BaseException.__getattribute__"))) && (decide (findIn K (.ref D) "__getattr__" = some none) && (decide (subIn K (.ref D) (.type "BaseException") = some true) && (hasDictIn K D &&
  (decide (findIn K (.ref D) "__class__" = some (some (.builtin "object.__class__"))) && (decide (specialIn K (.builtin "object.__class__") "__get__" = some (some (.builtin "getset_descriptor.__get__"))) && (decide (takesIn K (.builtin "object.__class__") = some true) && decide (mroIn K D (.type "object") = some true)))))))
theorem ec_of {K : Frag} {D : Addr} (h : ecB K D = true) : EC K D := by
  obtain ⟨h1, h⟩ := He.ba h
  obtain ⟨h2, h⟩ := He.ba h
  obtain ⟨h3, h⟩ := He.ba h
  obtain ⟨h4, h⟩ := He.ba h
  obtain ⟨h5, h⟩ := He.ba h
  obtain ⟨h6, h⟩ := He.ba h
  obtain ⟨h7, h8⟩ := He.ba h
  exact ⟨of_decide_eq_true h1, of_decide_eq_true h2, of_decide_eq_true h3, h4, of_decide_eq_true h5, of_decide_eq_true h6, of_decide_eq_true h7, of_decide_eq_true h8⟩
def xbAll (K : Frag) (C : Addr) (bmB : List Value) (newId : String) : Bool :=
  xbB K C bmB newId && (ecB K C && (decide (findIn K (.ref C) "__setattr__" = some (some (.builtin "object.__setattr__"))) && (decide (typeIn K (.ref C) = some (.type "type")) && keepIn K (.ref C))))
theorem exc_of {K : Frag} {D : Addr} (h : ecB K D = true) : ExcC K D := by
  obtain ⟨h1, h⟩ := He.ba h
  obtain ⟨h2, h⟩ := He.ba h
  obtain ⟨h3, h⟩ := He.ba h
  obtain ⟨h4, h⟩ := He.ba h
  obtain ⟨h5, h⟩ := He.ba h
  obtain ⟨h6, h⟩ := He.ba h
  obtain ⟨h7, h8⟩ := He.ba h
  exact ⟨of_decide_eq_true h1, of_decide_eq_true h2, of_decide_eq_true h3, h4, of_decide_eq_true h5, of_decide_eq_true h6, of_decide_eq_true h7, of_decide_eq_true h8⟩
theorem xb_of {K : Frag} {C : Addr} {bmB : List Value} {newId : String} (h : xbAll K C bmB newId = true) : XB K C bmB newId := by
  obtain ⟨h1, h⟩ := He.ba h
  obtain ⟨h2, h⟩ := He.ba h
  obtain ⟨h3, h⟩ := He.ba h
  obtain ⟨h4, h5⟩ := He.ba h
  exact ⟨xb_cls h1, ec_of h2, of_decide_eq_true h3, of_decide_eq_true h4, h5⟩
def xiB (K : Frag) (C fI : Addr) : Bool := decide (findIn K (.ref C) "__init__" = some (some (.ref fI))) && decide (typeIn K (.ref fI) = some (.type "function"))
theorem xi_of {K : Frag} {C fI : Addr} (h : xiB K C fI = true) : XI K C fI := by
  obtain ⟨h1, h2⟩ := He.ba h
  exact ⟨of_decide_eq_true h1, of_decide_eq_true h2⟩
/-- the def at f, without defaults -/
def fnA (K : Frag) (f : Addr) : He.FnW := match K.lookup f with
  | some ⟨_, _, .func fd, _⟩ => some (fd.name, fd.qualname, fd.params, fd.body, fd.scope, fd.globals, fd.closure, fd.builtins)
  | _ => none
def plain2 (d k : Value) (b : Bool) : Bool := match d, k with
  | .none, .none => b
  | _, _ => false
theorem plain2_ok {d k : Value} {b : Bool} (h : plain2 d k b = true) : d = .none ∧ k = .none ∧ b = true := by
  unfold plain2 at h
  split at h
  · exact ⟨rfl, rfl, h⟩
  · cases h
def plainB (K : Frag) (f : Addr) : Bool := match K.lookup f with
  | some ⟨_, _, .func fd, _⟩ => plain2 fd.defaults fd.kwdefaults (codeIn K fd.code fd.qualname)
  | _ => false
theorem fn_at {K : Frag} {f : Addr} {nm qual : Str} {params : Arguments} {body : List Stmt} {scope : Scope} (e : fnA K f = some (nm, qual, params, .stmts body, scope, mainGlobals, [], builtinsNs)) (c : plainB K f = true) :
    ∃ (oc : Value) (od : Option Addr) (doc pm : Value) (an : Option Addr) (cdv ct : Value) (osl : Array (Option Value)), K.lookup f = some ⟨oc, od, .func (fnOf nm qual params body scope .none .none doc pm an cdv ct), osl⟩ ∧ codeIn K cdv qual = true := by
  unfold fnA at e
  unfold plainB at c
  cases q : K.lookup f with
  | none => rw [q] at e; cases e
  | some o =>
    obtain ⟨oc, od, dt, osl⟩ := o
    rw [q] at c e
    cases dt with
    | func fd =>
      obtain ⟨n1, n2, n3, n4, n5, n6, n7, n8, n9, n10, n11, n12, n13, n14, n15⟩ := fd
      have e2 : (some (n1, n2, n3, n4, n5, n6, n7, n15) : He.FnW) = some (nm, qual, params, .stmts body, scope, mainGlobals, [], builtinsNs) := e
      simp only [Option.some.injEq, Prod.mk.injEq] at e2
      obtain ⟨h1, h2, h3, h4, h5, h6, h7, h8⟩ := e2
      subst h1 h2 h3 h4 h5 h6 h7 h8
      obtain ⟨rfl, rfl, c3⟩ := plain2_ok (show plain2 n8 n9 (codeIn K n13 n2) = true from c)
      exact ⟨oc, od, n10, n11, n12, n13, n14, osl, rfl, c3⟩
    | _ => cases e
def dfnB (K : Frag) (f : Addr) (dvs : List V) : Bool := match K.lookup f with
  | some ⟨_, _, .func fd, _⟩ => He.dflB K fd.defaults dvs && codeIn K fd.code fd.qualname
  | _ => false
theorem fnV_at {K : Frag} {f : Addr} {dvs : List V} {nm qual : Str} {params : Arguments} {body : List Stmt} {scope : Scope} (e : fnA K f = some (nm, qual, params, .stmts body, scope, mainGlobals, [], builtinsNs)) (c : dfnB K f dvs = true) :
    ∃ (oc : Value) (od : Option Addr) (dV kV doc pm : Value) (an : Option Addr) (cdv ct : Value) (osl : Array (Option Value)), K.lookup f = some ⟨oc, od, .func (fnOf nm qual params body scope dV kV doc pm an cdv ct), osl⟩ ∧ DflV K dV dvs ∧ codeIn K cdv qual = true := by
  unfold fnA at e
  unfold dfnB at c
  cases q : K.lookup f with
  | none => rw [q] at e; cases e
  | some o =>
    obtain ⟨oc, od, dt, osl⟩ := o
    rw [q] at c e
    cases dt with
    | func fd =>
      obtain ⟨n1, n2, n3, n4, n5, n6, n7, n8, n9, n10, n11, n12, n13, n14, n15⟩ := fd
      have e2 : (some (n1, n2, n3, n4, n5, n6, n7, n15) : He.FnW) = some (nm, qual, params, .stmts body, scope, mainGlobals, [], builtinsNs) := e
      simp only [Option.some.injEq, Prod.mk.injEq] at e2
      obtain ⟨h1, h2, h3, h4, h5, h6, h7, h8⟩ := e2
      subst h1 h2 h3 h4 h5 h6 h7 h8
      obtain ⟨c1, c2⟩ := He.ba (show (He.dflB K n8 dvs && codeIn K n13 n2) = true from c)
      exact ⟨oc, od, n8, n9, n10, n11, n12, n13, n14, osl, rfl, He.dflB_ok c1, c2⟩
    | _ => cases e
theorem binds_nil {K : Frag} {fd : FuncData} {ps : List Str} (h : ∃ ds, Vals ([] : List V) ds ∧ Binds K fd ps ds) : Binds K fd ps [] := by
  obtain ⟨ds, v, b⟩ := h
  cases v
  exact b
/-- a constant of a class: a whole number -/
def conB (K : Frag) (C : Addr) (f : Str) (n : Int) : Bool := match findIn K (.ref C) f with
  | some (some (.int i t)) => decide (i = n) && decide (specialIn K (.int i t) "__get__" = some none)
  | _ => false
theorem con_ok {K : Frag} {C : Addr} {f : Str} {n : Int} (h : conB K C f n = true) (cp : copiedNames.contains f = false) : ∃ u, Con K C f (.int n) u := by
  unfold conB at h
  split at h
  · rename_i i t e
    obtain ⟨h1, h2⟩ := He.ba h
    have h1 := of_decide_eq_true h1
    subst h1
    exact ⟨_, e, ⟨t, rfl⟩, of_decide_eq_true h2, cp⟩
  · cases h
/-- a constant of a class: a text -/
def conSB (K : Frag) (C : Addr) (f z : Str) : Bool := match findIn K (.ref C) f with
  | some (some (.str x t)) => decide (x = z) && decide (specialIn K (.str x t) "__get__" = some none)
  | _ => false
theorem conS_ok {K : Frag} {C : Addr} {f z : Str} (h : conSB K C f z = true) (cp : copiedNames.contains f = false) : ∃ u, Con K C f (.str z) u := by
  unfold conSB at h
  split at h
  · rename_i x t e
    obtain ⟨h1, h2⟩ := He.ba h
    have h1 := of_decide_eq_true h1
    subst h1
    exact ⟨_, e, ⟨t, rfl⟩, of_decide_eq_true h2, cp⟩
  · cases h
/-- a constant read off the class: a whole number -/
def cvalB (K : Frag) (C : Addr) (f : Str) (n : Int) : Bool := match findCls K (.ref C) (.type "type") f with
  | some (.val (.int i t)) => decide (i = n)
  | _ => false
theorem cval_ok {K : Frag} {C : Addr} {f : Str} {n : Int} (h : cvalB K C f n = true) : ∃ u, ClX.CVal K C (.type "type") f (.int n) u := by
  unfold cvalB at h
  split at h
  · rename_i i t e
    have h1 := of_decide_eq_true h
    subst h1
    exact ⟨_, e, ⟨t, rfl⟩⟩
  · cases h
end
end K88
end

section
set_option maxHeartbeats 0
/-! what the top has left, by names -/
namespace K88
open PySem PySem.Spec PyProof.Rows L2 LamX
def meths : List (Str × (Str × Str)) := [("Medium.__init__", ("Medium", "__init__")), ("Medium.table", ("Medium", "table")), ("Medium.leads", ("Medium", "leads")), ("Medium.__len__", ("Medium", "__len__")), ("Medium.__eq__", ("Medium", "__eq__")), ("Medium.walk", ("Medium", "walk")), ("Medium.__contains__", ("Medium", "__contains__")), ("Medium.free!", ("Medium", "free")), ("Medium.signs!", ("Medium", "signs")), ("Medium.barring!", ("Medium", "barring")), ("InvalidRow.__init__", ("InvalidRow", "__init__")), ("TooMany.__init__", ("TooMany", "__init__"))]
def gets : List (Str × (Str × Str × String)) := [("Medium.free", ("Medium", "free", "classmethod")), ("Medium.signs", ("Medium", "signs", "property")), ("Medium.barring", ("Medium", "barring", "classmethod"))]
def recAt (K : PySem.W.Frag) (p : Addr) (r : String) : Addr := match PySem.W.recIn K p r with
  | some (.ref g :: _) => g
  | _ => 0
def adK (K : PySem.W.Frag) (x : Str) : Addr := match meths.lookup x with
  | some (C, m) => He.ma K (He.ga K C) m
  | none => match gets.lookup x with
    | some (C, m, r) => recAt K (He.ma K (He.ga K C) m) r
    | none => He.ga K x
def recB (K : PySem.W.Frag) (p : Addr) (r : String) (g : Addr) : Bool := match PySem.W.recIn K p r with
  | some (.ref g' :: _) => decide (g' = g)
  | _ => false
theorem rec_ok {K : PySem.W.Frag} {p g : Addr} {r : String} (h : recB K p r g = true) : ∃ rest, PySem.W.recIn K p r = some (.ref g :: rest) := by
  unfold recB at h
  split at h
  · rename_i g' rest e
    rw [← of_decide_eq_true h]
    exact ⟨rest, e⟩
  · cases h
def gtB (K : PySem.W.Frag) (C : Addr) (mc : Value) (m : Str) (p : Addr) (w : String) : Bool := match PySem.W.findCls K (.ref C) mc m with
  | some (.get (.builtin n) (.ref p') .none (.ref C')) => decide (n = w) && (decide (p' = p) && decide (C' = C))
  | _ => false
theorem gtB_ok {K : PySem.W.Frag} {C p : Addr} {mc : Value} {m : Str} {w : String} (h : gtB K C mc m p w = true) : PySem.W.findCls K (.ref C) mc m = some (.get (.builtin w) (.ref p) .none (.ref C)) := by
  unfold gtB at h
  split at h
  · rename_i n p' C' e
    obtain ⟨h1, h⟩ := He.ba h
    obtain ⟨h2, h3⟩ := He.ba h
    rw [e, of_decide_eq_true h1, of_decide_eq_true h2, of_decide_eq_true h3]
  · cases h
/-- a constant read off the class: a text -/
def cvalSB (K : PySem.W.Frag) (C : Addr) (f z : Str) : Bool := match PySem.W.findCls K (.ref C) (.type "type") f with
  | some (.val (.str x _)) => decide (x = z)
  | _ => false
theorem cvalS_ok {K : PySem.W.Frag} {C : Addr} {f z : Str} (h : cvalSB K C f z = true) : ∃ u, ClX.CVal K C (.type "type") f (.str z) u := by
  unfold cvalSB at h
  split at h
  · rename_i x t e
    have h1 := of_decide_eq_true h
    subst h1
    exact ⟨_, e, ⟨t, rfl⟩⟩
  · cases h
def fdAd (K : PySem.W.Frag) (x : Str) : FuncData := match K.lookup (adK K x) with
  | some ⟨_, _, .func f, _⟩ => f
  | _ => PySem.W.fnOf "" "" (defArgs sLaw) (defBody sLaw) (defScope sLaw) .none .none .none .none none .none .none
def codeK (K : PySem.W.Frag) (x : Str) : Addr := match (fdAd K x).code with
  | .ref c => c
  | _ => 0
def isCodeK (K : PySem.W.Frag) (x : Str) : Bool := match (fdAd K x).code with
  | .ref _ => true
  | _ => false
theorem isCodeK_ok {K : PySem.W.Frag} {x : Str} (h : isCodeK K x = true) : (fdAd K x).code = .ref (codeK K x) := by
  unfold isCodeK at h
  unfold codeK
  split at h
  · rename_i c e
    rw [e]
  · cases h
def tabK (K : PySem.W.Frag) (x : Str) : Addr := match K.lookup (codeK K x) with
  | some ⟨_, _, .fields vs, _⟩ => (match (vs.getD 11 .none : Value) with
    | .ref P => P
    | _ => 0)
  | _ => 0
def addrs0 : List Addr := [
  1,
  2,
  3,
  6,
  15,
  17,
  18,
  20,
  21,
  22,
  29,
  30,
  31,
  32,
  35,
  42,
  44,
  45,
  47,
  48,
  49,
  50,
  51,
  54,
  61,
  63,
  64,
  66,
  67,
  68,
  69,
  70,
  73,
  80,
  82,
  83,
  85,
  86,
  87,
  88,
  89,
  92,
  99,
  101,
  102,
  104,
  105,
  106,
  107,
  108,
  111,
  118,
  120,
  121,
  123,
  124,
  125,
  126,
  127,
  130]
def addrs1 : List Addr := [
  137,
  139,
  140,
  142,
  143,
  144,
  145,
  146,
  149,
  156,
  157,
  158,
  159,
  162,
  169,
  170,
  171,
  174,
  181,
  183,
  184,
  186,
  187,
  188,
  189,
  190,
  193,
  200,
  201,
  202,
  203,
  206,
  213,
  215,
  216,
  218,
  219,
  220,
  221,
  222,
  225,
  227,
  228,
  230,
  231,
  232,
  234,
  235,
  237,
  238,
  239,
  241,
  242,
  244,
  245,
  246,
  248,
  249,
  251,
  252]
def addrs2 : List Addr := [
  253,
  256,
  257,
  258,
  260,
  261,
  263,
  264,
  265,
  267,
  268,
  270,
  271,
  272,
  274,
  275,
  277,
  278,
  279,
  282,
  283,
  284,
  286,
  287,
  289,
  290,
  291,
  294,
  295,
  296,
  299,
  300,
  301,
  304,
  305,
  306,
  309,
  310,
  311,
  314,
  315,
  316,
  318,
  319,
  321,
  322,
  323,
  326,
  327,
  328,
  331,
  332,
  333,
  335,
  336,
  338,
  339,
  340,
  341,
  344]
def addrs3 : List Addr := [
  345,
  346,
  349,
  350,
  358,
  360,
  361,
  363,
  364,
  365,
  367,
  368,
  370,
  371,
  372,
  373,
  374,
  375,
  377,
  378,
  380,
  381,
  382,
  383,
  384,
  385,
  387,
  388,
  390,
  391,
  392,
  393,
  394,
  395,
  397,
  398,
  400,
  401,
  402,
  403,
  404,
  405,
  407,
  408,
  410,
  411,
  412,
  413,
  415,
  416,
  418,
  419,
  420,
  421,
  424,
  425,
  426,
  428,
  429,
  431]
def addrs4 : List Addr := [
  432,
  433,
  435,
  436,
  438,
  439,
  440,
  441,
  443,
  444,
  446,
  447,
  448,
  450,
  451,
  453,
  454,
  455,
  457,
  458,
  460,
  461,
  462,
  464,
  465,
  467,
  468,
  469,
  471,
  472,
  474,
  475,
  476,
  478,
  479,
  481,
  482,
  483,
  485,
  486,
  488,
  489,
  490,
  492,
  493,
  495,
  496,
  497,
  499,
  500,
  502,
  503,
  504,
  505,
  506,
  507,
  508,
  511,
  512,
  514]
def addrs5 : List Addr := [
  515,
  517,
  518,
  519,
  521,
  522,
  524,
  525,
  526,
  528,
  529,
  531,
  532,
  533,
  535,
  536,
  538,
  539,
  540,
  542,
  543,
  545,
  546,
  547,
  550,
  551,
  552,
  555,
  556,
  557,
  559,
  560,
  562,
  563,
  564,
  566,
  567,
  569,
  570,
  571,
  573,
  574,
  576,
  577,
  578,
  580,
  581,
  583,
  584,
  585,
  587,
  588,
  590,
  591,
  592,
  595,
  596,
  597,
  600,
  601]
def addrs6 : List Addr := [
  602,
  605,
  606,
  607,
  609,
  610,
  612,
  613,
  614,
  617,
  618,
  619,
  622,
  623,
  624,
  626,
  627,
  629,
  630,
  631,
  633,
  634,
  636,
  637,
  638,
  640,
  641,
  643,
  644,
  645,
  648,
  649,
  650,
  652,
  653,
  655,
  656,
  657,
  660,
  661,
  662,
  665,
  666,
  667,
  670,
  671]
def addrs : List Addr := addrs0 ++ (addrs1 ++ (addrs2 ++ (addrs3 ++ (addrs4 ++ (addrs5 ++ (addrs6))))))
def facts0 : List (PySem.W.Frag → Bool) := [
  fun K => He.eqO (PySem.W.nsIn K mainGlobals "isinstance") (some none),
  fun K => He.eqO (PySem.W.nsIn K mainGlobals "int") (some none),
  fun K => He.eqO (PySem.W.nsIn K mainGlobals "bool") (some none),
  fun K => He.eqO (PySem.W.nsIn K mainGlobals "str") (some none),
  fun K => He.eqO (PySem.W.nsIn K mainGlobals "all") (some none),
  fun K => He.eqO (PySem.W.nsIn K mainGlobals "any") (some none),
  fun K => He.eqO (PySem.W.nsIn K mainGlobals "len") (some none),
  fun K => He.eqO (PySem.W.nsIn K mainGlobals "abs") (some none),
  fun K => He.eqO (PySem.W.nsIn K mainGlobals "max") (some none),
  fun K => He.eqO (PySem.W.nsIn K mainGlobals "min") (some none),
  fun K => He.eqO (PySem.W.nsIn K mainGlobals "divmod") (some none),
  fun K => He.eqO (PySem.W.nsIn K mainGlobals "range") (some none),
  fun K => He.eqO (PySem.W.nsIn K mainGlobals "repr") (some none),
  fun K => He.eqO (PySem.W.nsIn K mainGlobals "dict") (some none),
  fun K => He.eqO (PySem.W.nsIn K mainGlobals "list") (some none),
  fun K => He.eqO (PySem.W.nsIn K mainGlobals "tuple") (some none),
  fun K => He.eqO (PySem.W.nsIn K mainGlobals "enumerate") (some none),
  fun K => He.eqO (PySem.W.nsIn K mainGlobals "sum") (some none),
  fun K => He.eqO (PySem.W.nsIn K mainGlobals "sorted") (some none),
  fun K => He.eqO (PySem.W.nsIn K mainGlobals "zip") (some none),
  fun K => He.eqO (PySem.W.nsIn K mainGlobals "ValueError") (some none),
  fun K => He.eqO (PySem.W.nsIn K mainGlobals "ArithmeticError") (some none),
  fun K => He.eqO (PySem.W.nsIn K mainGlobals "RuntimeError") (some none),
  fun K => match K.lookup sysModules with | some o => decide (o.cls ≠ .type "list") | none => false,
  fun K => He.Fa.ok K (.str "ALL_SIGNS" "abcd"),
  fun K => He.Fa.ok K (.int "MOST_IN_ROW" 2000),
  fun K => He.Fa.ok K (.int "MOST_IN_TABLE" 64),
  fun K => He.Fa.ok K (.int "MOST_IN_MARK" 8),
  fun K => plainB K (adK K "is_integer"),
  fun K => PySem.W.keepIn K (.ref (adK K "is_integer"))]
def facts1 : List (PySem.W.Frag → Bool) := [
  fun K => He.eqO (PySem.W.nsIn K mainGlobals "is_integer") (some (some (.ref (adK K "is_integer")))),
  fun K => plainB K (adK K "is_count"),
  fun K => PySem.W.keepIn K (.ref (adK K "is_count")),
  fun K => He.eqO (PySem.W.nsIn K mainGlobals "is_count") (some (some (.ref (adK K "is_count")))),
  fun K => plainB K (adK K "is_between"),
  fun K => PySem.W.keepIn K (.ref (adK K "is_between")),
  fun K => He.eqO (PySem.W.nsIn K mainGlobals "is_between") (some (some (.ref (adK K "is_between")))),
  fun K => plainB K (adK K "is_sign"),
  fun K => PySem.W.keepIn K (.ref (adK K "is_sign")),
  fun K => He.eqO (PySem.W.nsIn K mainGlobals "is_sign") (some (some (.ref (adK K "is_sign")))),
  fun K => plainB K (adK K "is_row"),
  fun K => PySem.W.keepIn K (.ref (adK K "is_row")),
  fun K => He.eqO (PySem.W.nsIn K mainGlobals "is_row") (some (some (.ref (adK K "is_row")))),
  fun K => plainB K (adK K "is_list"),
  fun K => PySem.W.keepIn K (.ref (adK K "is_list")),
  fun K => He.eqO (PySem.W.nsIn K mainGlobals "is_list") (some (some (.ref (adK K "is_list")))),
  fun K => plainB K (adK K "is_short_row"),
  fun K => PySem.W.keepIn K (.ref (adK K "is_short_row")),
  fun K => He.eqO (PySem.W.nsIn K mainGlobals "is_short_row") (some (some (.ref (adK K "is_short_row")))),
  fun K => plainB K (adK K "check_many"),
  fun K => PySem.W.keepIn K (.ref (adK K "check_many")),
  fun K => He.eqO (PySem.W.nsIn K mainGlobals "check_many") (some (some (.ref (adK K "check_many")))),
  fun K => plainB K (adK K "is_dict_of_state"),
  fun K => PySem.W.keepIn K (.ref (adK K "is_dict_of_state")),
  fun K => He.eqO (PySem.W.nsIn K mainGlobals "is_dict_of_state") (some (some (.ref (adK K "is_dict_of_state")))),
  fun K => plainB K (adK K "check_table"),
  fun K => PySem.W.keepIn K (.ref (adK K "check_table")),
  fun K => He.eqO (PySem.W.nsIn K mainGlobals "check_table") (some (some (.ref (adK K "check_table")))),
  fun K => plainB K (adK K "check_words"),
  fun K => PySem.W.keepIn K (.ref (adK K "check_words"))]
def facts2 : List (PySem.W.Frag → Bool) := [
  fun K => He.eqO (PySem.W.nsIn K mainGlobals "check_words") (some (some (.ref (adK K "check_words")))),
  fun K => plainB K (adK K "free_table"),
  fun K => PySem.W.keepIn K (.ref (adK K "free_table")),
  fun K => He.eqO (PySem.W.nsIn K mainGlobals "free_table") (some (some (.ref (adK K "free_table")))),
  fun K => plainB K (adK K "barring_table"),
  fun K => PySem.W.keepIn K (.ref (adK K "barring_table")),
  fun K => He.eqO (PySem.W.nsIn K mainGlobals "barring_table") (some (some (.ref (adK K "barring_table")))),
  fun K => plainB K (adK K "barring_state"),
  fun K => PySem.W.keepIn K (.ref (adK K "barring_state")),
  fun K => He.eqO (PySem.W.nsIn K mainGlobals "barring_state") (some (some (.ref (adK K "barring_state")))),
  fun K => plainB K (adK K "leads_of"),
  fun K => PySem.W.keepIn K (.ref (adK K "leads_of")),
  fun K => He.eqO (PySem.W.nsIn K mainGlobals "leads_of") (some (some (.ref (adK K "leads_of")))),
  fun K => plainB K (adK K "walked"),
  fun K => PySem.W.keepIn K (.ref (adK K "walked")),
  fun K => He.eqO (PySem.W.nsIn K mainGlobals "walked") (some (some (.ref (adK K "walked")))),
  fun K => plainB K (adK K "living_part"),
  fun K => PySem.W.keepIn K (.ref (adK K "living_part")),
  fun K => He.eqO (PySem.W.nsIn K mainGlobals "living_part") (some (some (.ref (adK K "living_part")))),
  fun K => plainB K (adK K "kinds_of"),
  fun K => PySem.W.keepIn K (.ref (adK K "kinds_of")),
  fun K => He.eqO (PySem.W.nsIn K mainGlobals "kinds_of") (some (some (.ref (adK K "kinds_of")))),
  fun K => plainB K (adK K "numbered"),
  fun K => PySem.W.keepIn K (.ref (adK K "numbered")),
  fun K => He.eqO (PySem.W.nsIn K mainGlobals "numbered") (some (some (.ref (adK K "numbered")))),
  fun K => dfnB K (adK K "least_table") [.int 0],
  fun K => PySem.W.keepIn K (.ref (adK K "least_table")),
  fun K => He.eqO (PySem.W.nsIn K mainGlobals "least_table") (some (some (.ref (adK K "least_table")))),
  fun K => plainB K (adK K "meet_table"),
  fun K => PySem.W.keepIn K (.ref (adK K "meet_table"))]
def facts3 : List (PySem.W.Frag → Bool) := [
  fun K => He.eqO (PySem.W.nsIn K mainGlobals "meet_table") (some (some (.ref (adK K "meet_table")))),
  fun K => dfnB K (adK K "medium_table") [.int 0],
  fun K => PySem.W.keepIn K (.ref (adK K "medium_table")),
  fun K => He.eqO (PySem.W.nsIn K mainGlobals "medium_table") (some (some (.ref (adK K "medium_table")))),
  fun K => plainB K (adK K "check_medium"),
  fun K => PySem.W.keepIn K (.ref (adK K "check_medium")),
  fun K => He.eqO (PySem.W.nsIn K mainGlobals "check_medium") (some (some (.ref (adK K "check_medium")))),
  fun K => plainB K (adK K "check_media"),
  fun K => PySem.W.keepIn K (.ref (adK K "check_media")),
  fun K => He.eqO (PySem.W.nsIn K mainGlobals "check_media") (some (some (.ref (adK K "check_media")))),
  fun K => plainB K (adK K "join"),
  fun K => PySem.W.keepIn K (.ref (adK K "join")),
  fun K => He.eqO (PySem.W.nsIn K mainGlobals "join") (some (some (.ref (adK K "join")))),
  fun K => plainB K (adK K "can_join"),
  fun K => PySem.W.keepIn K (.ref (adK K "can_join")),
  fun K => He.eqO (PySem.W.nsIn K mainGlobals "can_join") (some (some (.ref (adK K "can_join")))),
  fun K => plainB K (adK K "clear_steps"),
  fun K => PySem.W.keepIn K (.ref (adK K "clear_steps")),
  fun K => He.eqO (PySem.W.nsIn K mainGlobals "clear_steps") (some (some (.ref (adK K "clear_steps")))),
  fun K => plainB K (adK K "begun_mark"),
  fun K => PySem.W.keepIn K (.ref (adK K "begun_mark")),
  fun K => He.eqO (PySem.W.nsIn K mainGlobals "begun_mark") (some (some (.ref (adK K "begun_mark")))),
  fun K => plainB K (adK K "check_mark"),
  fun K => PySem.W.keepIn K (.ref (adK K "check_mark")),
  fun K => He.eqO (PySem.W.nsIn K mainGlobals "check_mark") (some (some (.ref (adK K "check_mark")))),
  fun K => plainB K (adK K "_law_pot"),
  fun K => PySem.W.keepIn K (.ref (adK K "_law_pot")),
  fun K => He.eqO (PySem.W.nsIn K mainGlobals "_law_pot") (some (some (.ref (adK K "_law_pot")))),
  fun K => plainB K (adK K "_law_draw"),
  fun K => PySem.W.keepIn K (.ref (adK K "_law_draw"))]
def facts4 : List (PySem.W.Frag → Bool) := [
  fun K => He.eqO (PySem.W.nsIn K mainGlobals "_law_draw") (some (some (.ref (adK K "_law_draw")))),
  fun K => plainB K (adK K "_law_pick"),
  fun K => PySem.W.keepIn K (.ref (adK K "_law_pick")),
  fun K => He.eqO (PySem.W.nsIn K mainGlobals "_law_pick") (some (some (.ref (adK K "_law_pick")))),
  fun K => plainB K (adK K "_law_lines"),
  fun K => PySem.W.keepIn K (.ref (adK K "_law_lines")),
  fun K => He.eqO (PySem.W.nsIn K mainGlobals "_law_lines") (some (some (.ref (adK K "_law_lines")))),
  fun K => plainB K (adK K "_law_alive"),
  fun K => PySem.W.keepIn K (.ref (adK K "_law_alive")),
  fun K => He.eqO (PySem.W.nsIn K mainGlobals "_law_alive") (some (some (.ref (adK K "_law_alive")))),
  fun K => plainB K (adK K "_law_marks"),
  fun K => PySem.W.keepIn K (.ref (adK K "_law_marks")),
  fun K => He.eqO (PySem.W.nsIn K mainGlobals "_law_marks") (some (some (.ref (adK K "_law_marks")))),
  fun K => plainB K (adK K "_law_least"),
  fun K => PySem.W.keepIn K (.ref (adK K "_law_least")),
  fun K => He.eqO (PySem.W.nsIn K mainGlobals "_law_least") (some (some (.ref (adK K "_law_least")))),
  fun K => plainB K (adK K "_law_walked"),
  fun K => PySem.W.keepIn K (.ref (adK K "_law_walked")),
  fun K => He.eqO (PySem.W.nsIn K mainGlobals "_law_walked") (some (some (.ref (adK K "_law_walked")))),
  fun K => plainB K (adK K "_law_words"),
  fun K => PySem.W.keepIn K (.ref (adK K "_law_words")),
  fun K => He.eqO (PySem.W.nsIn K mainGlobals "_law_words") (some (some (.ref (adK K "_law_words")))),
  fun K => plainB K (adK K "_law_end"),
  fun K => PySem.W.keepIn K (.ref (adK K "_law_end")),
  fun K => He.eqO (PySem.W.nsIn K mainGlobals "_law_end") (some (some (.ref (adK K "_law_end")))),
  fun K => plainB K (adK K "_law_mark"),
  fun K => PySem.W.keepIn K (.ref (adK K "_law_mark")),
  fun K => He.eqO (PySem.W.nsIn K mainGlobals "_law_mark") (some (some (.ref (adK K "_law_mark")))),
  fun K => plainB K (adK K "_law_is_fine"),
  fun K => PySem.W.keepIn K (.ref (adK K "_law_is_fine"))]
def facts5 : List (PySem.W.Frag → Bool) := [
  fun K => He.eqO (PySem.W.nsIn K mainGlobals "_law_is_fine") (some (some (.ref (adK K "_law_is_fine")))),
  fun K => plainB K (adK K "_law_join"),
  fun K => PySem.W.keepIn K (.ref (adK K "_law_join")),
  fun K => He.eqO (PySem.W.nsIn K mainGlobals "_law_join") (some (some (.ref (adK K "_law_join")))),
  fun K => plainB K (adK K "_law_word"),
  fun K => PySem.W.keepIn K (.ref (adK K "_law_word")),
  fun K => He.eqO (PySem.W.nsIn K mainGlobals "_law_word") (some (some (.ref (adK K "_law_word")))),
  fun K => plainB K (adK K "_law_told"),
  fun K => PySem.W.keepIn K (.ref (adK K "_law_told")),
  fun K => He.eqO (PySem.W.nsIn K mainGlobals "_law_told") (some (some (.ref (adK K "_law_told")))),
  fun K => plainB K (adK K "_law_joins_right"),
  fun K => PySem.W.keepIn K (.ref (adK K "_law_joins_right")),
  fun K => He.eqO (PySem.W.nsIn K mainGlobals "_law_joins_right") (some (some (.ref (adK K "_law_joins_right")))),
  fun K => plainB K (adK K "_law_right"),
  fun K => PySem.W.keepIn K (.ref (adK K "_law_right")),
  fun K => He.eqO (PySem.W.nsIn K mainGlobals "_law_right") (some (some (.ref (adK K "_law_right")))),
  fun K => plainB K (adK K "law"),
  fun K => PySem.W.keepIn K (.ref (adK K "law")),
  fun K => He.eqO (PySem.W.nsIn K mainGlobals "law") (some (some (.ref (adK K "law")))),
  fun K => He.eqO (PySem.W.nsIn K mainGlobals "Medium") (some (some (.ref (adK K "Medium")))),
  fun K => PySem.W.plainGet K (adK K "Medium") Str.empty,
  fun K => PySem.W.hasDictIn K (adK K "Medium"),
  fun K => PySem.W.plainOver K (adK K "Medium"),
  fun K => decide (PySem.W.findIn K (.ref (adK K "Medium")) "__setattr__" = some (some (.builtin "object.__setattr__"))),
  fun K => PySem.W.makesIn K (adK K "Medium"),
  fun K => decide (PySem.W.findIn K (.ref (adK K "Medium")) "__init__" = some (some (.ref (adK K "Medium.__init__")))),
  fun K => PySem.W.isFn K (.ref (adK K "Medium.__init__")),
  fun K => PySem.W.keepIn K (.ref (adK K "Medium")),
  fun K => He.eqO (PySem.W.findIn K (.ref (adK K "Medium")) "_many") (some none),
  fun K => He.eqO (PySem.W.findIn K (.ref (adK K "Medium")) "_table") (some none)]
def facts6 : List (PySem.W.Frag → Bool) := [
  fun K => He.eqO (PySem.W.findIn K (.ref (adK K "Medium")) "_leads") (some none),
  fun K => conSB K (adK K "Medium") "LETTERS" "abcd",
  fun K => cvalB K (adK K "Medium") "MOST_STATES" 16,
  fun K => PySem.W.readsIn K (adK K "Medium") (.type "type"),
  fun K => decide (PySem.W.specialIn K (.ref (adK K "Medium")) "__getattribute__" = some (some (.builtin "type.__getattribute__"))),
  fun K => plainB K (adK K "Medium.__init__"),
  fun K => PySem.W.keepIn K (.ref (adK K "Medium.__init__")),
  fun K => plainB K (adK K "Medium.table"),
  fun K => PySem.W.keepIn K (.ref (adK K "Medium.table")),
  fun K => decide (PySem.W.findIn K (.ref (adK K "Medium")) "table" = some (some (.ref (adK K "Medium.table")))),
  fun K => PySem.W.isFn K (.ref (adK K "Medium.table")),
  fun K => plainB K (adK K "Medium.leads"),
  fun K => PySem.W.keepIn K (.ref (adK K "Medium.leads")),
  fun K => decide (PySem.W.findIn K (.ref (adK K "Medium")) "leads" = some (some (.ref (adK K "Medium.leads")))),
  fun K => PySem.W.isFn K (.ref (adK K "Medium.leads")),
  fun K => plainB K (adK K "Medium.__len__"),
  fun K => PySem.W.keepIn K (.ref (adK K "Medium.__len__")),
  fun K => decide (PySem.W.findIn K (.ref (adK K "Medium")) "__len__" = some (some (.ref (adK K "Medium.__len__")))),
  fun K => PySem.W.isFn K (.ref (adK K "Medium.__len__")),
  fun K => plainB K (adK K "Medium.__eq__"),
  fun K => PySem.W.keepIn K (.ref (adK K "Medium.__eq__")),
  fun K => decide (PySem.W.findIn K (.ref (adK K "Medium")) "__eq__" = some (some (.ref (adK K "Medium.__eq__")))),
  fun K => PySem.W.isFn K (.ref (adK K "Medium.__eq__")),
  fun K => decide (PySem.W.findIn K (.ref (adK K "Medium")) "__class__" = some (some (.builtin "object.__class__"))),
  fun K => decide (PySem.W.mroIn K (adK K "Medium") (.type "object") = some true),
  fun K => decide (PySem.W.specialIn K (.builtin "object.__class__") "__get__" = some (some (.builtin "getset_descriptor.__get__"))),
  fun K => decide (PySem.W.takesIn K (.builtin "object.__class__") = some true),
  fun K => plainB K (adK K "Medium.walk"),
  fun K => PySem.W.keepIn K (.ref (adK K "Medium.walk")),
  fun K => decide (PySem.W.findIn K (.ref (adK K "Medium")) "walk" = some (some (.ref (adK K "Medium.walk"))))]
def facts7 : List (PySem.W.Frag → Bool) := [
  fun K => PySem.W.isFn K (.ref (adK K "Medium.walk")),
  fun K => plainB K (adK K "Medium.__contains__"),
  fun K => PySem.W.keepIn K (.ref (adK K "Medium.__contains__")),
  fun K => decide (PySem.W.findIn K (.ref (adK K "Medium")) "__contains__" = some (some (.ref (adK K "Medium.__contains__")))),
  fun K => PySem.W.isFn K (.ref (adK K "Medium.__contains__")),
  fun K => plainB K (adK K "Medium.free"),
  fun K => PySem.W.keepIn K (.ref (adK K "Medium.free")),
  fun K => gtB K (adK K "Medium") (.type "type") "free" (adK K "Medium.free!") "classmethod.__get__",
  fun K => recB K (adK K "Medium.free!") "classmethod" (adK K "Medium.free"),
  fun K => PySem.W.fnIn K (adK K "Medium.free"),
  fun K => cvalSB K (adK K "Medium") "LETTERS" "abcd",
  fun K => plainB K (adK K "Medium.signs"),
  fun K => PySem.W.keepIn K (.ref (adK K "Medium.signs")),
  fun K => decide (PySem.W.findIn K (.ref (adK K "Medium")) "signs" = some (some (.ref (adK K "Medium.signs!")))),
  fun K => decide (PySem.W.specialIn K (.ref (adK K "Medium.signs!")) "__get__" = some (some (.builtin "property.__get__"))),
  fun K => decide (PySem.W.takesIn K (.ref (adK K "Medium.signs!")) = some true),
  fun K => recB K (adK K "Medium.signs!") "property" (adK K "Medium.signs"),
  fun K => plainB K (adK K "Medium.barring"),
  fun K => PySem.W.keepIn K (.ref (adK K "Medium.barring")),
  fun K => gtB K (adK K "Medium") (.type "type") "barring" (adK K "Medium.barring!") "classmethod.__get__",
  fun K => recB K (adK K "Medium.barring!") "classmethod" (adK K "Medium.barring"),
  fun K => PySem.W.fnIn K (adK K "Medium.barring"),
  fun K => xbAll K (adK K "InvalidRow") [.type "ValueError", .type "Exception", .type "BaseException", .type "object"] "ValueError.__new__",
  fun K => xiB K (adK K "InvalidRow") (adK K "InvalidRow.__init__"),
  fun K => plainB K (adK K "InvalidRow.__init__"),
  fun K => He.eqO (PySem.W.findIn K (.ref (adK K "InvalidRow")) "value") (some none),
  fun K => He.eqO (PySem.W.nsIn K mainGlobals "InvalidRow") (some (some (.ref (adK K "InvalidRow")))),
  fun K => PySem.W.excIn K (adK K "NothingLeft") [.type "RuntimeError", .type "Exception", .type "BaseException", .type "object"] "RuntimeError.__new__",
  fun K => He.eqO (PySem.W.nsIn K mainGlobals "NothingLeft") (some (some (.ref (adK K "NothingLeft")))),
  fun K => PySem.W.keepIn K (.ref (adK K "NothingLeft"))]
def facts8 : List (PySem.W.Frag → Bool) := [
  fun K => decide (PySem.W.subIn K (.ref (adK K "NothingLeft")) (.type "BaseException") = some true),
  fun K => decide (PySem.W.typeIn K (.ref (adK K "NothingLeft")) = some (.type "type")),
  fun K => ecB K (adK K "NothingLeft"),
  fun K => xbAll K (adK K "TooMany") [.type "ArithmeticError", .type "Exception", .type "BaseException", .type "object"] "ArithmeticError.__new__",
  fun K => xiB K (adK K "TooMany") (adK K "TooMany.__init__"),
  fun K => plainB K (adK K "TooMany.__init__"),
  fun K => He.eqO (PySem.W.findIn K (.ref (adK K "TooMany")) "what") (some none),
  fun K => He.eqO (PySem.W.findIn K (.ref (adK K "TooMany")) "limit") (some none),
  fun K => He.eqO (PySem.W.nsIn K mainGlobals "TooMany") (some (some (.ref (adK K "TooMany")))),
  fun K => He.eqO (PySem.W.nsIn K mainGlobals "BarredError") (some (some (.ref (adK K "BarredError")))),
  fun K => He.eqO (PySem.W.nsIn K mainGlobals "InvalidMark") (some (some (.ref (adK K "InvalidMark")))),
  fun K => decide (PySem.W.exmOne K (.ref (adK K "InvalidRow")) (.ref (adK K "InvalidRow")) = some true),
  fun K => decide (PySem.W.kitOne K (.ref (adK K "InvalidRow")) (.ref (adK K "BarredError")) = some true),
  fun K => decide (PySem.W.kitOne K (.ref (adK K "InvalidRow")) (.ref (adK K "InvalidMark")) = some false),
  fun K => PySem.W.codeHdIn K (codeK K "_law_joins_right") (tabK K "_law_joins_right"),
  fun K => (K.lookup (tabK K "_law_joins_right")).isNone,
  fun K => isCodeK K "_law_joins_right"]
def facts : List (PySem.W.Frag → Bool) := facts0 ++ (facts1 ++ (facts2 ++ (facts3 ++ (facts4 ++ (facts5 ++ (facts6 ++ (facts7 ++ (facts8))))))))
def fnd0 : List (Str × (Str × Str × Arguments × FuncBody × Scope × Addr × List (Str × Addr) × Addr)) := [
  ("is_integer", ("is_integer", "is_integer", defArgs sIsInteger, .stmts (defBody sIsInteger), defScope sIsInteger, mainGlobals, [], builtinsNs)),
  ("is_count", ("is_count", "is_count", defArgs sIsCount, .stmts (defBody sIsCount), defScope sIsCount, mainGlobals, [], builtinsNs)),
  ("is_between", ("is_between", "is_between", defArgs sIsBetween, .stmts (defBody sIsBetween), defScope sIsBetween, mainGlobals, [], builtinsNs)),
  ("is_sign", ("is_sign", "is_sign", defArgs sIsSign, .stmts (defBody sIsSign), defScope sIsSign, mainGlobals, [], builtinsNs)),
  ("is_row", ("is_row", "is_row", defArgs sIsRow, .stmts (defBody sIsRow), defScope sIsRow, mainGlobals, [], builtinsNs)),
  ("is_list", ("is_list", "is_list", defArgs sIsList, .stmts (defBody sIsList), defScope sIsList, mainGlobals, [], builtinsNs)),
  ("is_short_row", ("is_short_row", "is_short_row", defArgs sIsShortRow, .stmts (defBody sIsShortRow), defScope sIsShortRow, mainGlobals, [], builtinsNs)),
  ("check_many", ("check_many", "check_many", defArgs sCheckMany, .stmts (defBody sCheckMany), defScope sCheckMany, mainGlobals, [], builtinsNs)),
  ("is_dict_of_state", ("is_dict_of_state", "is_dict_of_state", defArgs sIsDictOfState, .stmts (defBody sIsDictOfState), defScope sIsDictOfState, mainGlobals, [], builtinsNs)),
  ("check_table", ("check_table", "check_table", defArgs sCheckTable, .stmts (defBody sCheckTable), defScope sCheckTable, mainGlobals, [], builtinsNs)),
  ("check_words", ("check_words", "check_words", defArgs sCheckWords, .stmts (defBody sCheckWords), defScope sCheckWords, mainGlobals, [], builtinsNs)),
  ("free_table", ("free_table", "free_table", defArgs sFreeTable, .stmts (defBody sFreeTable), defScope sFreeTable, mainGlobals, [], builtinsNs)),
  ("barring_table", ("barring_table", "barring_table", defArgs sBarringTable, .stmts (defBody sBarringTable), defScope sBarringTable, mainGlobals, [], builtinsNs)),
  ("barring_state", ("barring_state", "barring_state", defArgs sBarringState, .stmts (defBody sBarringState), defScope sBarringState, mainGlobals, [], builtinsNs)),
  ("leads_of", ("leads_of", "leads_of", defArgs sLeadsOf, .stmts (defBody sLeadsOf), defScope sLeadsOf, mainGlobals, [], builtinsNs)),
  ("walked", ("walked", "walked", defArgs sWalked, .stmts (defBody sWalked), defScope sWalked, mainGlobals, [], builtinsNs)),
  ("living_part", ("living_part", "living_part", defArgs sLivingPart, .stmts (defBody sLivingPart), defScope sLivingPart, mainGlobals, [], builtinsNs)),
  ("kinds_of", ("kinds_of", "kinds_of", defArgs sKindsOf, .stmts (defBody sKindsOf), defScope sKindsOf, mainGlobals, [], builtinsNs)),
  ("numbered", ("numbered", "numbered", defArgs sNumbered, .stmts (defBody sNumbered), defScope sNumbered, mainGlobals, [], builtinsNs)),
  ("least_table", ("least_table", "least_table", defArgs sLeastTable, .stmts (defBody sLeastTable), defScope sLeastTable, mainGlobals, [], builtinsNs)),
  ("meet_table", ("meet_table", "meet_table", defArgs sMeetTable, .stmts (defBody sMeetTable), defScope sMeetTable, mainGlobals, [], builtinsNs)),
  ("medium_table", ("medium_table", "medium_table", defArgs sMediumTable, .stmts (defBody sMediumTable), defScope sMediumTable, mainGlobals, [], builtinsNs)),
  ("check_medium", ("check_medium", "check_medium", defArgs sCheckMedium, .stmts (defBody sCheckMedium), defScope sCheckMedium, mainGlobals, [], builtinsNs)),
  ("check_media", ("check_media", "check_media", defArgs sCheckMedia, .stmts (defBody sCheckMedia), defScope sCheckMedia, mainGlobals, [], builtinsNs)),
  ("join", ("join", "join", defArgs sJoin, .stmts (defBody sJoin), defScope sJoin, mainGlobals, [], builtinsNs)),
  ("can_join", ("can_join", "can_join", defArgs sCanJoin, .stmts (defBody sCanJoin), defScope sCanJoin, mainGlobals, [], builtinsNs)),
  ("clear_steps", ("clear_steps", "clear_steps", defArgs sClearSteps, .stmts (defBody sClearSteps), defScope sClearSteps, mainGlobals, [], builtinsNs)),
  ("begun_mark", ("begun_mark", "begun_mark", defArgs sBegunMark, .stmts (defBody sBegunMark), defScope sBegunMark, mainGlobals, [], builtinsNs)),
  ("check_mark", ("check_mark", "check_mark", defArgs sCheckMark, .stmts (defBody sCheckMark), defScope sCheckMark, mainGlobals, [], builtinsNs)),
  ("_law_pot", ("_law_pot", "_law_pot", defArgs sPot, .stmts (defBody sPot), defScope sPot, mainGlobals, [], builtinsNs))]
def fnd1 : List (Str × (Str × Str × Arguments × FuncBody × Scope × Addr × List (Str × Addr) × Addr)) := [
  ("_law_draw", ("_law_draw", "_law_draw", defArgs sDraw, .stmts (defBody sDraw), defScope sDraw, mainGlobals, [], builtinsNs)),
  ("_law_pick", ("_law_pick", "_law_pick", defArgs sPick, .stmts (defBody sPick), defScope sPick, mainGlobals, [], builtinsNs)),
  ("_law_lines", ("_law_lines", "_law_lines", defArgs sLines, .stmts (defBody sLines), defScope sLines, mainGlobals, [], builtinsNs)),
  ("_law_alive", ("_law_alive", "_law_alive", defArgs sAlive, .stmts (defBody sAlive), defScope sAlive, mainGlobals, [], builtinsNs)),
  ("_law_marks", ("_law_marks", "_law_marks", defArgs sMarks, .stmts (defBody sMarks), defScope sMarks, mainGlobals, [], builtinsNs)),
  ("_law_least", ("_law_least", "_law_least", defArgs sLeast, .stmts (defBody sLeast), defScope sLeast, mainGlobals, [], builtinsNs)),
  ("_law_walked", ("_law_walked", "_law_walked", defArgs sLawWalked, .stmts (defBody sLawWalked), defScope sLawWalked, mainGlobals, [], builtinsNs)),
  ("_law_words", ("_law_words", "_law_words", defArgs sWords, .stmts (defBody sWords), defScope sWords, mainGlobals, [], builtinsNs)),
  ("_law_end", ("_law_end", "_law_end", defArgs sEnd, .stmts (defBody sEnd), defScope sEnd, mainGlobals, [], builtinsNs)),
  ("_law_mark", ("_law_mark", "_law_mark", defArgs sMark, .stmts (defBody sMark), defScope sMark, mainGlobals, [], builtinsNs)),
  ("_law_is_fine", ("_law_is_fine", "_law_is_fine", defArgs sIsFine, .stmts (defBody sIsFine), defScope sIsFine, mainGlobals, [], builtinsNs)),
  ("_law_join", ("_law_join", "_law_join", defArgs sLawJoin, .stmts (defBody sLawJoin), defScope sLawJoin, mainGlobals, [], builtinsNs)),
  ("_law_word", ("_law_word", "_law_word", defArgs sWord, .stmts (defBody sWord), defScope sWord, mainGlobals, [], builtinsNs)),
  ("_law_told", ("_law_told", "_law_told", defArgs sTold, .stmts (defBody sTold), defScope sTold, mainGlobals, [], builtinsNs)),
  ("_law_joins_right", ("_law_joins_right", "_law_joins_right", defArgs sJoinsRight, .stmts (defBody sJoinsRight), defScope sJoinsRight, mainGlobals, [], builtinsNs)),
  ("_law_right", ("_law_right", "_law_right", defArgs sRight, .stmts (defBody sRight), defScope sRight, mainGlobals, [], builtinsNs)),
  ("law", ("law", "law", defArgs sLaw, .stmts (defBody sLaw), defScope sLaw, mainGlobals, [], builtinsNs)),
  ("Medium.__init__", ("__init__", "Medium.__init__", defArgs sM_init, .stmts (defBody sM_init), defScope sM_init, mainGlobals, [], builtinsNs)),
  ("Medium.table", ("table", "Medium.table", defArgs sM_table, .stmts (defBody sM_table), defScope sM_table, mainGlobals, [], builtinsNs)),
  ("Medium.leads", ("leads", "Medium.leads", defArgs sM_leads, .stmts (defBody sM_leads), defScope sM_leads, mainGlobals, [], builtinsNs)),
  ("Medium.__len__", ("__len__", "Medium.__len__", defArgs sM_len, .stmts (defBody sM_len), defScope sM_len, mainGlobals, [], builtinsNs)),
  ("Medium.__eq__", ("__eq__", "Medium.__eq__", defArgs sM_eq, .stmts (defBody sM_eq), defScope sM_eq, mainGlobals, [], builtinsNs)),
  ("Medium.walk", ("walk", "Medium.walk", defArgs sM_walk, .stmts (defBody sM_walk), defScope sM_walk, mainGlobals, [], builtinsNs)),
  ("Medium.__contains__", ("__contains__", "Medium.__contains__", defArgs sM_contains, .stmts (defBody sM_contains), defScope sM_contains, mainGlobals, [], builtinsNs)),
  ("Medium.free", ("free", "Medium.free", defArgs sM_free, .stmts (defBody sM_free), defScope sM_free, mainGlobals, [], builtinsNs)),
  ("Medium.signs", ("signs", "Medium.signs", defArgs sM_signs, .stmts (defBody sM_signs), defScope sM_signs, mainGlobals, [], builtinsNs)),
  ("Medium.barring", ("barring", "Medium.barring", defArgs sM_barring, .stmts (defBody sM_barring), defScope sM_barring, mainGlobals, [], builtinsNs)),
  ("InvalidRow.__init__", ("__init__", "InvalidRow.__init__", defArgs (inS 7 0), .stmts (defBody (inS 7 0)), defScope (inS 7 0), mainGlobals, [], builtinsNs)),
  ("TooMany.__init__", ("__init__", "TooMany.__init__", defArgs (inS 13 0), .stmts (defBody (inS 13 0)), defScope (inS 13 0), mainGlobals, [], builtinsNs))]
def fnd : List (Str × (Str × Str × Arguments × FuncBody × Scope × Addr × List (Str × Addr) × Addr)) := fnd0 ++ (fnd1)
abbrev AlK : Type := Bool × List He.FnW
def obsK (K : PySem.W.Frag) : AlK := (facts.all fun f => f K, fnd.map fun p => fnA K (adK K p.1))
def valK : AlK := (true, fnd.map fun p => some p.2)
def threeN : List Str := ["_law_joins_right"]
def tabsG (g : Addr → Option Obj) (K : PySem.W.Frag) : Bool := threeN.all fun n => match g (tabK K n) with
  | some o => He.emptyTab o
  | none => false
def obG (g : Addr → Option Obj) : AlK × Bool := (obsK (He.frT g addrs), tabsG g (He.frT g addrs))
def hookK : PySem.W.Hook where
  α := AlK × Bool
  obs := fun s => obG s.heap.get?
  val := fun _ => (valK, true)
  says := fun _ h => ∃ K : PySem.W.Frag, K.In h ∧ obsK K = valK ∧ ∀ n ∈ threeN, h.get? (tabK K n) = some { cls := .none, data := .fields #[] }
  of := fun _ s e => ⟨_, He.frT_in, congrArg (fun z : AlK × Bool => z.1) e, fun n hn => by
    have t : tabsG s.heap.get? (He.frT s.heap.get? addrs) = true := congrArg (fun z : AlK × Bool => z.2) e
    have t1 := List.all_eq_true.mp t n hn
    cases q : s.heap.get? (tabK (He.frT s.heap.get? addrs) n) with
    | none => rw [q] at t1; cases t1
    | some o => rw [q] at t1; rw [He.emptyTab_eq t1]⟩
  keeps := fun _ _ _ ⟨K, hK, c, t⟩ k => ⟨K, PySem.W.Frag.In.keeps hK k, c, fun n hn => k _ _ (t n hn)⟩
def ob (s : PySem.W.SharedT) : AlK × Bool := obG (HandSHeadRun.getT s)
theorem ob_eq (s : PySem.W.SharedT) : ob s = hookK.obs s.abs := by
  have e : HandSHeadRun.getT s = s.abs.heap.get? := funext (HandSHeadRun.getT_eq s)
  show obG _ = obG _
  rw [e]
theorem fx {K : PySem.W.Frag} (c : obsK K = valK) (i : Nat) {f : PySem.W.Frag → Bool} (h : facts[i]? = some f := by rfl) : f K = true := by
  have c1 : (facts.all fun f => f K) = true := congrArg (fun z : AlK => z.1) c
  exact List.all_eq_true.mp c1 f (List.mem_of_getElem? h)
theorem fnx {K : PySem.W.Frag} (c : obsK K = valK) (i : Nat) {x : Str} {d : Str × Str × Arguments × FuncBody × Scope × Addr × List (Str × Addr) × Addr} (h : fnd[i]? = some (x, d) := by rfl) : fnA K (adK K x) = some d := by
  have e : fnd.map (fun p => fnA K (adK K p.1)) = fnd.map fun p => some p.2 := congrArg (fun z : AlK => z.2) c
  have e2 : (fnd.map fun p => fnA K (adK K p.1))[i]? = (fnd.map fun p => some p.2)[i]? := by rw [e]
  rw [List.getElem?_map, List.getElem?_map, h] at e2
  exact Option.some.inj e2
theorem sys_of {K : PySem.W.Frag} (h : (match K.lookup sysModules with | some o => decide (o.cls ≠ .type "list") | none => false) = true) : ∃ o, K.lookup sysModules = some o ∧ o.cls ≠ .type "list" := by
  cases e : K.lookup sysModules with
  | none => rw [e] at h; cases h
  | some o => rw [e] at h; exact ⟨o, rfl, of_decide_eq_true h⟩
theorem fun_of {K : PySem.W.Frag} {nm ql x : Str} {st : Stmt} (e : fnA K (adK K x) = some (nm, ql, defArgs st, .stmts (defBody st), defScope st, mainGlobals, [], builtinsNs)) (c : plainB K (adK K x) = true) (k : PySem.W.keepIn K (.ref (adK K x)) = true) : Fun K nm ql st (adK K x) (fdAd K x) := by
  obtain ⟨oc, od, doc, pm, an, cdv, ct, osl, ho, hc⟩ := fn_at e c
  have ef : fdAd K x = PySem.W.fnOf nm ql (defArgs st) (defBody st) (defScope st) .none .none doc pm an cdv ct := by
    unfold fdAd
    rw [ho]
  refine ⟨⟨oc, od, .none, doc, pm, an, cdv, ct, osl, ef, ?_, hc⟩, k⟩
  rw [ef]; exact ho
theorem funV_of {K : PySem.W.Frag} {nm ql x : Str} {st : Stmt} {dvs : List V} (e : fnA K (adK K x) = some (nm, ql, defArgs st, .stmts (defBody st), defScope st, mainGlobals, [], builtinsNs)) (c : dfnB K (adK K x) dvs = true) (k : PySem.W.keepIn K (.ref (adK K x)) = true) : FunD K nm ql (defArgs st) (defBody st) (defScope st) dvs [] (adK K x) (fdAd K x) := by
  obtain ⟨oc, od, dV, kV, doc, pm, an, cdv, ct, osl, ho, hd, hc⟩ := fnV_at e c
  have ef : fdAd K x = PySem.W.fnOf nm ql (defArgs st) (defBody st) (defScope st) dV kV doc pm an cdv ct := by
    unfold fdAd
    rw [ho]
  refine ⟨⟨oc, od, dV, kV, doc, pm, an, cdv, ct, osl, ef, ?_, hc, hd, .inl rfl⟩, k⟩
  rw [ef]; exact ho
section
variable {K : PySem.W.Frag} {h : Heap} {mg : Str → Option Value}
theorem txK (X : K.In h) (G : h.Ns mainGlobals mg) (c : obsK K = valK) : Tx K mg (adK K) (fdAd K) where
  m_isinstance := (PySem.W.mg_none_of X G (He.eqO_ok (fx c 0)))
  m_int := (PySem.W.mg_none_of X G (He.eqO_ok (fx c 1)))
  m_bool := (PySem.W.mg_none_of X G (He.eqO_ok (fx c 2)))
  m_str := (PySem.W.mg_none_of X G (He.eqO_ok (fx c 3)))
  m_all := (PySem.W.mg_none_of X G (He.eqO_ok (fx c 4)))
  m_any := (PySem.W.mg_none_of X G (He.eqO_ok (fx c 5)))
  m_len := (PySem.W.mg_none_of X G (He.eqO_ok (fx c 6)))
  m_abs := (PySem.W.mg_none_of X G (He.eqO_ok (fx c 7)))
  m_max := (PySem.W.mg_none_of X G (He.eqO_ok (fx c 8)))
  m_min := (PySem.W.mg_none_of X G (He.eqO_ok (fx c 9)))
  m_divmod := (PySem.W.mg_none_of X G (He.eqO_ok (fx c 10)))
  m_range := (PySem.W.mg_none_of X G (He.eqO_ok (fx c 11)))
  m_repr := (PySem.W.mg_none_of X G (He.eqO_ok (fx c 12)))
  m_dict := (PySem.W.mg_none_of X G (He.eqO_ok (fx c 13)))
  m_list := (PySem.W.mg_none_of X G (He.eqO_ok (fx c 14)))
  m_tuple := (PySem.W.mg_none_of X G (He.eqO_ok (fx c 15)))
  m_enumerate := (PySem.W.mg_none_of X G (He.eqO_ok (fx c 16)))
  m_sum := (PySem.W.mg_none_of X G (He.eqO_ok (fx c 17)))
  m_sorted := (PySem.W.mg_none_of X G (He.eqO_ok (fx c 18)))
  m_zip := (PySem.W.mg_none_of X G (He.eqO_ok (fx c 19)))
  m_ValueError := (PySem.W.mg_none_of X G (He.eqO_ok (fx c 20)))
  m_ArithmeticError := (PySem.W.mg_none_of X G (He.eqO_ok (fx c 21)))
  m_RuntimeError := (PySem.W.mg_none_of X G (He.eqO_ok (fx c 22)))
  sys := sys_of (fx c 23)
  g_ALL_SIGNS := He.str_ok X G (fx c 24)
  g_MOST_IN_ROW := He.int_ok X G (fx c 25)
  g_MOST_IN_TABLE := He.int_ok X G (fx c 26)
  g_MOST_IN_MARK := He.int_ok X G (fx c 27)
  F_is_integer := (fun_of (x := "is_integer") (st := sIsInteger) (fnx c 0) (fx c 28) (fx c 29))
  g_is_integer := (PySem.W.mg_of X G (He.eqO_ok (fx c 30)))
  b_is_integer := (fun_of (x := "is_integer") (st := sIsInteger) (fnx c 0) (fx c 28) (fx c 29)).binds (ps := ["value"]) fun _ _ _ _ _ _ us hl => match us, hl with | [_], _ => rfl
  F_is_count := (fun_of (x := "is_count") (st := sIsCount) (fnx c 1) (fx c 31) (fx c 32))
  g_is_count := (PySem.W.mg_of X G (He.eqO_ok (fx c 33)))
  b_is_count := (fun_of (x := "is_count") (st := sIsCount) (fnx c 1) (fx c 31) (fx c 32)).binds (ps := ["value"]) fun _ _ _ _ _ _ us hl => match us, hl with | [_], _ => rfl
  F_is_between := (fun_of (x := "is_between") (st := sIsBetween) (fnx c 2) (fx c 34) (fx c 35))
  g_is_between := (PySem.W.mg_of X G (He.eqO_ok (fx c 36)))
  b_is_between := (fun_of (x := "is_between") (st := sIsBetween) (fnx c 2) (fx c 34) (fx c 35)).binds (ps := ["value", "low", "high"]) fun _ _ _ _ _ _ us hl => match us, hl with | [_, _, _], _ => rfl
  F_is_sign := (fun_of (x := "is_sign") (st := sIsSign) (fnx c 3) (fx c 37) (fx c 38))
  g_is_sign := (PySem.W.mg_of X G (He.eqO_ok (fx c 39)))
  b_is_sign := (fun_of (x := "is_sign") (st := sIsSign) (fnx c 3) (fx c 37) (fx c 38)).binds (ps := ["value", "signs"]) fun _ _ _ _ _ _ us hl => match us, hl with | [_, _], _ => rfl
  F_is_row := (fun_of (x := "is_row") (st := sIsRow) (fnx c 4) (fx c 40) (fx c 41))
  g_is_row := (PySem.W.mg_of X G (He.eqO_ok (fx c 42)))
  b_is_row := (fun_of (x := "is_row") (st := sIsRow) (fnx c 4) (fx c 40) (fx c 41)).binds (ps := ["value"]) fun _ _ _ _ _ _ us hl => match us, hl with | [_], _ => rfl
  F_is_list := (fun_of (x := "is_list") (st := sIsList) (fnx c 5) (fx c 43) (fx c 44))
  g_is_list := (PySem.W.mg_of X G (He.eqO_ok (fx c 45)))
  b_is_list := (fun_of (x := "is_list") (st := sIsList) (fnx c 5) (fx c 43) (fx c 44)).binds (ps := ["value"]) fun _ _ _ _ _ _ us hl => match us, hl with | [_], _ => rfl
  F_is_short_row := (fun_of (x := "is_short_row") (st := sIsShortRow) (fnx c 6) (fx c 46) (fx c 47))
  g_is_short_row := (PySem.W.mg_of X G (He.eqO_ok (fx c 48)))
  b_is_short_row := (fun_of (x := "is_short_row") (st := sIsShortRow) (fnx c 6) (fx c 46) (fx c 47)).binds (ps := ["value"]) fun _ _ _ _ _ _ us hl => match us, hl with | [_], _ => rfl
  F_check_many := (fun_of (x := "check_many") (st := sCheckMany) (fnx c 7) (fx c 49) (fx c 50))
  g_check_many := (PySem.W.mg_of X G (He.eqO_ok (fx c 51)))
  b_check_many := (fun_of (x := "check_many") (st := sCheckMany) (fnx c 7) (fx c 49) (fx c 50)).binds (ps := ["many"]) fun _ _ _ _ _ _ us hl => match us, hl with | [_], _ => rfl
  F_is_dict_of_state := (fun_of (x := "is_dict_of_state") (st := sIsDictOfState) (fnx c 8) (fx c 52) (fx c 53))
  g_is_dict_of_state := (PySem.W.mg_of X G (He.eqO_ok (fx c 54)))
  b_is_dict_of_state := (fun_of (x := "is_dict_of_state") (st := sIsDictOfState) (fnx c 8) (fx c 52) (fx c 53)).binds (ps := ["value", "signs", "size"]) fun _ _ _ _ _ _ us hl => match us, hl with | [_, _, _], _ => rfl
  F_check_table := (fun_of (x := "check_table") (st := sCheckTable) (fnx c 9) (fx c 55) (fx c 56))
  g_check_table := (PySem.W.mg_of X G (He.eqO_ok (fx c 57)))
  b_check_table := (fun_of (x := "check_table") (st := sCheckTable) (fnx c 9) (fx c 55) (fx c 56)).binds (ps := ["table", "signs"]) fun _ _ _ _ _ _ us hl => match us, hl with | [_, _], _ => rfl
  F_check_words := (fun_of (x := "check_words") (st := sCheckWords) (fnx c 10) (fx c 58) (fx c 59))
  g_check_words := (PySem.W.mg_of X G (He.eqO_ok (fx c 60)))
  b_check_words := (fun_of (x := "check_words") (st := sCheckWords) (fnx c 10) (fx c 58) (fx c 59)).binds (ps := ["words", "signs"]) fun _ _ _ _ _ _ us hl => match us, hl with | [_, _], _ => rfl
  F_free_table := (fun_of (x := "free_table") (st := sFreeTable) (fnx c 11) (fx c 61) (fx c 62))
  g_free_table := (PySem.W.mg_of X G (He.eqO_ok (fx c 63)))
  b_free_table := (fun_of (x := "free_table") (st := sFreeTable) (fnx c 11) (fx c 61) (fx c 62)).binds (ps := ["signs"]) fun _ _ _ _ _ _ us hl => match us, hl with | [_], _ => rfl
  F_barring_table := (fun_of (x := "barring_table") (st := sBarringTable) (fnx c 12) (fx c 64) (fx c 65))
  g_barring_table := (PySem.W.mg_of X G (He.eqO_ok (fx c 66)))
  b_barring_table := (fun_of (x := "barring_table") (st := sBarringTable) (fnx c 12) (fx c 64) (fx c 65)).binds (ps := ["signs", "words"]) fun _ _ _ _ _ _ us hl => match us, hl with | [_, _], _ => rfl
  F_barring_state := (fun_of (x := "barring_state") (st := sBarringState) (fnx c 13) (fx c 67) (fx c 68))
  g_barring_state := (PySem.W.mg_of X G (He.eqO_ok (fx c 69)))
  b_barring_state := (fun_of (x := "barring_state") (st := sBarringState) (fnx c 13) (fx c 67) (fx c 68)).binds (ps := ["start", "signs", "words", "numbers"]) fun _ _ _ _ _ _ us hl => match us, hl with | [_, _, _, _], _ => rfl
  F_leads_of := (fun_of (x := "leads_of") (st := sLeadsOf) (fnx c 14) (fx c 70) (fx c 71))
  g_leads_of := (PySem.W.mg_of X G (He.eqO_ok (fx c 72)))
  b_leads_of := (fun_of (x := "leads_of") (st := sLeadsOf) (fnx c 14) (fx c 70) (fx c 71)).binds (ps := ["table", "signs"]) fun _ _ _ _ _ _ us hl => match us, hl with | [_, _], _ => rfl
  F_walked := (fun_of (x := "walked") (st := sWalked) (fnx c 15) (fx c 73) (fx c 74))
  g_walked := (PySem.W.mg_of X G (He.eqO_ok (fx c 75)))
  b_walked := (fun_of (x := "walked") (st := sWalked) (fnx c 15) (fx c 73) (fx c 74)).binds (ps := ["table", "row", "state"]) fun _ _ _ _ _ _ us hl => match us, hl with | [_, _, _], _ => rfl
  F_living_part := (fun_of (x := "living_part") (st := sLivingPart) (fnx c 16) (fx c 76) (fx c 77))
  g_living_part := (PySem.W.mg_of X G (He.eqO_ok (fx c 78)))
  b_living_part := (fun_of (x := "living_part") (st := sLivingPart) (fnx c 16) (fx c 76) (fx c 77)).binds (ps := ["table"]) fun _ _ _ _ _ _ us hl => match us, hl with | [_], _ => rfl
  F_kinds_of := (fun_of (x := "kinds_of") (st := sKindsOf) (fnx c 17) (fx c 79) (fx c 80))
  g_kinds_of := (PySem.W.mg_of X G (He.eqO_ok (fx c 81)))
  b_kinds_of := (fun_of (x := "kinds_of") (st := sKindsOf) (fnx c 17) (fx c 79) (fx c 80)).binds (ps := ["table"]) fun _ _ _ _ _ _ us hl => match us, hl with | [_], _ => rfl
  F_numbered := (fun_of (x := "numbered") (st := sNumbered) (fnx c 18) (fx c 82) (fx c 83))
  g_numbered := (PySem.W.mg_of X G (He.eqO_ok (fx c 84)))
  b_numbered := (fun_of (x := "numbered") (st := sNumbered) (fnx c 18) (fx c 82) (fx c 83)).binds (ps := ["marks"]) fun _ _ _ _ _ _ us hl => match us, hl with | [_], _ => rfl
  F_least_table := (funV_of (x := "least_table") (st := sLeastTable) (dvs := [.int 0]) (fnx c 19) (fx c 85) (fx c 86))
  g_least_table := (PySem.W.mg_of X G (He.eqO_ok (fx c 87)))
  F_meet_table := (fun_of (x := "meet_table") (st := sMeetTable) (fnx c 20) (fx c 88) (fx c 89))
  g_meet_table := (PySem.W.mg_of X G (He.eqO_ok (fx c 90)))
  b_meet_table := (fun_of (x := "meet_table") (st := sMeetTable) (fnx c 20) (fx c 88) (fx c 89)).binds (ps := ["one", "other"]) fun _ _ _ _ _ _ us hl => match us, hl with | [_, _], _ => rfl
  F_medium_table := (funV_of (x := "medium_table") (st := sMediumTable) (dvs := [.int 0]) (fnx c 21) (fx c 91) (fx c 92))
  g_medium_table := (PySem.W.mg_of X G (He.eqO_ok (fx c 93)))
  F_check_medium := (fun_of (x := "check_medium") (st := sCheckMedium) (fnx c 22) (fx c 94) (fx c 95))
  g_check_medium := (PySem.W.mg_of X G (He.eqO_ok (fx c 96)))
  b_check_medium := (fun_of (x := "check_medium") (st := sCheckMedium) (fnx c 22) (fx c 94) (fx c 95)).binds (ps := ["medium"]) fun _ _ _ _ _ _ us hl => match us, hl with | [_], _ => rfl
  F_check_media := (fun_of (x := "check_media") (st := sCheckMedia) (fnx c 23) (fx c 97) (fx c 98))
  g_check_media := (PySem.W.mg_of X G (He.eqO_ok (fx c 99)))
  b_check_media := (fun_of (x := "check_media") (st := sCheckMedia) (fnx c 23) (fx c 97) (fx c 98)).binds (ps := ["one", "other"]) fun _ _ _ _ _ _ us hl => match us, hl with | [_, _], _ => rfl
  F_join := (fun_of (x := "join") (st := sJoin) (fnx c 24) (fx c 100) (fx c 101))
  g_join := (PySem.W.mg_of X G (He.eqO_ok (fx c 102)))
  b_join := (fun_of (x := "join") (st := sJoin) (fnx c 24) (fx c 100) (fx c 101)).binds (ps := ["medium", "mark", "row"]) fun _ _ _ _ _ _ us hl => match us, hl with | [_, _, _], _ => rfl
  F_can_join := (fun_of (x := "can_join") (st := sCanJoin) (fnx c 25) (fx c 103) (fx c 104))
  g_can_join := (PySem.W.mg_of X G (He.eqO_ok (fx c 105)))
  b_can_join := (fun_of (x := "can_join") (st := sCanJoin) (fnx c 25) (fx c 103) (fx c 104)).binds (ps := ["medium", "mark", "state", "begun"]) fun _ _ _ _ _ _ us hl => match us, hl with | [_, _, _, _], _ => rfl
  F_clear_steps := (fun_of (x := "clear_steps") (st := sClearSteps) (fnx c 26) (fx c 106) (fx c 107))
  g_clear_steps := (PySem.W.mg_of X G (He.eqO_ok (fx c 108)))
  b_clear_steps := (fun_of (x := "clear_steps") (st := sClearSteps) (fnx c 26) (fx c 106) (fx c 107)).binds (ps := ["medium", "mark", "state", "begun"]) fun _ _ _ _ _ _ us hl => match us, hl with | [_, _, _, _], _ => rfl
  F_begun_mark := (fun_of (x := "begun_mark") (st := sBegunMark) (fnx c 27) (fx c 109) (fx c 110))
  g_begun_mark := (PySem.W.mg_of X G (He.eqO_ok (fx c 111)))
  b_begun_mark := (fun_of (x := "begun_mark") (st := sBegunMark) (fnx c 27) (fx c 109) (fx c 110)).binds (ps := ["mark", "row"]) fun _ _ _ _ _ _ us hl => match us, hl with | [_, _], _ => rfl
  F_check_mark := (fun_of (x := "check_mark") (st := sCheckMark) (fnx c 28) (fx c 112) (fx c 113))
  g_check_mark := (PySem.W.mg_of X G (He.eqO_ok (fx c 114)))
  b_check_mark := (fun_of (x := "check_mark") (st := sCheckMark) (fnx c 28) (fx c 112) (fx c 113)).binds (ps := ["mark"]) fun _ _ _ _ _ _ us hl => match us, hl with | [_], _ => rfl
  F__law_pot := (fun_of (x := "_law_pot") (st := sPot) (fnx c 29) (fx c 115) (fx c 116))
  g__law_pot := (PySem.W.mg_of X G (He.eqO_ok (fx c 117)))
  b__law_pot := (fun_of (x := "_law_pot") (st := sPot) (fnx c 29) (fx c 115) (fx c 116)).binds (ps := ["_law_script", "_law_k"]) fun _ _ _ _ _ _ us hl => match us, hl with | [_, _], _ => rfl
  F__law_draw := (fun_of (x := "_law_draw") (st := sDraw) (fnx c 30) (fx c 118) (fx c 119))
  g__law_draw := (PySem.W.mg_of X G (He.eqO_ok (fx c 120)))
  b__law_draw := (fun_of (x := "_law_draw") (st := sDraw) (fnx c 30) (fx c 118) (fx c 119)).binds (ps := ["_law_pot_here", "_law_size"]) fun _ _ _ _ _ _ us hl => match us, hl with | [_, _], _ => rfl
  F__law_pick := (fun_of (x := "_law_pick") (st := sPick) (fnx c 31) (fx c 121) (fx c 122))
  g__law_pick := (PySem.W.mg_of X G (He.eqO_ok (fx c 123)))
  b__law_pick := (fun_of (x := "_law_pick") (st := sPick) (fnx c 31) (fx c 121) (fx c 122)).binds (ps := ["_law_pot_here", "_law_some"]) fun _ _ _ _ _ _ us hl => match us, hl with | [_, _], _ => rfl
  F__law_lines := (fun_of (x := "_law_lines") (st := sLines) (fnx c 32) (fx c 124) (fx c 125))
  g__law_lines := (PySem.W.mg_of X G (He.eqO_ok (fx c 126)))
  b__law_lines := (fun_of (x := "_law_lines") (st := sLines) (fnx c 32) (fx c 124) (fx c 125)).binds (ps := ["_law_pot_here", "_law_width", "_law_most"]) fun _ _ _ _ _ _ us hl => match us, hl with | [_, _, _], _ => rfl
  F__law_alive := (fun_of (x := "_law_alive") (st := sAlive) (fnx c 33) (fx c 127) (fx c 128))
  g__law_alive := (PySem.W.mg_of X G (He.eqO_ok (fx c 129)))
  b__law_alive := (fun_of (x := "_law_alive") (st := sAlive) (fnx c 33) (fx c 127) (fx c 128)).binds (ps := ["_law_lines_here"]) fun _ _ _ _ _ _ us hl => match us, hl with | [_], _ => rfl
  F__law_marks := (fun_of (x := "_law_marks") (st := sMarks) (fnx c 34) (fx c 130) (fx c 131))
  g__law_marks := (PySem.W.mg_of X G (He.eqO_ok (fx c 132)))
  b__law_marks := (fun_of (x := "_law_marks") (st := sMarks) (fnx c 34) (fx c 130) (fx c 131)).binds (ps := ["_law_lines_here"]) fun _ _ _ _ _ _ us hl => match us, hl with | [_], _ => rfl
  F__law_least := (fun_of (x := "_law_least") (st := sLeast) (fnx c 35) (fx c 133) (fx c 134))
  g__law_least := (PySem.W.mg_of X G (He.eqO_ok (fx c 135)))
  b__law_least := (fun_of (x := "_law_least") (st := sLeast) (fnx c 35) (fx c 133) (fx c 134)).binds (ps := ["_law_lines_here"]) fun _ _ _ _ _ _ us hl => match us, hl with | [_], _ => rfl
  F__law_walked := (fun_of (x := "_law_walked") (st := sLawWalked) (fnx c 36) (fx c 136) (fx c 137))
  g__law_walked := (PySem.W.mg_of X G (He.eqO_ok (fx c 138)))
  b__law_walked := (fun_of (x := "_law_walked") (st := sLawWalked) (fnx c 36) (fx c 136) (fx c 137)).binds (ps := ["_law_lines_here", "_law_word_here", "_law_spot"]) fun _ _ _ _ _ _ us hl => match us, hl with | [_, _, _], _ => rfl
  F__law_words := (fun_of (x := "_law_words") (st := sWords) (fnx c 37) (fx c 139) (fx c 140))
  g__law_words := (PySem.W.mg_of X G (He.eqO_ok (fx c 141)))
  b__law_words := (fun_of (x := "_law_words") (st := sWords) (fnx c 37) (fx c 139) (fx c 140)).binds (ps := ["_law_width", "_law_length"]) fun _ _ _ _ _ _ us hl => match us, hl with | [_, _], _ => rfl
  F__law_end := (fun_of (x := "_law_end") (st := sEnd) (fnx c 38) (fx c 142) (fx c 143))
  g__law_end := (PySem.W.mg_of X G (He.eqO_ok (fx c 144)))
  b__law_end := (fun_of (x := "_law_end") (st := sEnd) (fnx c 38) (fx c 142) (fx c 143)).binds (ps := ["_law_mark_word", "_law_word_here"]) fun _ _ _ _ _ _ us hl => match us, hl with | [_, _], _ => rfl
  F__law_mark := (fun_of (x := "_law_mark") (st := sMark) (fnx c 39) (fx c 145) (fx c 146))
  g__law_mark := (PySem.W.mg_of X G (He.eqO_ok (fx c 147)))
  b__law_mark := (fun_of (x := "_law_mark") (st := sMark) (fnx c 39) (fx c 145) (fx c 146)).binds (ps := ["_law_pot_here", "_law_lines_here", "_law_width"]) fun _ _ _ _ _ _ us hl => match us, hl with | [_, _, _], _ => rfl
  F__law_is_fine := (fun_of (x := "_law_is_fine") (st := sIsFine) (fnx c 40) (fx c 148) (fx c 149))
  g__law_is_fine := (PySem.W.mg_of X G (He.eqO_ok (fx c 150)))
  b__law_is_fine := (fun_of (x := "_law_is_fine") (st := sIsFine) (fnx c 40) (fx c 148) (fx c 149)).binds (ps := ["_law_lines_here", "_law_word_here", "_law_mark_word"]) fun _ _ _ _ _ _ us hl => match us, hl with | [_, _, _], _ => rfl
  F__law_join := (fun_of (x := "_law_join") (st := sLawJoin) (fnx c 41) (fx c 151) (fx c 152))
  g__law_join := (PySem.W.mg_of X G (He.eqO_ok (fx c 153)))
  b__law_join := (fun_of (x := "_law_join") (st := sLawJoin) (fnx c 41) (fx c 151) (fx c 152)).binds (ps := ["_law_lines_here", "_law_mark_word", "_law_word_here"]) fun _ _ _ _ _ _ us hl => match us, hl with | [_, _, _], _ => rfl
  F__law_word := (fun_of (x := "_law_word") (st := sWord) (fnx c 42) (fx c 154) (fx c 155))
  g__law_word := (PySem.W.mg_of X G (He.eqO_ok (fx c 156)))
  b__law_word := (fun_of (x := "_law_word") (st := sWord) (fnx c 42) (fx c 154) (fx c 155)).binds (ps := ["_law_pot_here", "_law_lines_here", "_law_mark_word"]) fun _ _ _ _ _ _ us hl => match us, hl with | [_, _, _], _ => rfl
  F__law_told := (fun_of (x := "_law_told") (st := sTold) (fnx c 43) (fx c 157) (fx c 158))
  g__law_told := (PySem.W.mg_of X G (He.eqO_ok (fx c 159)))
  b__law_told := (fun_of (x := "_law_told") (st := sTold) (fnx c 43) (fx c 157) (fx c 158)).binds (ps := ["_law_call"]) fun _ _ _ _ _ _ us hl => match us, hl with | [_], _ => rfl
  F__law_joins_right := (fun_of (x := "_law_joins_right") (st := sJoinsRight) (fnx c 44) (fx c 160) (fx c 161))
  g__law_joins_right := (PySem.W.mg_of X G (He.eqO_ok (fx c 162)))
  b__law_joins_right := (fun_of (x := "_law_joins_right") (st := sJoinsRight) (fnx c 44) (fx c 160) (fx c 161)).binds (ps := ["_law_pot_here", "_law_made", "_law_lines_here", "_law_width"]) fun _ _ _ _ _ _ us hl => match us, hl with | [_, _, _, _], _ => rfl
  F__law_right := (fun_of (x := "_law_right") (st := sRight) (fnx c 45) (fx c 163) (fx c 164))
  g__law_right := (PySem.W.mg_of X G (He.eqO_ok (fx c 165)))
  b__law_right := (fun_of (x := "_law_right") (st := sRight) (fnx c 45) (fx c 163) (fx c 164)).binds (ps := ["_law_pot_here"]) fun _ _ _ _ _ _ us hl => match us, hl with | [_], _ => rfl
  F_law := (fun_of (x := "law") (st := sLaw) (fnx c 46) (fx c 166) (fx c 167))
  g_law := (PySem.W.mg_of X G (He.eqO_ok (fx c 168)))
  b_law := (fun_of (x := "law") (st := sLaw) (fnx c 46) (fx c 166) (fx c 167)).binds (ps := ["_law_script"]) fun _ _ _ _ _ _ us hl => match us, hl with | [_], _ => rfl
theorem medC (X : K.In h) (G : h.Ns mainGlobals mg) (c : obsK K = valK) : MedC K mg (adK K) (fdAd K) where
  G := (PySem.W.mg_of X G (He.eqO_ok (fx c 169)))
  cl := ⟨(fx c 170), (fx c 171), (fx c 172), (of_decide_eq_true (fx c 173))⟩
  mks := ⟨(fx c 174), (of_decide_eq_true (fx c 175)), (fx c 176), (fx c 177)⟩
  nm := He.eqO_ok (fx c 178)
  nt := He.eqO_ok (fx c 179)
  nl := He.eqO_ok (fx c 180)
  lets := conS_ok (fx c 181) (by decide +kernel)
  most := by
    obtain ⟨u, hu⟩ := cval_ok (fx c 182)
    exact ⟨.type "type", u, ⟨(fx c 183), (of_decide_eq_true (fx c 184))⟩, hu⟩
  F_init := (fun_of (x := "Medium.__init__") (st := sM_init) (fnx c 47) (fx c 185) (fx c 186))
  b_init := (fun_of (x := "Medium.__init__") (st := sM_init) (fnx c 47) (fx c 185) (fx c 186)).binds (ps := ["self", "many", "table"]) fun _ _ _ _ _ _ us hl => match us, hl with | [_, _, _], _ => rfl
  F_table := (fun_of (x := "Medium.table") (st := sM_table) (fnx c 48) (fx c 187) (fx c 188))
  b_table := (fun_of (x := "Medium.table") (st := sM_table) (fnx c 48) (fx c 187) (fx c 188)).binds (ps := ["self"]) fun _ _ _ _ _ _ us hl => match us, hl with | [_], _ => rfl
  m_table := ⟨(of_decide_eq_true (fx c 189)), (fx c 190), (fx c 188)⟩
  F_leads := (fun_of (x := "Medium.leads") (st := sM_leads) (fnx c 49) (fx c 191) (fx c 192))
  b_leads := (fun_of (x := "Medium.leads") (st := sM_leads) (fnx c 49) (fx c 191) (fx c 192)).binds (ps := ["self"]) fun _ _ _ _ _ _ us hl => match us, hl with | [_], _ => rfl
  m_leads := ⟨(of_decide_eq_true (fx c 193)), (fx c 194), (fx c 192)⟩
  F_len := (fun_of (x := "Medium.__len__") (st := sM_len) (fnx c 50) (fx c 195) (fx c 196))
  b_len := (fun_of (x := "Medium.__len__") (st := sM_len) (fnx c 50) (fx c 195) (fx c 196)).binds (ps := ["self"]) fun _ _ _ _ _ _ us hl => match us, hl with | [_], _ => rfl
  ln := (of_decide_eq_true (fx c 197))
  lnf := (fx c 198)
  F_eq := (fun_of (x := "Medium.__eq__") (st := sM_eq) (fnx c 51) (fx c 199) (fx c 200))
  b_eq := (fun_of (x := "Medium.__eq__") (st := sM_eq) (fnx c 51) (fx c 199) (fx c 200)).binds (ps := ["self", "other"]) fun _ _ _ _ _ _ us hl => match us, hl with | [_, _], _ => rfl
  eq := (of_decide_eq_true (fx c 201))
  eqf := (fx c 202)
  ca := (of_decide_eq_true (fx c 203))
  ob := (of_decide_eq_true (fx c 204))
  cn := (of_decide_eq_true (fx c 205))
  ct := (of_decide_eq_true (fx c 206))
theorem medW (X : K.In h) (G : h.Ns mainGlobals mg) (c : obsK K = valK) : MedW K mg (adK K) (fdAd K) where
  F_walk := (fun_of (x := "Medium.walk") (st := sM_walk) (fnx c 52) (fx c 207) (fx c 208))
  b_walk := (fun_of (x := "Medium.walk") (st := sM_walk) (fnx c 52) (fx c 207) (fx c 208)).binds (ps := ["self", "row", "state"]) fun _ _ _ _ _ _ us hl => match us, hl with | [_, _, _], _ => rfl
  m_walk := ⟨(of_decide_eq_true (fx c 209)), (fx c 210), (fx c 208)⟩
  F_con := (fun_of (x := "Medium.__contains__") (st := sM_contains) (fnx c 53) (fx c 211) (fx c 212))
  b_con := (fun_of (x := "Medium.__contains__") (st := sM_contains) (fnx c 53) (fx c 211) (fx c 212)).binds (ps := ["self", "x"]) fun _ _ _ _ _ _ us hl => match us, hl with | [_, _], _ => rfl
  con := (of_decide_eq_true (fx c 213))
  conf := (fx c 214)
  F_free := (fun_of (x := "Medium.free") (st := sM_free) (fnx c 54) (fx c 215) (fx c 216))
  b_free := (fun_of (x := "Medium.free") (st := sM_free) (fnx c 54) (fx c 215) (fx c 216)).binds (ps := ["cls", "many"]) fun _ _ _ _ _ _ us hl => match us, hl with | [_, _], _ => rfl
  cr := ⟨.type "type", ⟨(fx c 183), (of_decide_eq_true (fx c 184))⟩, ⟨gtB_ok (fx c 217), rec_ok (fx c 218), (fx c 219)⟩, cvalS_ok (fx c 220)⟩
theorem medX (X : K.In h) (G : h.Ns mainGlobals mg) (c : obsK K = valK) : MedX K mg (adK K) (fdAd K) where
  F_signs := (fun_of (x := "Medium.signs") (st := sM_signs) (fnx c 55) (fx c 221) (fx c 222))
  b_signs := (fun_of (x := "Medium.signs") (st := sM_signs) (fnx c 55) (fx c 221) (fx c 222)).binds (ps := ["self"]) fun _ _ _ _ _ _ us hl => match us, hl with | [_], _ => rfl
  p_signs := ⟨(of_decide_eq_true (fx c 223)), (of_decide_eq_true (fx c 224)), (of_decide_eq_true (fx c 225)), rec_ok (fx c 226)⟩
theorem medB (X : K.In h) (G : h.Ns mainGlobals mg) (c : obsK K = valK) : MedB K mg (adK K) (fdAd K) where
  F_bar := (fun_of (x := "Medium.barring") (st := sM_barring) (fnx c 56) (fx c 227) (fx c 228))
  crb := ⟨.type "type", ⟨(fx c 183), (of_decide_eq_true (fx c 184))⟩, ⟨gtB_ok (fx c 229), rec_ok (fx c 230), (fx c 231)⟩, cvalS_ok (fx c 220)⟩
theorem errR (X : K.In h) (G : h.Ns mainGlobals mg) (c : obsK K = valK) : ErrV K mg "InvalidRow" (adK K "InvalidRow") (adK K "InvalidRow.__init__") := ⟨(xb_of (fx c 232)), (xi_of (fx c 233)), (by
    obtain ⟨oc, od, doc, pm, an, cdv, ct, osl, ho, hc⟩ := fn_at (fnx c 57) (fx c 234)
    exact ⟨He.eqO_ok (fx c 235), oc, od, doc, pm, an, cdv, ct, osl, _, _, _, _, _, _, _, ho, hc⟩), (PySem.W.mg_of X G (He.eqO_ok (fx c 236)))⟩
theorem errN (X : K.In h) (G : h.Ns mainGlobals mg) (c : obsK K = valK) : ErrN K mg "NothingLeft" (adK K "NothingLeft") := ⟨(fx c 237), (PySem.W.mg_of X G (He.eqO_ok (fx c 238))), (fx c 239), (of_decide_eq_true (fx c 240)), (of_decide_eq_true (fx c 241)), exc_of (fx c 242)⟩
theorem errW (X : K.In h) (G : h.Ns mainGlobals mg) (c : obsK K = valK) : ErrW K mg "TooMany" (adK K "TooMany") (adK K "TooMany.__init__") := ⟨(xb_of (fx c 243)), (xi_of (fx c 244)), (by
    obtain ⟨oc, od, doc, pm, an, cdv, ct, osl, ho, hc⟩ := fn_at (fnx c 58) (fx c 245)
    exact ⟨He.eqO_ok (fx c 246), He.eqO_ok (fx c 247), oc, od, doc, pm, an, cdv, ct, osl, _, _, _, _, _, _, _, _, _, _, _, _, ho, hc⟩), (PySem.W.mg_of X G (He.eqO_ok (fx c 248)))⟩
theorem tellC (X : K.In h) (G : h.Ns mainGlobals mg) (c : obsK K = valK) : TellC K mg (adK K) (adK K "InvalidRow") (adK K "InvalidRow.__init__") :=
  ⟨errR X G c, (PySem.W.mg_of X G (He.eqO_ok (fx c 249))), (PySem.W.mg_of X G (He.eqO_ok (fx c 250))), (of_decide_eq_true (fx c 251)), (of_decide_eq_true (fx c 252)), (of_decide_eq_true (fx c 253))⟩
def csK (K : PySem.W.Frag) : List (Addr × Addr) := threeN.map fun n => (codeK K n, tabK K n)
def ttK (K : PySem.W.Frag) : List (Addr × Str) := [(tabK K "_law_joins_right", "_law_joins_right.<locals>.<lambda>")]
theorem freeK (c : obsK K = valK) : ∀ p ∈ csK K, K.lookup p.2 = none := by
  intro p hp
  simp only [csK, threeN, List.map_cons, List.map_nil, List.mem_cons, List.not_mem_nil, or_false] at hp
  subst hp
  exact Option.isNone_iff_eq_none.mp (fx c 255)
theorem headsK (X : K.In h) (c : obsK K = valK) : ∀ p ∈ csK K, PySem.W.CodeHd h p.1 p.2 := by
  intro p hp
  simp only [csK, threeN, List.map_cons, List.map_nil, List.mem_cons, List.not_mem_nil, or_false] at hp
  subst hp
  exact PySem.W.codeHd_of_K X (fx c 254)
theorem tbK {base : Heap} (c : obsK K = valK) (t : ∀ p ∈ csK K, TabB base mg p.1 p.2) : Tb mg base (fdAd K) (ttK K) "_law_joins_right" "_law_joins_right.<locals>.<lambda>" (codeK K "_law_joins_right") (tabK K "_law_joins_right") := by
  refine ⟨isCodeK_ok (fx c 256), t (codeK K "_law_joins_right", tabK K "_law_joins_right") (by simp [csK, threeN]), by simp [ttK], ?_⟩
  intro p hp e
  simp only [ttK, List.mem_cons, List.not_mem_nil, or_false] at hp
  subst hp
  rfl
end
end K88
end

section
set_option maxHeartbeats 0
namespace K88
open PySem PySem.W PySem.Calls PyProof.Rows
abbrev RW : OpenRow := OpenLaw.row PySem.Challenge.rw_barredrows_k88_whole_joins
abbrev qv : Program := view RW.prog [73]
def names0 : List PySem.Str := ["_wall", "BarredError", "InvalidSigns", "InvalidTable", "InvalidWords", "InvalidMedium", "InvalidRow", "InvalidMark", "StateError", "NothingLeft", "OtherSigns", "LimitError", "TooMany", "ALL_SIGNS", "is_integer", "is_count", "is_between", "is_sign", "is_row", "MOST_IN_ROW", "MOST_IN_TABLE", "is_list", "is_short_row", "check_many", "is_dict_of_state", "check_table", "check_words", "free_table", "barring_table", "barring_state"]
def names1 : List PySem.Str := ["leads_of", "walked", "living_part", "kinds_of", "numbered", "least_table", "meet_table", "Medium", "medium_table", "check_medium", "check_media", "MOST_IN_MARK", "join", "can_join", "clear_steps", "begun_mark", "check_mark", "_law_pot", "_law_draw", "_law_pick", "_law_lines", "_law_alive", "_law_marks", "_law_least", "_law_walked", "_law_words", "_law_end", "_law_mark", "_law_is_fine", "_law_join"]
def names2 : List PySem.Str := ["_law_word", "_law_told", "_law_joins_right", "_law_right"]
def names : List PySem.Str := names0 ++ names1 ++ names2
/-- the top's run -/
noncomputable abbrev runT (w : World) (os : OsState) : Option SharedT := HandSHeadRun.endF (HandSHeadRun.stepQ (HandSHeadRun.denQ HandSHeadRun.tabQ) RW.prog w) 9000 RW.prog w os
noncomputable def partB (fs : List (PySem.W.Frag → Bool)) (s : SharedT) : Bool := fs.all fun f => f (He.frT (HandSHeadRun.getT s) addrs)
noncomputable def partF (s : SharedT) : List He.FnW := fnd.map fun p => fnA (He.frT (HandSHeadRun.getT s) addrs) (adK (He.frT (HandSHeadRun.getT s) addrs) p.1)
noncomputable def partT (s : SharedT) : Bool := tabsG (HandSHeadRun.getT s) (He.frT (HandSHeadRun.getT s) addrs)
def factsA : List (PySem.W.Frag → Bool) := facts0 ++ (facts1 ++ (facts2))
def factsB : List (PySem.W.Frag → Bool) := facts3 ++ (facts4 ++ (facts5))
def factsC : List (PySem.W.Frag → Bool) := facts6 ++ (facts7 ++ (facts8))
theorem facts_all (K : PySem.W.Frag) : (facts.all fun f => f K) = (((factsA.all fun f => f K) && ((factsB.all fun f => f K) && factsC.all fun f => f K))) := by
  unfold facts factsA factsB factsC
  simp only [List.all_append, Bool.and_assoc]
end K88
end

section
set_option maxHeartbeats 0
namespace K88
open PySem PySem.W PySem.Calls PyProof.Rows
theorem run0 (w : World) (os : OsState) : (runT w os).map (fun s => (HandSHeadRun.looksF RW.prog (boot_heap w.params) s.abs, HandSHeadRun.seenQ qv names (importedModules RW.prog.main.body) (fun s => xlAt qv [] s && recOk RW.toRowW.records s) s.abs)) = some (true, openGood qv names) := by
  kernel_rfl
end K88
end

section
set_option maxHeartbeats 0
namespace K88
open PySem PySem.W PySem.Calls PyProof.Rows
theorem runA (w : World) (os : OsState) : (runT w os).map (partB factsA) = some true := by
  kernel_rfl
end K88
end

section
set_option maxHeartbeats 0
namespace K88
open PySem PySem.W PySem.Calls PyProof.Rows
theorem runB (w : World) (os : OsState) : (runT w os).map (partB factsB) = some true := by
  kernel_rfl
end K88
end

section
set_option maxHeartbeats 0
namespace K88
open PySem PySem.W PySem.Calls PyProof.Rows
theorem runC (w : World) (os : OsState) : (runT w os).map (partB factsC) = some true := by
  kernel_rfl
end K88
end

section
set_option maxHeartbeats 0
namespace K88
open PySem PySem.W PySem.Calls PyProof.Rows
theorem runFd (w : World) (os : OsState) : (runT w os).map partF = some (fnd.map fun p => some p.2) := by
  kernel_rfl
end K88
end

section
set_option maxHeartbeats 0
namespace K88
open PySem PySem.W PySem.Calls PyProof.Rows
theorem runTb (w : World) (os : OsState) : (runT w os).map partT = some true := by
  kernel_rfl
end K88
end

section
set_option maxHeartbeats 0
namespace K88
open PySem PySem.W PySem.Calls PyProof.Rows
theorem of_map {α β : Type} {x : Option α} {s : α} {f : α → β} {v : β} (e : x = some s) (h : x.map f = some v) : f s = v := by
  rw [e] at h
  exact Option.some.inj h
theorem runK (w : World) : HandSHeadRun.RunEq RW qv hookK ob 9000 names w := by
  intro os
  obtain ⟨s, es, e0⟩ := Option.map_eq_some_iff.mp (run0 w os)
  have eA := of_map es (runA w os)
  have eB := of_map es (runB w os)
  have eC := of_map es (runC w os)
  have eFd := of_map es (runFd w os)
  have eTb := of_map es (runTb w os)
  have eo : ob s = (valK, true) := by
    show (((facts.all fun f => f (He.frT (HandSHeadRun.getT s) addrs)), partF s), partT s) = (valK, true)
    rw [facts_all, show (factsA.all fun f => f (He.frT (HandSHeadRun.getT s) addrs)) = true from eA, show (factsB.all fun f => f (He.frT (HandSHeadRun.getT s) addrs)) = true from eB, show (factsC.all fun f => f (He.frT (HandSHeadRun.getT s) addrs)) = true from eC, eFd, eTb]
    rfl
  obtain ⟨e1, e2⟩ := Prod.mk.inj e0
  show (runT w os).map _ = _
  rw [es]
  show some (_, _, ob s) = _
  rw [eo, e1, e2]
  rfl
end K88
end

section
set_option maxHeartbeats 0
namespace K88
open PySem PySem.Spec PyProof.Rows L2 LamX
theorem walkT {l : PySem.W.OpenLaw} {n k : Nat} {q : Program} {loose : List Str} {XP : (Str → Option Value) → Heap → Prop} {YP : World → Heap → Prop} {d : DefRec} {x : Str}
    (hn : l.most = some n) (hn2 : n ≤ sizeLine) (hdf : d.params.defaults = []) (hr : Room k callerA)
    (F : ∀ (w : World) (mg : Str → Option Value) (fa : Addr) (h : Heap), YP w h → h.Ns mainGlobals mg → mg d.name = some (.ref fa) →
      ∃ (K : PySem.W.Frag) (fd : FuncData) (cs : List (Addr × Addr)) (sp : Sp), K.In h ∧ (∀ p ∈ cs, h.get? p.2 = some { cls := .none, data := .fields #[] }) ∧ (∀ p ∈ cs, K.lookup p.2 = none) ∧ (∀ p ∈ cs, PySem.W.CodeHd h p.1 p.2) ∧ (∀ (s : Shared) (u : Value), BindsTo s fd ⟨[u], []⟩ [(x, u)]) ∧
        (∀ (H : Hp) (a : Addr) (ns : List Int), ns.length ≤ n → (∀ p ∈ cs, H p.2 = some (.tbl #[])) → SqL K H a (ns.map V.int) → sp [.ref a] H (fun v _ => v = .bl true) fun _ _ _ => False) ∧
        ∀ base : Heap, K.In base → base.Ns mainGlobals mg → (∀ p ∈ cs, TabB base mg p.1 p.2) → FnG l.prog w K mg base k fa fd [x] sp) :
    PySem.W.WalkO q loose XP YP l.row.toRowW d [] (fun f vs => PySem.call f vs) := by
  refine Att.attach_callB hn hdf fun w s₀ s₁ mg mb fa o pm cd doc a vs ns G Y ho hd hcd hmg hobj hints hlen _ hg => ?_
  obtain ⟨K, fd, cs, sp, KX, empty, free, heads, hb, hsp, hF⟩ := F w mg fa _ Y G.T.g hmg
  exact law_endT KX G.T.g G.T.b G.T.builtins G.T.nolimit hg empty free heads G.T.bmain hobj hints (Nat.le_trans hlen hn2) hr hF hb fun H hH hS => hsp H a ns hlen hH hS
theorem lawF {P : Program} {w : World} {K : PySem.W.Frag} {h : Heap} {mg : Str → Option Value} {fa : Addr} (X : K.In h) (G : h.Ns mainGlobals mg) (hfa : mg ("law" : Str) = some (.ref fa)) (c : obsK K = valK) :
    (∀ (s : Shared) (u : Value), BindsTo s (fdAd K "law") ⟨[u], []⟩ [("_law_script", u)]) ∧ ∀ base : Heap, K.In base → base.Ns mainGlobals mg → (∀ p ∈ csK K, TabB base mg p.1 p.2) → FnG P w K mg base 13 fa (fdAd K "law") ["_law_script"] (spLaw K (ttK K)) := by
  have T := txK X G c
  have e := hfa.symm.trans T.g_law
  cases e
  refine ⟨fun s u => ?_, fun base _ _ tb => ?_⟩
  · obtain ⟨oc, od, kV, doc, pm, an, cdv, ct, osl, ef, _⟩ := T.F_law.ex
    rw [ef]
    exact .of_eq rfl
  · exact ok_law T (medC X G c) (medW X G c) (medX X G c) (medB X G c) (tellC X G c) (errN X G c) (errW X G c) (tbK c tb)
theorem tabsAt {K : PySem.W.Frag} {H : Hp} (h : ∀ p ∈ csK K, H p.2 = some (.tbl #[])) : Tabs (ttK K) H := by
  intro p hp
  simp only [ttK, List.mem_cons, List.not_mem_nil, or_false] at hp
  subst hp
  exact TabS.nil (h (codeK K "_law_joins_right", tabK K "_law_joins_right") (by simp [csK, threeN]))
end K88
open PySem PySem.W PySem.Calls PyProof.Rows
theorem PySem.Challenge.cw_barredrows_k88_whole_joins_holds : PySem.Challenge.rw_barredrows_k88_whole_joins.Holds := by
  w_on; o_law
  refine HandSHeadRun.head_any (r := OpenLaw.row PySem.Challenge.rw_barredrows_k88_whole_joins) (q := K88.qv) (H := K88.hookK) (ob := K88.ob) (M := 9000) (loose := K88.names) (d := HandSHeadRun.topDef (OpenLaw.row PySem.Challenge.rw_barredrows_k88_whole_joins).prog 73) (kwd := []) K88.ob_eq
    (by kernel_rfl) (fun s => by kernel_rfl) K88.runK (by kernel_rfl) (by kernel_rfl) (by kernel_rfl) (by rfl) (by first | assumption | decide +kernel) (by decide +kernel) ⟨rfl, rfl, rfl, rfl, rfl, by decide +kernel⟩ ?hw ?hc
  case hw => w_witness2
  case hc =>
    refine K88.walkT (l := PySem.Challenge.rw_barredrows_k88_whole_joins) (n := 63) (k := 13) (x := "_law_script") rfl (by decide) (by kernel_rfl) ⟨rfl, by decide, by decide⟩ ?F
    intro w mg fa h Y G hmg0
    obtain ⟨K, KX, c, t⟩ := Y
    have hmg : mg ("law" : PySem.Str) = some (.ref fa) := by
      have e : (HandSHeadRun.topDef (OpenLaw.row PySem.Challenge.rw_barredrows_k88_whole_joins).prog 73).name = ("law" : PySem.Str) := by kernel_rfl
      rw [← e]
      exact hmg0
    obtain ⟨hb, hF⟩ := K88.lawF (P := (PySem.Challenge.rw_barredrows_k88_whole_joins).prog) (w := w) KX G hmg c
    refine ⟨K, _, K88.csK K, K88.spLaw K (K88.ttK K), KX, fun p hp => ?_, K88.freeK c, K88.headsK KX c, hb, fun H a ns hl hH hS => ⟨a, ns, rfl, hS, K88.tabsAt hH, fun _ => rfl⟩, hF⟩
    obtain ⟨n, hn, rfl⟩ := List.mem_map.mp hp
    exact t n hn
end
