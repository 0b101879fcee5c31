import PyProof.Rows.All
import Wide.All
import OpenK.AllK
import Wide.FinOn
import HandS.ForMost
import HandS.Exc
import HandS.ExcInit
import HandS.IsInst
import HandS.Wide
import HandS.WideBits
import HandS.Defaults
import HandS.ExcField
import HandS.Walk
import HandS.Lambda
import HandS.EndTab
import HandS.Property
import HandS.FStr
import PySem.Challenge.RW_barredrows_k82_clashes_judged
import KE.KExcIs
import KE.KExcInit
import HandS.ExcValue
import HandS.WordsExc
import HandS.TryOnly
import HandS.TryMany
import KE.KOpsOwn
import KE.KCallOwn
import OpenK.KOps
import HandS.ClsMeth
import PyProof.Rows.StrBin
import PyProof.StrLawsRepr
import HandS.BoundDict
import HandS.Sort
import PyProof.SumWalkG
import HandS.WordsDict
import PyProof.StrBlock
import PyProof.StrLaws
import HandS.Small
import HandS.GenList
import HandS.ExcOwn
import HandS.TupLen
import HandS.Style
import HandS.HeadHook2
import HandS.Head0
import HandS.Head1
import HandS.Head2
import HandS.HeadHook1
import KE.KNestM
import KE.KStateDown
import Lean
import HandS.HeadEnd
set_option Elab.async false
set_option linter.all false
set_option maxRecDepth 100000
section
set_option maxHeartbeats 4000000
namespace K82
open PySem PySem.Spec PyProof.Rows L2
/-! ### the text by places -/
def topS (i : Nat) : Stmt := PySem.Challenge.pw_barredrows_k82_clashes_judged.main.body.getD i (.Pass ⟨0, 0, 0, 0⟩)
def inS (i j : Nat) : Stmt := match topS i with
  | .ClassDef (body := b) .. => b.getD j (.Pass ⟨0, 0, 0, 0⟩)
  | _ => .Pass ⟨0, 0, 0, 0⟩
abbrev sIsInteger : Stmt := topS 15
abbrev sIsBetween : Stmt := topS 16
abbrev sIsRow : Stmt := topS 17
abbrev sIsList : Stmt := topS 21
abbrev sIsShortRow : Stmt := topS 22
abbrev sCheckRow : Stmt := topS 23
abbrev sCheckState : Stmt := topS 24
abbrev sIsText : Stmt := topS 25
abbrev sCheckWord : Stmt := topS 26
abbrev sCheckText : Stmt := topS 27
abbrev sIsBlock : Stmt := topS 28
abbrev sIsRate : Stmt := topS 33
abbrev sMultiple : Stmt := topS 34
abbrev sCheckTimes : Stmt := topS 35
abbrev sCheckRate : Stmt := topS 36
abbrev sKeptCodes : Stmt := topS 40
abbrev sIsEntry : Stmt := topS 41
abbrev sCheckCodes : Stmt := topS 42
abbrev sCheckCoder : Stmt := topS 43
abbrev sCheckStates : Stmt := topS 44
abbrev sGroupsOf : Stmt := topS 46
abbrev sTwinSteps : Stmt := topS 47
abbrev sWordPair : Stmt := topS 48
abbrev sClash : Stmt := topS 50
abbrev sIsClash : Stmt := topS 51
abbrev sTextsTo : Stmt := topS 52
abbrev sPot : Stmt := topS 54
abbrev sDraw : Stmt := topS 55
abbrev sPick : Stmt := topS 56
abbrev sCodes : Stmt := topS 57
abbrev sKept : Stmt := topS 58
abbrev sRun : Stmt := topS 59
abbrev sLawIsText : Stmt := topS 60
abbrev sJudged : Stmt := topS 61
abbrev sText : Stmt := topS 62
abbrev sOdd : Stmt := topS 63
abbrev sNear : Stmt := topS 64
abbrev sRight : Stmt := topS 65
abbrev sLaw : Stmt := topS 66
abbrev sR_init : Stmt := inS 32 0
abbrev sR_read : Stmt := inS 32 1
abbrev sR_p : Stmt := inS 32 2
abbrev sR_q : Stmt := inS 32 3
abbrev sR_size : Stmt := inS 32 4
abbrev sR_mul : Stmt := inS 32 5
abbrev sR_rmul : Stmt := inS 32 6
abbrev sR_eq : Stmt := inS 32 7
abbrev sR_str : Stmt := inS 32 8
abbrev sR_repr : Stmt := inS 32 9
abbrev sC_init : Stmt := inS 39 1
abbrev sC_rate : Stmt := inS 39 2
abbrev sC_lead : Stmt := inS 39 3
abbrev sC_codes : Stmt := inS 39 4
abbrev sC_end : Stmt := inS 39 5
abbrev sC_blocks : Stmt := inS 39 6
abbrev sC_spelled : Stmt := inS 39 7
abbrev sC_follow : Stmt := inS 39 8
abbrev sC_call : Stmt := inS 39 9
abbrev sC_getitem : Stmt := inS 39 10
abbrev sC_len : Stmt := inS 39 11
abbrev sC_eq : Stmt := inS 39 12
abbrev sC_repr : Stmt := inS 39 13
abbrev sC_iter : Stmt := inS 39 14
/-! ### heaps -/
/-- all stands that stood, but perhaps p -/
def But (p : Addr) (H H' : Hp) : Prop := ∀ b o, b ≠ p → H b = some o → H' b = some o
theorem But.rfl {p : Addr} {H : Hp} : But p H H := fun _ _ _ e => e
theorem But.trans {p : Addr} {H1 H2 H3 : Hp} (a : But p H1 H2) (b : But p H2 H3) : But p H1 H3 := fun x o n e => b x o n (a x o n e)
theorem But.upd {p : Addr} {H : Hp} {o : HO} : But p H (upd H p o) := fun b u n e => by rw [upd_ne n]; exact e
theorem But.new {p q : Addr} {H : Hp} {o : HO} (h : H q = none) : But p H (L2.upd H q o) := fun b u n e => by rw [upd_ne (ne_of_none e h)]; exact e
theorem Same.refl {H : Hp} : Same H H := fun _ _ e => e
theorem Same.new {q : Addr} {H : Hp} {o : HO} (h : H q = none) : Same H (L2.upd H q o) := fun b u e => by rw [upd_ne (ne_of_none e h)]; exact e
theorem But.same {p : Addr} {H H' : Hp} (h : Same H H') : But p H H' := fun b o _ e => h b o e
/-- the pot that is drawn from -/
def PotAt (H : Hp) (p : Addr) : Prop := ∃ x y : Int, H p = some (.lst [.int x, .int y]) ∧ 0 ≤ x ∧ 0 ≤ y ∧ y < 2147483648
theorem PotAt.same {H H' : Hp} {p : Addr} (h : PotAt H p) (s : Same H H') : PotAt H' p := by
  obtain ⟨x, y, e, h1, h2, h3⟩ := h
  exact ⟨x, y, s _ _ e, h1, h2, h3⟩
theorem PotAt.ne {H : Hp} {p q : Addr} (h : PotAt H p) (e : H q = none) : q ≠ p := fun z => by
  obtain ⟨x, y, f, _⟩ := h
  rw [z, f] at e; cases e
/-- all stands that stood, but perhaps p and the tables -/
def ButN (p : Addr) (H H' : Hp) : Prop := ∀ b o, b ≠ p → H b = some o → (∀ ps, o ≠ .tbl ps) → H' b = some o
theorem ButN.of {p : Addr} {H H' : Hp} (b : But p H H') : ButN p H H' := fun x o n e _ => b x o n e
theorem ButN.ext {p : Addr} {H H' : Hp} (b : LamX.ExtN H H') : ButN p H H' := fun x o _ e n => b x o e n
theorem ButN.trans {p : Addr} {H1 H2 H3 : Hp} (a : ButN p H1 H2) (b : ButN p H2 H3) : ButN p H1 H3 := fun x o n e t => b x o n (a x o n e t) t
theorem ButN.same {p : Addr} {H H' : Hp} (h : Same H H') : ButN p H H' := fun b o _ e _ => h b o e
theorem ExtN.same {H H' : Hp} (h : Same H H') : LamX.ExtN H H' := fun b o e _ => h b o e
theorem PotAt.extN {H H' : Hp} {p : Addr} (h : PotAt H p) (s : LamX.ExtN H H') : PotAt H' p := by
  obtain ⟨x, y, e, h1, h2, h3⟩ := h
  exact ⟨x, y, s _ _ e (fun ps z => by cases z), h1, h2, h3⟩
/-! ### what the top has written -/
structure Tx (K : PySem.W.Frag) (mg : Str → Option Value) (ad : Str → Addr) (fd : Str → FuncData) : Prop where
  m_isinstance : mg "isinstance" = none
  m_int : mg "int" = none
  m_bool : mg "bool" = none
  m_str : mg "str" = none
  m_all : mg "all" = none
  m_any : mg "any" = none
  m_len : mg "len" = none
  m_abs : mg "abs" = none
  m_max : mg "max" = none
  m_min : mg "min" = none
  m_divmod : mg "divmod" = none
  m_range : mg "range" = none
  m_repr : mg "repr" = none
  m_dict : mg "dict" = none
  m_list : mg "list" = none
  m_tuple : mg "tuple" = none
  m_enumerate : mg "enumerate" = none
  m_sum : mg "sum" = none
  m_ValueError : mg "ValueError" = none
  m_ArithmeticError : mg "ArithmeticError" = none
  sys : ∃ o, K.lookup sysModules = some o ∧ o.cls ≠ .type "list"
  g_MOST_IN_RATE : ∃ t, mg "MOST_IN_RATE" = some (.int 6 t)
  g_DIGITS : ∃ t, mg "DIGITS" = some (.str "123456" t)
  g_ALL_SIGNS : ∃ t, mg "ALL_SIGNS" = some (.str "abcd" t)
  g_MOST_IN_ROW : ∃ t, mg "MOST_IN_ROW" = some (.int 2000 t)
  g_MOST_IN_TEXT : ∃ t, mg "MOST_IN_TEXT" = some (.int 200 t)
  g_MOST_FOLLOWED : ∃ t, mg "MOST_FOLLOWED" = some (.int 64 t)
  F_is_integer : Fun K "is_integer" "is_integer" sIsInteger (ad "is_integer") (fd "is_integer")
  g_is_integer : mg "is_integer" = some (.ref (ad "is_integer"))
  b_is_integer : Binds K (fd "is_integer") ["value"] []
  F_is_between : Fun K "is_between" "is_between" sIsBetween (ad "is_between") (fd "is_between")
  g_is_between : mg "is_between" = some (.ref (ad "is_between"))
  b_is_between : Binds K (fd "is_between") ["value", "low", "high"] []
  F_is_row : Fun K "is_row" "is_row" sIsRow (ad "is_row") (fd "is_row")
  g_is_row : mg "is_row" = some (.ref (ad "is_row"))
  b_is_row : Binds K (fd "is_row") ["value"] []
  F_is_list : Fun K "is_list" "is_list" sIsList (ad "is_list") (fd "is_list")
  g_is_list : mg "is_list" = some (.ref (ad "is_list"))
  b_is_list : Binds K (fd "is_list") ["value"] []
  F_is_short_row : Fun K "is_short_row" "is_short_row" sIsShortRow (ad "is_short_row") (fd "is_short_row")
  g_is_short_row : mg "is_short_row" = some (.ref (ad "is_short_row"))
  b_is_short_row : Binds K (fd "is_short_row") ["value"] []
  F_check_row : Fun K "check_row" "check_row" sCheckRow (ad "check_row") (fd "check_row")
  g_check_row : mg "check_row" = some (.ref (ad "check_row"))
  b_check_row : Binds K (fd "check_row") ["row"] []
  F_check_state : Fun K "check_state" "check_state" sCheckState (ad "check_state") (fd "check_state")
  g_check_state : mg "check_state" = some (.ref (ad "check_state"))
  b_check_state : Binds K (fd "check_state") ["state", "size"] []
  F_is_text : Fun K "is_text" "is_text" sIsText (ad "is_text") (fd "is_text")
  g_is_text : mg "is_text" = some (.ref (ad "is_text"))
  b_is_text : Binds K (fd "is_text") ["value", "size"] []
  F_check_word : Fun K "check_word" "check_word" sCheckWord (ad "check_word") (fd "check_word")
  g_check_word : mg "check_word" = some (.ref (ad "check_word"))
  b_check_word : Binds K (fd "check_word") ["word", "size"] []
  F_check_text : FunD K "check_text" "check_text" (defArgs sCheckText) (defBody sCheckText) (defScope sCheckText) [.int 0, .int 200] [] (ad "check_text") (fd "check_text")
  g_check_text : mg "check_text" = some (.ref (ad "check_text"))
  F_is_block : Fun K "is_block" "is_block" sIsBlock (ad "is_block") (fd "is_block")
  g_is_block : mg "is_block" = some (.ref (ad "is_block"))
  b_is_block : Binds K (fd "is_block") ["value", "length"] []
  F_is_rate : Fun K "is_rate" "is_rate" sIsRate (ad "is_rate") (fd "is_rate")
  g_is_rate : mg "is_rate" = some (.ref (ad "is_rate"))
  b_is_rate : Binds K (fd "is_rate") ["value"] []
  F_multiple : Fun K "multiple" "multiple" sMultiple (ad "multiple") (fd "multiple")
  g_multiple : mg "multiple" = some (.ref (ad "multiple"))
  b_multiple : Binds K (fd "multiple") ["rate", "times"] []
  F_check_times : Fun K "check_times" "check_times" sCheckTimes (ad "check_times") (fd "check_times")
  g_check_times : mg "check_times" = some (.ref (ad "check_times"))
  b_check_times : Binds K (fd "check_times") ["times"] []
  F_check_rate : Fun K "check_rate" "check_rate" sCheckRate (ad "check_rate") (fd "check_rate")
  g_check_rate : mg "check_rate" = some (.ref (ad "check_rate"))
  b_check_rate : Binds K (fd "check_rate") ["rate"] []
  F_kept_codes : Fun K "kept_codes" "kept_codes" sKeptCodes (ad "kept_codes") (fd "kept_codes")
  g_kept_codes : mg "kept_codes" = some (.ref (ad "kept_codes"))
  b_kept_codes : Binds K (fd "kept_codes") ["codes"] []
  F_is_entry : Fun K "is_entry" "is_entry" sIsEntry (ad "is_entry") (fd "is_entry")
  g_is_entry : mg "is_entry" = some (.ref (ad "is_entry"))
  b_is_entry : Binds K (fd "is_entry") ["value", "length", "size"] []
  F_check_codes : Fun K "check_codes" "check_codes" sCheckCodes (ad "check_codes") (fd "check_codes")
  g_check_codes : mg "check_codes" = some (.ref (ad "check_codes"))
  b_check_codes : Binds K (fd "check_codes") ["codes", "rate"] []
  F_check_coder : Fun K "check_coder" "check_coder" sCheckCoder (ad "check_coder") (fd "check_coder")
  g_check_coder : mg "check_coder" = some (.ref (ad "check_coder"))
  b_check_coder : Binds K (fd "check_coder") ["coder"] []
  F_check_states : Fun K "check_states" "check_states" sCheckStates (ad "check_states") (fd "check_states")
  g_check_states : mg "check_states" = some (.ref (ad "check_states"))
  b_check_states : Binds K (fd "check_states") ["coder"] []
  F_groups_of : Fun K "groups_of" "groups_of" sGroupsOf (ad "groups_of") (fd "groups_of")
  g_groups_of : mg "groups_of" = some (.ref (ad "groups_of"))
  b_groups_of : Binds K (fd "groups_of") ["coder"] []
  F_twin_steps : Fun K "twin_steps" "twin_steps" sTwinSteps (ad "twin_steps") (fd "twin_steps")
  g_twin_steps : mg "twin_steps" = some (.ref (ad "twin_steps"))
  b_twin_steps : Binds K (fd "twin_steps") ["groups", "pair"] []
  F_word_pair : Fun K "word_pair" "word_pair" sWordPair (ad "word_pair") (fd "word_pair")
  g_word_pair : mg "word_pair" = some (.ref (ad "word_pair"))
  b_word_pair : Binds K (fd "word_pair") ["words", "others"] []
  F_clash : Fun K "clash" "clash" sClash (ad "clash") (fd "clash")
  g_clash : mg "clash" = some (.ref (ad "clash"))
  b_clash : Binds K (fd "clash") ["coder"] []
  F_is_clash : Fun K "is_clash" "is_clash" sIsClash (ad "is_clash") (fd "is_clash")
  g_is_clash : mg "is_clash" = some (.ref (ad "is_clash"))
  b_is_clash : Binds K (fd "is_clash") ["coder", "value"] []
  F_texts_to : Fun K "texts_to" "texts_to" sTextsTo (ad "texts_to") (fd "texts_to")
  g_texts_to : mg "texts_to" = some (.ref (ad "texts_to"))
  b_texts_to : Binds K (fd "texts_to") ["met", "pair", "words"] []
  F__law_pot : Fun K "_law_pot" "_law_pot" sPot (ad "_law_pot") (fd "_law_pot")
  g__law_pot : mg "_law_pot" = some (.ref (ad "_law_pot"))
  b__law_pot : Binds K (fd "_law_pot") ["_law_script", "_law_k"] []
  F__law_draw : Fun K "_law_draw" "_law_draw" sDraw (ad "_law_draw") (fd "_law_draw")
  g__law_draw : mg "_law_draw" = some (.ref (ad "_law_draw"))
  b__law_draw : Binds K (fd "_law_draw") ["_law_pot_here", "_law_size"] []
  F__law_pick : Fun K "_law_pick" "_law_pick" sPick (ad "_law_pick") (fd "_law_pick")
  g__law_pick : mg "_law_pick" = some (.ref (ad "_law_pick"))
  b__law_pick : Binds K (fd "_law_pick") ["_law_pot_here", "_law_some"] []
  F__law_codes : Fun K "_law_codes" "_law_codes" sCodes (ad "_law_codes") (fd "_law_codes")
  g__law_codes : mg "_law_codes" = some (.ref (ad "_law_codes"))
  b__law_codes : Binds K (fd "_law_codes") ["_law_pot_here", "_law_size", "_law_length", "_law_states", "_law_letters"] []
  F__law_kept : Fun K "_law_kept" "_law_kept" sKept (ad "_law_kept") (fd "_law_kept")
  g__law_kept : mg "_law_kept" = some (.ref (ad "_law_kept"))
  b__law_kept : Binds K (fd "_law_kept") ["_law_codes_here"] []
  F__law_run : Fun K "_law_run" "_law_run" sRun (ad "_law_run") (fd "_law_run")
  g__law_run : mg "_law_run" = some (.ref (ad "_law_run"))
  b__law_run : Binds K (fd "_law_run") ["_law_codes_here", "_law_lead_word", "_law_text_here"] []
  F__law_is_text : Fun K "_law_is_text" "_law_is_text" sLawIsText (ad "_law_is_text") (fd "_law_is_text")
  g__law_is_text : mg "_law_is_text" = some (.ref (ad "_law_is_text"))
  b__law_is_text : Binds K (fd "_law_is_text") ["_law_thing", "_law_size"] []
  F__law_judged : Fun K "_law_judged" "_law_judged" sJudged (ad "_law_judged") (fd "_law_judged")
  g__law_judged : mg "_law_judged" = some (.ref (ad "_law_judged"))
  b__law_judged : Binds K (fd "_law_judged") ["_law_codes_here", "_law_size", "_law_thing"] []
  F__law_text : Fun K "_law_text" "_law_text" sText (ad "_law_text") (fd "_law_text")
  g__law_text : mg "_law_text" = some (.ref (ad "_law_text"))
  b__law_text : Binds K (fd "_law_text") ["_law_pot_here", "_law_size", "_law_most"] []
  F__law_odd : Fun K "_law_odd" "_law_odd" sOdd (ad "_law_odd") (fd "_law_odd")
  g__law_odd : mg "_law_odd" = some (.ref (ad "_law_odd"))
  b__law_odd : Binds K (fd "_law_odd") ["_law_pot_here", "_law_size", "_law_text_here"] []
  F__law_near : Fun K "_law_near" "_law_near" sNear (ad "_law_near") (fd "_law_near")
  g__law_near : mg "_law_near" = some (.ref (ad "_law_near"))
  b__law_near : Binds K (fd "_law_near") ["_law_pot_here", "_law_made", "_law_size"] []
  F__law_right : Fun K "_law_right" "_law_right" sRight (ad "_law_right") (fd "_law_right")
  g__law_right : mg "_law_right" = some (.ref (ad "_law_right"))
  b__law_right : Binds K (fd "_law_right") ["_law_pot_here"] []
  F_law : Fun K "law" "law" sLaw (ad "law") (fd "law")
  g_law : mg "law" = some (.ref (ad "law"))
  b_law : Binds K (fd "law") ["_law_script"] []
end K82
end

section
set_option maxHeartbeats 4000000
/-! defs that call repr: the same promises as FnOk, where it is known that no repr is under way -/
namespace K82
open PySem PySem.Spec PyProof.Rows L2
structure RoomG (k : Nat) (A : Around) : Prop where
  rm : Room k A
  gd : A.guards = some []
theorem RoomG.mono {j k : Nat} {A : Around} (r : RoomG k A) (h : j ≤ k) : RoomG j A := ⟨r.rm.mono h, r.gd⟩
theorem RoomG.deeper {k : Nat} {A : Around} (r : RoomG (k + 1) A) (env : Env) : RoomG k (A.deeper env) := ⟨r.rm.deeper env, r.gd⟩
structure FnG (P : Program) (w : World) (K : PySem.W.Frag) (mg : Str → Option Value) (base : Heap) (k : Nat) (f : Addr) (fd : FuncData) (ps : List Str) (sp : Sp) : Prop where
  len : ∀ vs H Q E, sp vs H Q E → vs.length = ps.length
  run : ∀ (A : Around) (outer : List Env) (s : Shared) (H : Hp) (args : Args) (us : List Value) (vs : List V) (Q : VK) (E : XK), RoomG k A → Env0 P w K mg base A outer s H → BindsTo s fd args (ps.zip us) → Vals vs us → sp vs H Q E →
    codeAny (model P w) A (.call (.ref f) args) (CR CX0 outer P w H s Q E) s
section
variable {P : Program} {w : World} {K : PySem.W.Frag} {mg : Str → Option Value} {base : Heap}
theorem fnG_body {x qual : Str} {st : Stmt} {f : Addr} {fd : FuncData} {N ps : List Str} {k : Nat} {sp : Sp} (F : Fun K x qual st f fd) (S : FnScope N ps (defScope st)) (ln : ∀ vs H Q E, sp vs H Q E → vs.length = ps.length)
    (hb0 : ∀ (cdv : Value) (A : Around) (outer : List Env) (s : Shared) (H : Hp) (vs : List V) (Q : VK) (E : XK), RoomG k (A.deeper (envOfC qual (defScope st) s.heap.objs.size f cdv)) → sp vs H Q E →
      ∃ t, PSs (cxOf CX0 P w K mg base N qual (defScope st) f cdv A outer s H E).nox (defBody st) t ∧ t { nx := fun _ H' => Q .non H', rt := Q } (start N vs) H) : FnG P w K mg base (k + 1) f fd ps sp where
  len := ln
  run A outer s H args us vs Q E hr e0 hbd rv hs := by
    obtain ⟨oc, od, kV, doc, pm, an, cdv, ct, osl, rfl, lk, hcd⟩ := F.ex
    have old := fun b o (e : base.get? b = some o) => (e0.bs b o e).1
    have inK : K.In s.heap := e0.mod.kin.keeps old
    have hkn : ∀ q ∈ ps.zip us, (defScope st).names.lookup q.1 = some .local ∨ ((defScope st).names.lookup q.1 = some .cell ∧ ((cellsFrom (s.heap.objs.size + 1) (defScope st).names []).lookup q.1).isSome = true) := by
      rintro ⟨n, v⟩ hq
      exact (S.par n (List.of_mem_zip hq).1).elim .inl fun c => .inr ⟨c, PySem.W.cellsFrom_some _ _ _ (.inl c)⟩
    have body : ∀ s1 : Shared, InCallC s s.heap.objs.size (bindL (envOfC qual (defScope st) s.heap.objs.size f cdv).kindOf (ps.zip us) fun _ => none) (cellsFrom (s.heap.objs.size + 1) (defScope st).names []) (bindC (envOfC qual (defScope st) s.heap.objs.size f cdv).kindOf (ps.zip us) fun _ => none) s1 →
        wpAny (model P w) (A.deeper (envOfC qual (defScope st) s.heap.objs.size f cdv)) (execs (defBody st) (envOfC qual (defScope st) s.heap.objs.size f cdv)) (fun fl s' => match fl with | .next => CE outer P w H s Q Value.none s' | .ret u => CE outer P w H s Q u s' | _ => False) (cxOf CX0 P w K mg base N qual (defScope st) f cdv A outer s H E).xe s1 := by
      intro s1 hx
      obtain ⟨t, ht, hq⟩ := hb0 cdv A outer s H vs Q E (hr.deeper _) hs
      have J := inv_start (CX := CX0) (E := E) S hr.rm.hd e0 (ln _ _ _ _ hs) rv hx
      refine wpAny_mono (ht.nox.run [] s1 (start N vs) H _ J hq) (fun fl s' hf => ?_) (fun e s' hf => hf)
      match fl, hf with
      | .next, ⟨σ', H', I', q⟩ => exact ⟨.non, H', I'.os, I'.bare, I'.base, I'.hok, rfl, q⟩
      | .ret u, ⟨v, σ', H', I', r', q⟩ => exact ⟨v, H', I'.os, I'.bare, I'.base, I'.hok, r', q⟩
      | .brk, ⟨_, _, _, q⟩ => exact (show False from q).elim
      | .cont, ⟨_, _, _, q⟩ => exact (show False from q).elim
    refine codeAny_call_function hr.rm.depth (inK _ _ lk) rfl S.co S.gen rfl (PySem.W.codeRec_of inK hcd) (hbd _ _ _ _ ?_)
    refine wpAny_newFunctionEnv_cells S.kind hkn fun env he s1 hx => ?_
    subst he
    refine ⟨(e0.mod.nolimit.keeps old).keeps hx.toInCall.keep, codeAny_func ?_⟩
    refine wpAny_mono (body s1 hx) (fun fl s' hf => ?_) (fun e s' hf => hf)
    cases fl with
    | ret u => exact hf
    | next => exact hf
    | brk => exact (show False from hf).elim
    | cont => exact (show False from hf).elim
theorem FnG.of {k : Nat} {f : Addr} {fd : FuncData} {ps : List Str} {sp : Sp} (F : FnOk P w K mg base CX0 k f fd ps sp) : FnG P w K mg base k f fd ps sp := ⟨F.len, fun A o s H a us vs Q E r => F.run A o s H a us vs Q E r.rm⟩
end
section
variable {X : Cx} {k : Nat} {f : Addr} {fd : FuncData} {ps : List Str} {sp : Sp} {E : XK} {x : Str} {p pos : Pos} {e : Expr} {es : List Expr} {t : TA}
theorem run_g {pins : List (Addr × Obj)} {σ : L2.St} {H : Hp} {s : Shared} {Q : VK} {us : List Value} {vs : List V} (F : FnG X.prog X.w X.K X.mg X.base k f fd ps sp) (hr : RoomG k X.A) (hb : Binds X.K fd ps [])
    (I : Inv X pins σ H s) (r : Vals vs us) (h : sp vs H Q E) : wpAny (model X.prog X.w) X.A (call (.ref f) us) (EP X pins σ Q) X.xe s := by
  have hl : us.length = ps.length := r.length.symm.trans (F.len _ _ _ _ h)
  have hb' := hb s us I.kIn (by rw [List.append_nil]; exact hl)
  rw [List.append_nil] at hb'
  refine wpAny_call (codeAny_mono (F.run X.A X.stack s H ⟨us, []⟩ us vs Q E hr I.env0 hb' r h) ?_)
  intro res s' hq
  match res, hq with
  | .ok (.ret u), hq => exact I.after hq
theorem pe_callG (F : FnG X.prog X.w X.K X.mg X.base k f fd ps sp) (hr : RoomG k X.A) (hg : Gl X x) (hm : X.mg x = some (.ref f)) (hk : PySem.W.keepIn X.K (.ref f) = true) (hb : Binds X.K fd ps [])
    (ha : PA X (e :: es) t) (hdb : (x == ("__debug__" : Str)) = false := by decide) (he : starEach (e :: es) X.env = (false, eval e X.env) :: starEach es X.env := by rfl) (hpl : (backTo pos (starEach es X.env)).any (·.1) = false := by rfl) :
    PE X (.Call (.Name x p) (e :: es) [] pos) (tCall sp [] E t) :=
  ⟨fun pins s σ H Q I h => wpAny_Call_Name_kw (ld_glob I hg hm (PySem.W.callWith_K (h₀ := X.base) I.ok.mod.kin hk (thn (ha.run pos pins s σ H _ I h) fun us s1 ⟨vs, H1, I1, r, q⟩ => ⟨I1.kIn, run_g (E := E) F hr hb I1 r (by have q' : sp (vs ++ []) H1 Q E := q; rw [List.append_nil] at q'; exact q')⟩) he hpl) hdb)⟩
end
end K82
end

section
set_option maxHeartbeats 4000000
/-! repr of data -/
namespace K82
open PySem PySem.Spec PyProof.Rows L2
def keyD : Key → PyData
  | .inl i => .int i
  | .inr x => .str x
mutual
/-- the value v reads as the data d -/
inductive Dx (H : Hp) : V → PyData → Prop
  | non : Dx H .non .none
  | bl (b : Bool) : Dx H (.bl b) (.bool b)
  | int (i : Int) : Dx H (.int i) (.int i)
  | str (x : Str) : Dx H (.str x) (.str x)
  | lst {a : Addr} {xs : List V} {ds : List PyData} : H a = some (.lst xs) → DxAll H xs ds → Dx H (.ref a) (.list ds)
  | tup {a : Addr} {xs : List V} {ds : List PyData} : H a = some (.tup xs) → DxAll H xs ds → Dx H (.ref a) (.tuple ds)
  | dic {a : Addr} {kvs : List (Key × V)} {ds : List PyData} : H a = some (.dK kvs) → DxAll H (kvs.map (·.2)) ds → Dx H (.ref a) (.dict ((kvs.map fun p => keyD p.1).zip ds))
inductive DxAll (H : Hp) : List V → List PyData → Prop
  | nil : DxAll H [] []
  | cons {v : V} {vs : List V} {d : PyData} {ds : List PyData} : Dx H v d → DxAll H vs ds → DxAll H (v :: vs) (d :: ds)
end
theorem DxAll.length {H : Hp} : ∀ {vs : List V} {ds : List PyData}, DxAll H vs ds → vs.length = ds.length
  | _, _, .nil => rfl
  | _, _, .cons _ t => by rw [List.length_cons, List.length_cons, t.length]
mutual
theorem Dx.same {H H' : Hp} (s : Same H H') : ∀ {v : V} {d : PyData}, Dx H v d → Dx H' v d
  | _, _, .non => .non
  | _, _, .bl b => .bl b
  | _, _, .int i => .int i
  | _, _, .str x => .str x
  | _, _, .lst e h => .lst (s _ _ e) (DxAll.same s h)
  | _, _, .tup e h => .tup (s _ _ e) (DxAll.same s h)
  | _, _, .dic e h => .dic (s _ _ e) (DxAll.same s h)
theorem DxAll.same {H H' : Hp} (s : Same H H') : ∀ {vs : List V} {ds : List PyData}, DxAll H vs ds → DxAll H' vs ds
  | _, _, .nil => .nil
  | _, _, .cons a b => .cons (Dx.same s a) (DxAll.same s b)
end
/-- what stands at an address is no dict of sys.modules -/
def Apart (h : Heap) (as : List Addr) : Prop := ∀ a ∈ as, (∃ o, h.get? a = some o ∧ o.cls = .type "list") ∨ (a == sysModules) = false
theorem Apart.nil {h : Heap} : Apart h [] := fun _ z => nomatch z
theorem Apart.app {h : Heap} {as bs : List Addr} (x : Apart h as) (y : Apart h bs) : Apart h (as ++ bs) := fun a z => (List.mem_append.mp z).elim (x a) (y a)
theorem Apart.cons {h : Heap} {a : Addr} {as : List Addr} (x : (∃ o, h.get? a = some o ∧ o.cls = .type "list") ∨ (a == sysModules) = false) (y : Apart h as) : Apart h (a :: as) := fun b z => (List.mem_cons.mp z).elim (fun e => by rw [e]; exact x) (y b)
theorem map_zip_fst {α β : Type} : ∀ (xs : List α) (ys : List β), xs.length = ys.length → (xs.zip ys).map (·.1) = xs
  | [], _, _ => rfl
  | x :: xs, [], h => by cases h
  | x :: xs, y :: ys, h => by rw [List.zip_cons_cons, List.map_cons, map_zip_fst xs ys (by simpa using h)]
theorem map_zip_snd {α β : Type} : ∀ (xs : List α) (ys : List β), xs.length = ys.length → (xs.zip ys).map (·.2) = ys
  | [], [], _ => rfl
  | [], _ :: _, h => by cases h
  | x :: xs, [], h => by cases h
  | x :: xs, y :: ys, h => by rw [List.zip_cons_cons, List.map_cons, map_zip_snd xs ys (by simpa using h)]
theorem key_reads {h : Heap} {P : Program} {w : World} {k : Key} {v : Value} (e : (mixKind P w).is k v = true) : Reads h v (keyD k) [] := by
  rcases keyIs_shape e with ⟨i, t, rfl, rfl⟩ | ⟨x, t, rfl, rfl⟩
  · exact .int i t
  · exact .str x t
theorem keys_read {h : Heap} {P : Program} {w : World} : ∀ {es : List DictEntry} {vs : List (Key × Value)}, Pairs (mixKind P w) es vs → ReadsAll h (es.map (·.key)) (vs.map fun p => keyD p.1) []
  | _, _, .nil => .nil
  | _, _, .cons a b c => .cons (as := []) (bs := []) (key_reads a) (keys_read c)
theorem vals_eq {P : Program} {w : World} : ∀ {es : List DictEntry} {vs : List (Key × Value)}, Pairs (mixKind P w) es vs → es.map (·.val) = vs.map (·.2)
  | _, _, .nil => rfl
  | _, _, .cons a b c => by rw [List.map_cons, List.map_cons, b, vals_eq c]
theorem kv_fst : ∀ {kvs : List (Key × V)} {vs : List (Key × Value)}, KV kvs vs → kvs.map (fun p => keyD p.1) = vs.map fun p => keyD p.1
  | _, _, .nil => rfl
  | _, _, .cons a c => by rw [List.map_cons, List.map_cons, a.1, kv_fst c]
theorem kv_snd : ∀ {kvs : List (Key × V)} {vs : List (Key × Value)}, KV kvs vs → Vals (kvs.map (·.2)) (vs.map (·.2))
  | _, _, .nil => .nil
  | _, _, .cons a c => .cons a.2 (kv_snd c)
section
variable {X : Cx} {pins : List (Addr × Obj)} {σ : L2.St} {H : Hp} {s : Shared}
mutual
theorem Dx.reads (I : L2.Inv X pins σ H s) : ∀ {v : V} {d : PyData} {u : Value}, Dx H v d → RelV v u → ∃ as, Reads s.heap u d as ∧ Apart s.heap as
  | _, _, _, .non, r => by cases r; exact ⟨_, .none, .nil⟩
  | _, _, _, .bl b, r => by cases r; exact ⟨_, .bool b, .nil⟩
  | _, _, _, .int i, r => by obtain ⟨t, rfl⟩ := r; exact ⟨_, .int i t, .nil⟩
  | _, _, _, .str x, r => by obtain ⟨t, rfl⟩ := r; exact ⟨_, .str x t, .nil⟩
  | _, _, _, .lst (a := a) e h, r => by
    cases r
    obtain ⟨_, its, n, rv, ho⟩ := (show ObjOk X.prog X.w H s.heap a (.lst _) from I.hok a _ e)
    obtain ⟨as, hr, ap⟩ := DxAll.reads I h rv
    exact ⟨_, .list ho rfl rfl (by rw [List.toList_toArray]; exact hr), .cons (.inl ⟨_, ho, rfl⟩) ap⟩
  | _, _, _, .tup (a := a) e h, r => by
    cases r
    obtain ⟨_, its, rv, o, ho, hc, n, hd⟩ := (show ObjOk X.prog X.w H s.heap a (.tup _) from I.hok a _ e)
    obtain ⟨as, hr, ap⟩ := DxAll.reads I h rv
    exact ⟨_, .tuple ho hc hd (by rw [List.toList_toArray]; exact hr), ap⟩
  | _, _, _, .dic (a := a) (kvs := kvs) (ds := ds) e h, r => by
    cases r
    obtain ⟨_, hy, vs, kv, o, es, ep, ho, hc, hd, _, ps, _⟩ := (show ObjOk X.prog X.w H s.heap a (.dK _) from I.hok a _ e)
    obtain ⟨bs, hr, ap⟩ := DxAll.reads I h (kv_snd kv)
    have el : (kvs.map fun p => keyD p.1).length = ds.length := by rw [List.length_map, ← h.length, List.length_map]
    refine ⟨_, .dict ho hc.1 hd (as := []) (bs := bs) ?_ ?_, ?_⟩
    · rw [map_zip_fst _ _ el, kv_fst kv]
      exact keys_read ps
    · rw [map_zip_snd _ _ el, vals_eq ps]
      exact hr
    · exact Apart.cons (.inr hy) ap
theorem DxAll.reads (I : L2.Inv X pins σ H s) : ∀ {vs : List V} {ds : List PyData} {us : List Value}, DxAll H vs ds → Vals vs us → ∃ as, ReadsAll s.heap us ds as ∧ Apart s.heap as
  | _, _, _, .nil, r => by cases r; exact ⟨_, .nil, .nil⟩
  | _, _, _, .cons a b, r => by
    cases r with
    | cons r1 r2 =>
      obtain ⟨as, q1, p1⟩ := Dx.reads I a r1
      obtain ⟨bs, q2, p2⟩ := DxAll.reads I b r2
      exact ⟨_, .cons q1 q2, p1.app p2⟩
end
/-- repr(x), x an object that reads as data -/
def rRepr : List V → Hp → VK → Prop := fun xs H Q => ∃ (a : Addr) (d : PyData), xs = [.ref a] ∧ Dx H (.ref a) d ∧ d.showable = true ∧ d.depth ≤ 40 ∧ d.shown.length ≤ sizeLine ∧ Q (.str d.shown) H
theorem call_repr {X : Cx} (hg : X.A.guards = some []) (hu : X.A.units + 64 < cLine) (hs : ∃ o, X.K.lookup sysModules = some o ∧ o.cls ≠ .type "list") : CallR X (.builtin "repr") rRepr := by
  intro pins s σ H xs us Q I r h
  obtain ⟨a, d, rfl, hd, sh, dp, sz, q⟩ := h
  cases r with
  | cons r0 rr =>
    cases rr
    rename_i u
    have eu : u = Value.ref a := r0
    subst eu
    obtain ⟨as, rd, ap⟩ := Dx.reads I hd r0
    refine repr_of_reads' rd sh (fun _ hm => ?_) hg (by omega) (fun b o e => e) (fun h' u tk k => ⟨.str d.shown, H, I.kept (t' := tk) k, ⟨u, rfl⟩, q⟩) sz
    rcases ap _ hm with ⟨o, ho, hc⟩ | z
    · obtain ⟨o2, e2, n2⟩ := hs
      have z := (I.kIn _ _ e2).symm.trans ho
      cases z
      exact n2 hc
    · simp at z
end
end K82
end

section
set_option maxHeartbeats 4000000
/-! what kind of value it is -/
namespace K82
open PySem PySem.Spec PyProof.Rows L2
def tyN : PyData → String
  | .none => "NoneType"
  | .bool _ => "bool"
  | .int _ => "int"
  | .str _ => "str"
  | .list _ => "list"
  | .tuple _ => "tuple"
  | .dict _ => "dict"
theorem dx_ty {K : PySem.W.Frag} {H : Hp} {v : V} {d : PyData} (h : Dx H v d) : TyX K H v (.type (tyN d)) := by
  cases h with
  | non => exact .base .non
  | bl b => exact .base (.bl b)
  | int i => exact .base (.int i)
  | str x => exact .base (.str x)
  | lst e _ => exact .base (.lst e)
  | tup e _ => exact .base (.tup e)
  | dic e _ => exact .base (.dK e)
def isI : PyData → Bool
  | .int _ => true
  | .bool _ => true
  | _ => false
def isB : PyData → Bool
  | .bool _ => true
  | _ => false
def isS : PyData → Bool
  | .str _ => true
  | _ => false
theorem kit_i (d : PyData) : kitB (tyN d) "int" = some (isI d) :=
  match d with
  | .none => (by decide +kernel : kitB "NoneType" "int" = some false)
  | .bool _ => (by decide +kernel : kitB "bool" "int" = some true)
  | .int _ => (by decide +kernel : kitB "int" "int" = some true)
  | .str _ => (by decide +kernel : kitB "str" "int" = some false)
  | .list _ => (by decide +kernel : kitB "list" "int" = some false)
  | .tuple _ => (by decide +kernel : kitB "tuple" "int" = some false)
  | .dict _ => (by decide +kernel : kitB "dict" "int" = some false)
theorem kit_b (d : PyData) : kitB (tyN d) "bool" = some (isB d) :=
  match d with
  | .none => (by decide +kernel : kitB "NoneType" "bool" = some false)
  | .bool _ => (by decide +kernel : kitB "bool" "bool" = some true)
  | .int _ => (by decide +kernel : kitB "int" "bool" = some false)
  | .str _ => (by decide +kernel : kitB "str" "bool" = some false)
  | .list _ => (by decide +kernel : kitB "list" "bool" = some false)
  | .tuple _ => (by decide +kernel : kitB "tuple" "bool" = some false)
  | .dict _ => (by decide +kernel : kitB "dict" "bool" = some false)
theorem kit_s (d : PyData) : kitB (tyN d) "str" = some (isS d) :=
  match d with
  | .none => (by decide +kernel : kitB "NoneType" "str" = some false)
  | .bool _ => (by decide +kernel : kitB "bool" "str" = some false)
  | .int _ => (by decide +kernel : kitB "int" "str" = some false)
  | .str _ => (by decide +kernel : kitB "str" "str" = some true)
  | .list _ => (by decide +kernel : kitB "list" "str" = some false)
  | .tuple _ => (by decide +kernel : kitB "tuple" "str" = some false)
  | .dict _ => (by decide +kernel : kitB "dict" "str" = some false)
/-- a whole number; a count; a text of signs -/
def wholeD : PyData → Bool := fun d => isI d && !isB d
def countD : PyData → Bool
  | .int i => decide (0 ≤ i)
  | _ => false
def sgn (c : Nat) : Bool := decide (c ∈ (PySem.Str.ofString "abcd").cps.toList)
def wordD : PyData → Bool
  | .str z => z.cps.toList.all sgn
  | _ => false
/-- what is asked of a thing -/
structure Tame (d : PyData) : Prop where
  len : ∀ z, d = .str z → z.length ≤ 5000 ∧ ∀ c ∈ z.cps.toList, c < 1114112
  sh : d.showable = true
  dp : d.depth ≤ 10
  sz : d.shown.length ≤ 60000
def spB (f : PyData → Bool) : Sp := fun vs H Q _ => ∃ (v : V) (d : PyData), vs = [v] ∧ Dx H v d ∧ Tame d ∧ ∀ H', Same H H' → Q (.bl (f d)) H'
theorem take_snoc {α : Type} {l : List α} {i : Nat} {x : α} (h : l[i]? = some x) : l.take (i + 1) = l.take i ++ [x] := by
  rw [List.take_add_one, h]; rfl
end K82
end

section
set_option maxHeartbeats 4000000
/-! own exceptions: isinstance, fields, as values -/
namespace K82
open PySem PySem.Spec PyProof.Rows L2
section
open PySem.W PySem.Calls
variable {prog : Program} {w : World} {A : Around} {E : Value → Shared → Prop} {s : Shared} {K : Frag} {x D : Addr} {ox : Obj} {od : Option Obj}
/-- what the class D says of its instances -/
structure EC (K : Frag) (D : Addr) : Prop where
  ga : findIn K (.ref D) "__getattribute__" = some (some (.builtin "BaseException.__getattribute__"))
  gg : findIn K (.ref D) "__getattr__" = some none
  be : subIn K (.ref D) (.type "BaseException") = some true
  hd : hasDictIn K D = true
  cl : findIn K (.ref D) "__class__" = some (some (.builtin "object.__class__"))
  gt : specialIn K (.builtin "object.__class__") "__get__" = some (some (.builtin "getset_descriptor.__get__"))
  tk : takesIn K (.builtin "object.__class__") = some true
  ob : mroIn K D (.type "object") = some true
theorem EC.is (F : EC K D) : (clsIn K D).isSome = true := by
  obtain ⟨cd, h, _⟩ := any_some F.hd
  rw [h]; rfl
theorem EC.kit (F : EC K D) : KitX K (.ref x) (.ref D) (fun h => InstAt h x ox D od) := kitx_exc F.is F.ga F.gg F.be F.cl F.gt F.tk F.ob
end
end K82
end

section
set_option maxHeartbeats 4000000
/-! own exceptions made by keywords, over any base -/
namespace K82
open PySem PySem.Spec PyProof.Rows L2
/-- own classes, then the base's own row -/
def refsTo (tail : List Value) : List Value → Bool
  | .ref _ :: r => refsTo tail r
  | l => l == tail
theorem refsTo_cases {tail : List Value} : ∀ l : List Value, refsTo tail l = true → (∃ c r, l = .ref c :: r ∧ refsTo tail r = true) ∨ l = tail := by
  intro l h
  match l, h with
  | [], h => exact .inr (beq_iff_eq.mp h)
  | .ref c :: r, h => exact .inl ⟨c, r, rfl, h⟩
  | .none :: _, h => exact .inr (beq_iff_eq.mp h)
  | .ellipsis :: _, h => exact .inr (beq_iff_eq.mp h)
  | .notImplemented :: _, h => exact .inr (beq_iff_eq.mp h)
  | .bool _ :: _, h => exact .inr (beq_iff_eq.mp h)
  | .int _ _ :: _, h => exact .inr (beq_iff_eq.mp h)
  | .float _ _ :: _, h => exact .inr (beq_iff_eq.mp h)
  | .str _ _ :: _, h => exact .inr (beq_iff_eq.mp h)
  | .bytes _ _ :: _, h => exact .inr (beq_iff_eq.mp h)
  | .type _ :: _, h => exact .inr (beq_iff_eq.mp h)
  | .builtin _ :: _, h => exact .inr (beq_iff_eq.mp h)
theorem refsTo_has {tail : List Value} (X : String) : ∀ l : List Value, refsTo tail l = true → l.contains (.type X) = tail.contains (.type X) := by
  intro l
  induction l with
  | nil => intro h; rw [show ([] : List Value) = tail from beq_iff_eq.mp h]
  | cons a r ih =>
    intro h
    rcases refsTo_cases (a :: r) h with ⟨c, r', e, h2⟩ | e
    · obtain ⟨rfl, rfl⟩ := List.cons.inj e
      rw [List.contains_cons, ih h2]; rfl
    · rw [e]
theorem refsTo_pass {tail : List Value} (self : Value) (hp : refuseLoop self "__setattr__" tail = pure ()) : ∀ l : List Value, refsTo tail l = true → refuseLoop self "__setattr__" l = pure () := by
  intro l
  induction l with
  | nil => intro h; rw [show ([] : List Value) = tail from beq_iff_eq.mp h]; exact hp
  | cons a r ih =>
    intro h
    rcases refsTo_cases (a :: r) h with ⟨c, r', e, h2⟩ | e
    · obtain ⟨rfl, rfl⟩ := List.cons.inj e
      rw [refuseLoop_ref]; exact ih h2
    · rw [e]; exact hp
section
open PySem.HandSPX
variable {M : Model} {prog : Program} {w : World} {A : Around} {E : Value → Shared → Prop} {R : Result → Shared → Prop} {h : Heap} {g : Array GenState} {d : Drawn} {t : Nat} {os : OsState}
variable {nm q : Str} {C N : Addr} {bs bm bmB : List Value} {hdct : Bool} {sn : List Str} {sub : List Value} {ab : Bool} {col : Option Bool} {dd : Option Addr} {k0 k1 k2 k3 k5 : Option Value} {B newId initId : String} {rest : List Value} {kw : List (Str × Value)}
theorem kw_check_new (F : ExcBaseFacts B newId initId bmB) (same : ∀ X : String, bm.contains (.type X) = bmB.contains (.type X)) {Q : Unit → Shared → Prop} (at_C : h.get? C = some (excClassObj nm q C N bs bm hdct sn sub ab col dd k0 k1 k2 k3 k5 newId)) (ok : Q () ⟨h, g, d, t, os⟩) :
    wpAny M A (checkBuiltinCall newId ⟨.ref C :: rest, kw⟩) Q E ⟨h, g, d, t, os⟩ := by
  have has : (Value.ref C :: bm).contains (.type B) = true := by rw [List.contains_cons, same, F.hasB, Bool.or_true]
  have ns := F.noStar
  simp only [checkBuiltinCall, F.newKind, F.newSplit, F.newRow]
  repeat (first | refine wpAny_loadPart_at at_C ?_ | (refine wpAny_isSubtype_exc at_C ?_; rw [has]) | refine wpAny_staticBase_exc at_C ?_ | refine wpAny_madeBy_exc at_C ?_ | simp only [bne_self_eq_false, Bool.false_eq_true, if_false] | wp_step)
  exact ok
/-- the object that is born: of the class C, its arguments a new tuple -/
theorem kw_born (F : ExcBaseFacts B newId initId bmB) (same : ∀ X : String, bm.contains (.type X) = bmB.contains (.type X)) (at_C : h.get? C = some (excClassObj nm q C N bs bm hdct sn sub ab col dd k0 k1 k2 k3 k5 newId)) (small : rest.length ≤ sizeLine)
    (ok : R (.ok (.ret (.ref (h.objs.size + 1)))) ⟨(h.push (W.kdv_tup rest)).push (excO C h.objs.size), g, d, t, os⟩) :
    codeAny (model prog w) A (.builtin newId ⟨.ref C :: rest, kw⟩) R ⟨h, g, d, t, os⟩ := by
  have fin := F.ends
  have b1 : (Value.ref C :: bm).contains (.type B) = true := by rw [List.contains_cons, same, F.hasB, Bool.or_true]
  have b2 : (Value.ref C :: bm).contains (.type "AttributeError") = false := by rw [List.contains_cons, same, F.noAttr]; rfl
  have b3 : (Value.ref C :: bm).contains (.type "NameError") = false := by rw [List.contains_cons, same, F.noName]; rfl
  refine codeAny_builtinAt F.entry ?_; unfold Builtin.«BaseException.__new__»
  refine PySem.wpAt_bind ?_; show PySem.wpAt _ _ _ (stack >>= _) _ _ _
  refine PySem.wpAt_bind (PySem.wpAt_stack fun p below => PySem.wpAt_of_wpAny ?_); wp_walk
  refine PySem.wpAt_of_wpAny ?_; rw [F.owner]
  repeat (first | with_reducible refine wpAny_madeHere_exc F.canon at_C ?_ | with_reducible refine wpAny_loadPart_at at_C ?_ | (with_reducible refine wpAny_isSubtype_exc at_C ?_; first | rw [b1] | rw [b2] | rw [b3]) | wp_step)
  show R _ _; rw [Heap.size_push]
  exact ok
theorem kw_typed (F : ExcBaseFacts B newId initId bmB) (same : ∀ X : String, bm.contains (.type X) = bmB.contains (.type X)) {fI : Addr} {Q : Fin → Shared → Prop} (at_C : h.get? C = some (excClassObj nm q C N bs bm hdct sn sub ab col dd k0 k1 k2 k3 k5 newId)) (small : rest.length ≤ sizeLine)
    (init : W.Looks (model prog w) h (typeLookup (.ref C) "__init__") (some (.ref fI))) (bound : ∀ self, W.Looks (model prog w) h (bindSpecial (.ref fI) self) (.ref fI, [self]))
    (ok : codeAny (model prog w) A (.call (.ref fI) ⟨.ref (h.objs.size + 1) :: rest, kw⟩) (fun r s' => match r with | .ok (.ret v) => v = .none ∧ Q (.done (.ret (.ref (h.objs.size + 1)))) s' | .ok _ => False | .error e => E e s') ⟨(h.push (W.kdv_tup rest)).push (excO C h.objs.size), g, d, t, os⟩) :
    wpAny (model prog w) A (Builtin.«type.__call__» ⟨.ref C :: rest, kw⟩) Q E ⟨h, g, d, t, os⟩ := by
  repeat (first | with_reducible refine wpAny_loadPart_at at_C ?_ | with_reducible refine wpAny_madeBy_exc at_C ?_ | wp_step)
  refine codeAny_call_builtin_code (Code.quiet_builtin _ F.quiet) (kw_check_new F same at_C (kw_born F same at_C small ?_))
  show wpAny _ _ _ _ _ _
  have old : ∀ b o, h.get? b = some o → ((h.push (W.kdv_tup rest)).push (excO C h.objs.size)).get? b = some o := fun b o e => Heap.get?_push_of_some _ (Heap.get?_push_of_some _ e)
  have new : ((h.push (W.kdv_tup rest)).push (excO C h.objs.size)).get? (h.objs.size + 1) = some (excO C h.objs.size) := by heap_get
  have at_C2 := old _ _ at_C
  have self_has : (Value.ref C :: bm).contains (.ref C) = true := by simp
  have bd := (bound (.ref (h.objs.size + 1))).keeps old
  unfold isInstance
  repeat (first | with_reducible refine wpAny_loadPart_at new ?_ | (with_reducible refine wpAny_isSubtype_exc at_C2 ?_; rw [self_has]) | wp_step)
  show wpAny _ _ (typeLookup (.ref C) _) _ _ _
  refine (init.keeps old).at (wpAny_holding (wpAny_bind (bd.at (wpAny_bind (wpAny_call (codeAny_mono ok fun r s' z => ?_))))))
  rcases r with e | (v | _ | _ | _) <;> first | exact z | exact z.elim | skip
  obtain ⟨rfl, z⟩ := z
  first
    | exact wpAny_pure (wpAny_pure z)
    | (wp_walk; exact z)
theorem kw_check_call {Q : Unit → Shared → Prop} (at_C : h.get? C = some (excClassObj nm q C N bs bm hdct sn sub ab col dd k0 k1 k2 k3 k5 newId)) (ok : Q () ⟨h, g, d, t, os⟩) : wpAny M A (checkBuiltinCall "type.__call__" ⟨.ref C :: rest, kw⟩) Q E ⟨h, g, d, t, os⟩ := by
  have f3 := tc_sub
  have ty : (⟨h, g, d, t, os⟩ : Shared).TypeIs (.ref C) "type" := ⟨_, at_C, rfl⟩
  simp only [checkBuiltinCall, tc_kind, tc_split]
  repeat (first | with_reducible assumption | with_reducible refine wpAny_loadPart_at at_C ?_ | wp_step)
theorem kw_called (F : ExcBaseFacts B newId initId bmB) (same : ∀ X : String, bm.contains (.type X) = bmB.contains (.type X)) {fI : Addr} (at_C : h.get? C = some (excClassObj nm q C N bs bm hdct sn sub ab col dd k0 k1 k2 k3 k5 newId)) (small : rest.length ≤ sizeLine)
    (init : W.Looks (model prog w) h (typeLookup (.ref C) "__init__") (some (.ref fI))) (bound : ∀ self, W.Looks (model prog w) h (bindSpecial (.ref fI) self) (.ref fI, [self]))
    (ok : codeAny (model prog w) (A.under (.builtin "type.__call__" ⟨.ref C :: rest, kw⟩)) (.call (.ref fI) ⟨.ref (h.objs.size + 1) :: rest, kw⟩) (W.InitBack (h.objs.size + 1) R) ⟨(h.push (W.kdv_tup rest)).push (excO C h.objs.size), g, d, t, os⟩) :
    codeAny (model prog w) A (.call (.ref C) ⟨rest, kw⟩) R ⟨h, g, d, t, os⟩ := by
  have f1 := tc_lookup
  have f2 := tc_bind (.ref C)
  have ty : (⟨h, g, d, t, os⟩ : Shared).TypeIs (.ref C) "type" := ⟨_, at_C, rfl⟩
  refine codeAny_of_tree ?_; show wpAny _ _ (callAny (.ref C) _) _ _ _
  repeat (any_goals (first | assumption | with_reducible refine wpAny_loadPart_at at_C ?_ | wp_step))
  refine ⟨rfl, codeAny_call_builtin_at (Code.quiet_builtin _ (by decide +kernel)) entry_typeCall (kw_check_call at_C (kw_typed F same at_C small init bound (codeAny_mono ok fun r s' z => ?_)))⟩
  rcases r with e | (v | _ | _ | _) <;> exact z
end
end K82
end

section
set_option maxHeartbeats 4000000
/-! own exceptions: fields stored, made, held as values -/
namespace K82
open PySem PySem.Spec PyProof.Rows L2
section
open PySem.W PySem.Calls PySem.HandSPX Builtin Builtin.ObjectAttr
variable {prog : Program} {w : World} {A : Around} {E : Value → Shared → Prop} {R : Result → Shared → Prop} {hp : Heap} {g : Array GenState} {d : Drawn} {t : Nat} {os : OsState} {K : Frag} {name : Str} {tk : Tok} {v : Value} {x C dx : Addr} {fv : Array Value} {cd : ClassData} {ox : Obj} {od : Option Obj}
theorem own_store (X : K.In hp) (I : InstAt hp x ox C od) (hcd : clsIn K C = some cd) (pass : refuseLoop (.ref x) "__setattr__" cd.mro = pure ()) (obj : mroIn K C (.type "object") = some true) (ha : findIn K (.ref C) name = some none)
    (ok : wpAny (model prog w) A.in1 (storeInOwnDict (.ref x) (.ref C) (.str name tk) name v false) (fun fin s' => match fin with | .done f => R (.ok f) s' | .again c' => c'.quiet = true ∧ codeAny (model prog w) A c' R s') (fun e s' => R (.error e) s') ⟨hp, g, d, t, os⟩) :
    codeAny (model prog w) A (.call (.builtin "object.__setattr__") ⟨[.ref x, .str name tk, v], []⟩) R ⟨hp, g, d, t, os⟩ := by
  have S := F.store_object
  have isobj : Looks (model prog w) hp (isInstance (.ref x) (.type "object")) true := I.type.andThen (looks_mroIn X obj)
  have row : Looks (model prog w) hp (mroOf (.ref C)) cd.mro := (looks_clsIn X hcd).andThen .now
  have takes : Looks (model prog w) hp (storeTaker? none) none := .now
  refine codeAny_call_builtin S.slot.plain S.entry (@check_slot (model prog w) _ _ ⟨hp, g, d, t, os⟩ "object.__setattr__" "object" "__setattr__" (.ref x) [.str name tk, v] [] _ S.kind S.split isobj (S.args (.ref x) (.str name tk) v) ?_)
  rw [osa_eq, refuse_eq]; refine wpAny_bind (wpAny_bind (I.type.at (wpAny_bind (row.at ?_)))); rw [pass]
  exact wpAny_pure (wpAny_bind (I.type.at (wpAny_bind ((looks_findIn X ha).at (wpAny_bind (takes.at ok))))))
/-- the first field -/
theorem own_new (X : K.In hp) (at_x : hp.get? x = some { cls := .ref C, data := .fields fv }) (hcd : clsIn K C = some cd) (pass : refuseLoop (.ref x) "__setattr__" cd.mro = pure ()) (obj : mroIn K C (.type "object") = some true) (hh : cd.hasDict = true) (ha : findIn K (.ref C) name = some none)
    (ok : ∀ h' tk' dx, (∀ b o, b ≠ x → hp.get? b = some o → h'.get? b = some o) → hp.objs.size ≤ dx → dx ≠ x → h'.get? x = some { cls := .ref C, dict := some dx, data := .fields fv } → h'.Ns1 dx (fun y => if y = name then some v else none) → R (.ok (.ret .none)) ⟨h', g, d, tk', os⟩) :
    codeAny (model prog w) A (.call (.builtin "object.__setattr__") ⟨[.ref x, .str name tk, v], []⟩) R ⟨hp, g, d, t, os⟩ := by
  have big : x ≠ hp.objs.size := Nat.ne_of_lt (Heap.lt_size at_x)
  have cl : Looks (model prog w) hp (classData C) cd := looks_clsIn X hcd
  refine own_store (od := none) X ⟨at_x, rfl, rfl, trivial⟩ hcd pass obj ha ?_
  obtain ⟨nm, bs, mro, ns, qn, hd, sn, sb, ab, col, del⟩ := cd
  dsimp only at hh; subst hh; unfold storeInOwnDict ownDictForStores
  repeat (first | with_reducible refine store_in_new ?_ ?_ | with_reducible refine wpAny_loadPart_at at_x ?_ | with_reducible refine cl.at ?_ | wp_step)
  · refine ⟨_, #[], _, (Heap.get?_update_ne _ _ _ _ big.symm).trans (Heap.get?_push_at rfl rfl), rfl, ?_, fun _ => rfl⟩
    exact fun e he => absurd he (by simp)
  · intro h' tk' names but
    have at_x2 : (hp.push { cls := .type "dict", data := .dict #[] }).get? x = some { cls := .ref C, data := .fields fv } := Heap.get?_push_of_some _ at_x
    exact ok h' tk' hp.objs.size (fun b o hb ho => (but.2 b (Nat.ne_of_lt (Heap.lt_size ho))).trans ((Heap.get?_update_ne _ _ _ _ hb).trans (Heap.get?_push_of_some _ ho))) (Nat.le_refl _) big.symm ((but.2 x big).trans (Heap.get?_update_self _ at_x2 rfl)) names
/-- a further field -/
theorem own_old {m0 : Str → Option Value} {nl : List Str} (X : K.In hp) (at_x : hp.get? x = some { cls := .ref C, dict := some dx, data := .fields fv }) (ns : hp.Ns1 dx m0) (wi : Within m0 nl) (few : nl.length ≤ 1000) (hcd : clsIn K C = some cd) (pass : refuseLoop (.ref x) "__setattr__" cd.mro = pure ())
    (obj : mroIn K C (.type "object") = some true) (hh : cd.hasDict = true) (ha : findIn K (.ref C) name = some none)
    (ok : ∀ h' tk', (∀ b o, b ≠ dx → hp.get? b = some o → h'.get? b = some o) → h'.Ns1 dx (fun y => if y = name then some v else m0 y) → R (.ok (.ret .none)) ⟨h', g, d, tk', os⟩) :
    codeAny (model prog w) A (.call (.builtin "object.__setattr__") ⟨[.ref x, .str name tk, v], []⟩) R ⟨hp, g, d, t, os⟩ := by
  obtain ⟨oD, _, _, at_d, _, _⟩ := ns.count wi
  have cl : Looks (model prog w) hp (classData C) cd := looks_clsIn X hcd
  refine own_store (od := some oD) X ⟨at_x, rfl, rfl, at_d⟩ hcd pass obj ha ?_
  obtain ⟨nm, bs, mro, ns', qn, hd, sn, sb, ab, col, del⟩ := cd
  dsimp only at hh; subst hh; unfold storeInOwnDict ownDictForStores
  repeat (first | with_reducible refine PySem.OEX.store_in_old ns wi few ?_ | with_reducible refine wpAny_loadPart_at at_x ?_ | with_reducible refine cl.at ?_ | wp_step)
  exact fun h' tk' names but => ok h' tk' (fun b o hb ho => (but.2 b hb).trans ho) names
end
end K82
end

section
set_option maxHeartbeats 4000000
/-! the makers of own exceptions: self.f = f -/
namespace K82
open PySem PySem.Spec PyProof.Rows L2
section
open PySem.W PySem.Calls PySem.HandSPX
/-- what the written part says of an own exception class at C, over a built-in base -/
structure XB (K : Frag) (C : Addr) (bmB : List Value) (newId : String) : Prop where
  cls : ∃ nm q N bs bm sn sub ab col dd k0 k1 k2 k3 k5, K.lookup C = some (excClassObj nm q C N bs bm true sn sub ab col dd k0 k1 k2 k3 k5 newId) ∧ refsTo bmB bm = true
  ec : EC K C
  sa : findIn K (.ref C) "__setattr__" = some (some (.builtin "object.__setattr__"))
  ty : typeIn K (.ref C) = some (.type "type")
  kp : keepIn K (.ref C) = true
/-- .. and of the def at fI that makes it -/
structure XI (K : Frag) (C fI : Addr) : Prop where
  ini : findIn K (.ref C) "__init__" = some (some (.ref fI))
  fty : typeIn K (.ref fI) = some (.type "function")
/-- the base -/
structure Bs (B newId initId : String) (bmB : List Value) : Prop where
  F : ExcBaseFacts B newId initId bmB
  pass : ∀ self, refuseLoop self "__setattr__" bmB = pure ()
/-- an exception as it is made: its own dict at d holds the fields m -/
structure Born (h h' : Heap) (e C d : Addr) (m : Str → Option Value) : Prop where
  keep : ∀ b o, h.get? b = some o → h'.get? b = some o
  new : h.objs.size ≤ e
  obj : ∃ t1 : Addr, h'.get? e = some ({ cls := .ref C, dict := some d, data := .fields #[.ref t1, .none, .none, .none, .bool false, .none] } : Obj)
  big : h.objs.size ≤ d
  ne : d ≠ e
  ns : h'.Ns1 d m
structure Made (h h' : Heap) (x C dx t1 : Addr) (m : Str → Option Value) : Prop where
  keep : ∀ b o, b ≠ x → h.get? b = some o → h'.get? b = some o
  obj : h'.get? x = some ({ cls := .ref C, dict := some dx, data := .fields #[.ref t1, .none, .none, .none, .bool false, .none] } : Obj)
  big : h.objs.size ≤ dx
  ne : dx ≠ x
  ns : h'.Ns1 dx m
variable {prog : Program} {w : World} {A : Around} {R : Result → Shared → Prop} {s : Shared} {K : Frag} {C fI : Addr} {bmB : List Value} {B newId initId : String}
theorem XB.data (T : XB K C bmB newId) (b : Bs B newId initId bmB) : ∃ cd, clsIn K C = some cd ∧ (∀ self, refuseLoop self "__setattr__" cd.mro = pure ()) ∧ cd.hasDict = true := by
  obtain ⟨nm, q, N, bs, bm, sn, sub, ab, col, dd, k0, k1, k2, k3, k5, hC, hbm⟩ := T.cls
  refine ⟨{ name := nm, bases := bs, mro := .ref C :: bm, ns := N, qualname := q, hasDict := true, slotNames := sn, subclasses := sub, abstract := ab, collection := col, hasDel := false }, by unfold clsIn; rw [hC] <;> rfl, fun self => ?_, rfl⟩
  exact refsTo_pass self (b.pass self) (.ref C :: bm) hbm
theorem ldN {M : Model} {s : Shared} {name : Str} {scope : Scope} {L a : Addr} {cd : Value} {m : Str → Option Value} {x : Str} {pos : Pos} {v : Value} {Q : Value → Shared → Prop} {A : Around} {E : Value → Shared → Prop} (hn : s.heap.Ns L m) (hv : m x = some v) (h : Q v s)
    (hk : scope.kind = .function := by rfl) (hl : (envOfC name scope L a cd).kindOf x = some .local := by rfl) (hd : (x == ("__debug__" : Str)) = false := by decide) : wpAny M A (eval (.Name x pos) (envOfC name scope L a cd)) Q E s := wpAny_Name (wpAny_loadName_local hk hl hn hv h) hd
/-- from the maker's run to the made exception; kw: how it is called -/
theorem born_of (T : XB K C bmB newId) (b : Bs B newId initId bmB) (I : XI K C fI) {rest : List Value} {kw : List (Str × Value)} {m : Str → Option Value} (X : K.In s.heap) (few : rest.length ≤ sizeLine)
    (run : ∀ (A' : Around) (R' : Result → Shared → Prop) (s1 : Shared) (x t1 : Addr), K.In s1.heap → s1.heap.NoLimit → s1.heap.get? x = some (excO C t1) → K.lookup x = none → A'.depth < recursionLimit → (∀ h' tk dx, Made s1.heap h' x C dx t1 m → R' (.ok (.ret .none)) { s1 with heap := h', toks := tk }) →
      codeAny (model prog w) A' (.call (.ref fI) ⟨.ref x :: rest, kw⟩) R' s1)
    (nl : s.heap.NoLimit) (room : A.depth + 1 < recursionLimit) (ok : ∀ h' tk e d, Born s.heap h' e C d m → R (.ok (.ret (.ref e))) { s with heap := h', toks := tk }) : codeAny (model prog w) A (.call (.ref C) ⟨rest, kw⟩) R s := by
  obtain ⟨nm, q, N, bs, bm, sn, sub, ab, col, dd, k0, k1, k2, k3, k5, hC, hbm⟩ := T.cls
  obtain ⟨hp, g, dr, tk, os⟩ := s
  have old : ∀ b o, hp.get? b = some o → ((hp.push (kdv_tup rest)).push (excO C hp.objs.size)).get? b = some o := fun b o e => Heap.get?_push_of_some _ (Heap.get?_push_of_some _ e)
  have got : ((hp.push (kdv_tup rest)).push (excO C hp.objs.size)).get? (hp.objs.size + 1) = some (excO C hp.objs.size) := by heap_get
  have none : K.lookup (hp.objs.size + 1) = none := by
    cases e : K.lookup (hp.objs.size + 1) with
    | none => rfl
    | some o =>
      have z : hp.get? (hp.objs.size + 1) = some o := X _ _ e
      exact absurd (Nat.lt_of_succ_lt (Heap.lt_size z)) (Nat.lt_irrefl _)
  refine kw_called b.F (fun Y => refsTo_has Y bm hbm) (X _ _ hC) few (looks_findIn X I.ini) (fun self => bind_fn X self I.fty) ?_
  refine run _ _ ⟨(hp.push (kdv_tup rest)).push (excO C hp.objs.size), g, dr, tk, os⟩ (hp.objs.size + 1) hp.objs.size (X.keeps old) (nl.keeps old) got none ?_ fun h' tk' dx M => ?_
  · first
      | exact room
      | (show (A.under (.builtin "type.__call__" ⟨.ref C :: rest, kw⟩)).depth < recursionLimit
         rw [make_depth]; exact room)
  · have grown : hp.objs.size + 1 + 1 ≤ dx := by
      have z := M.big
      rw [Heap.size_push, Heap.size_push] at z; exact z
    exact ⟨rfl, ok h' tk' (hp.objs.size + 1) dx ⟨fun b o e => M.keep b o (Nat.ne_of_lt (Nat.lt_succ_of_lt (Heap.lt_size e))) (old b o e), Nat.le_succ _, ⟨_, M.obj⟩, Nat.le_trans (Nat.le_trans (Nat.le_succ _) (Nat.le_succ _)) grown, M.ne, M.ns⟩⟩

def aI_value (p1 p2 : Pos) : Arguments := { posonlyargs := [], args := [{ arg := "self", annotation := none, pos := p1 }, { arg := "value", annotation := none, pos := p2 }], vararg := none, kwonlyargs := [], kw_defaults := [], kwarg := none, defaults := [] }
def bI_value (q1 q2 q3 q4 : Pos) : List Stmt := [.Assign [.Attribute (.Name "self" q1) "value" q2] (.Name "value" q3) q4]
def sI_value : Scope := { kind := .function, names := [(PySem.Str.ofString "self", .local), (PySem.Str.ofString "value", .local)], isGenerator := false, isCoroutine := false, more := [] }
structure XF_value (K : Frag) (C fI : Addr) : Prop where
  no : findIn K (.ref C) "value" = some none
  fn : ∃ (oc : Value) (od : Option Addr) (doc pm : Value) (an : Option Addr) (cdv ct : Value) (osl : Array (Option Value)) (qual : Str) (p1 p2 q1 q2 q3 q4 : Pos),
    K.lookup fI = some ⟨oc, od, .func (fnOf "__init__" qual (aI_value p1 p2) (bI_value q1 q2 q3 q4) sI_value .none .none doc pm an cdv ct), osl⟩ ∧ codeIn K cdv qual = true
theorem run_value (T : XB K C bmB newId) (b : Bs B newId initId bmB) (F : XF_value K C fI) {x t0 : Addr} {v : Value} {pos : List Value} {kw : List (Str × Value)} (form : (pos = [v] ∧ kw = []) ∨ (pos = [] ∧ kw = [(("value" : Str), v)])) (X : K.In s.heap) (nl : s.heap.NoLimit) (at_x : s.heap.get? x = some (excO C t0)) (out : K.lookup x = none) (room : A.depth < recursionLimit)
    (ok : ∀ h' tk dx, Made s.heap h' x C dx t0 (fun y => if y = "value" then some v else none) → R (.ok (.ret .none)) { s with heap := h', toks := tk }) : codeAny (model prog w) A (.call (.ref fI) ⟨.ref x :: pos, kw⟩) R s := by
  obtain ⟨oc, od, doc, pm, an, cdv, ct, osl, qual, p1, p2, q1, q2, q3, q4, ho, hcd⟩ := F.fn
  obtain ⟨cd, hcl, pass, hh⟩ := T.data b
  have bd : BindsTo s (fnOf "__init__" qual (aI_value p1 p2) (bI_value q1 q2 q3 q4) sI_value .none .none doc pm an cdv ct) ⟨.ref x :: pos, kw⟩ [("self", .ref x), ("value", v)] := by
    rcases form with ⟨rfl, rfl⟩ | ⟨rfl, rfl⟩
    · exact BindsTo.of_eq (by first | rfl | with_unfolding_all rfl)
    · exact BindsTo.of_eq (by first | rfl | with_unfolding_all rfl)
  refine Att.call_fn (binds := [("self", .ref x), ("value", v)]) X nl ho hcd room bd (by first | rfl | decide | with_unfolding_all rfl) (fun s₁ IC => ?_) rfl rfl rfl
  obtain ⟨h₁, tk₁, rfl⟩ := IC.toInCall.same
  have old : ∀ b o, s.heap.get? b = some o → h₁.get? b = some o := IC.toInCall.keep
  have nsL := IC.toInCall.ns
  have Y : K.In h₁ := X.keeps old
  show wpAny _ _ (execs _ _) _ _ _
  refine wpAny_execs_cons (plainObj_wpAny_Assign_Attribute (ldN (v := v) nsL (by first | rfl | with_unfolding_all rfl | kernel_rfl) (ldN (v := .ref x) nsL (by first | rfl | with_unfolding_all rfl | kernel_rfl) ?_)))
  refine set_plain Y (ox := excO C t0) (od := none) ⟨old _ _ at_x, rfl, rfl, trivial⟩ T.sa (own_new Y (old _ _ at_x) hcl (pass _) T.ec.ob hh F.no fun h₃ tk₃ dx k₃ dn dne at3 ns3 => ?_)
  show wpAny _ _ (execs _ _) _ _ _
  exact wpAny_execs_nil (ok h₃ tk₃ dx ⟨fun b o hb e => k₃ b o hb (old b o e), at3, Nat.le_of_lt (Nat.lt_of_lt_of_le nsL.lt dn), dne, ns3⟩)

def aJ_what_limit (p1 p2 p3 : Pos) : Arguments := { posonlyargs := [], args := [{ arg := "self", annotation := none, pos := p1 }, { arg := "what", annotation := none, pos := p2 }, { arg := "limit", annotation := none, pos := p3 }], vararg := none, kwonlyargs := [], kw_defaults := [], kwarg := none, defaults := [] }
def bJ_what_limit (q1 q2 q3 q4 r1 r2 r3 r4 : Pos) : List Stmt := [.Assign [.Attribute (.Name "self" q1) "what" q2] (.Name "what" q3) q4, .Assign [.Attribute (.Name "self" r1) "limit" r2] (.Name "limit" r3) r4]
def sJ_what_limit : Scope := { kind := .function, names := [(PySem.Str.ofString "self", .local), (PySem.Str.ofString "what", .local), (PySem.Str.ofString "limit", .local)], isGenerator := false, isCoroutine := false, more := [] }
structure XF_what_limit (K : Frag) (C fI : Addr) : Prop where
  noA : findIn K (.ref C) "what" = some none
  noB : findIn K (.ref C) "limit" = some none
  fn : ∃ (oc : Value) (od : Option Addr) (doc pm : Value) (an : Option Addr) (cdv ct : Value) (osl : Array (Option Value)) (qual : Str) (p1 p2 p3 q1 q2 q3 q4 r1 r2 r3 r4 : Pos),
    K.lookup fI = some ⟨oc, od, .func (fnOf "__init__" qual (aJ_what_limit p1 p2 p3) (bJ_what_limit q1 q2 q3 q4 r1 r2 r3 r4) sJ_what_limit .none .none doc pm an cdv ct), osl⟩ ∧ codeIn K cdv qual = true
def mJ_what_limit (u v : Value) : Str → Option Value := fun y => if y = "limit" then some v else if y = "what" then some u else none
theorem run_what_limit (T : XB K C bmB newId) (b : Bs B newId initId bmB) (F : XF_what_limit K C fI) {x t0 : Addr} {u v : Value} (X : K.In s.heap) (nl : s.heap.NoLimit) (at_x : s.heap.get? x = some (excO C t0)) (out : K.lookup x = none) (room : A.depth < recursionLimit)
    (ok : ∀ h' tk dx, Made s.heap h' x C dx t0 (mJ_what_limit u v) → R (.ok (.ret .none)) { s with heap := h', toks := tk }) : codeAny (model prog w) A (.call (.ref fI) ⟨[.ref x, u, v], []⟩) R s := by
  obtain ⟨oc, od, doc, pm, an, cdv, ct, osl, qual, p1, p2, p3, q1, q2, q3, q4, r1, r2, r3, r4, ho, hcd⟩ := F.fn
  obtain ⟨cd, hcl, pass, hh⟩ := T.data b
  have bd : BindsTo s (fnOf "__init__" qual (aJ_what_limit p1 p2 p3) (bJ_what_limit q1 q2 q3 q4 r1 r2 r3 r4) sJ_what_limit .none .none doc pm an cdv ct) ⟨[.ref x, u, v], []⟩ [("self", .ref x), ("what", u), ("limit", v)] := BindsTo.of_eq (by first | rfl | with_unfolding_all rfl)
  refine Att.call_fn (binds := [("self", .ref x), ("what", u), ("limit", v)]) X nl ho hcd room bd (by first | rfl | decide | with_unfolding_all rfl) (fun s₁ IC => ?_) rfl rfl rfl
  obtain ⟨h₁, tk₁, rfl⟩ := IC.toInCall.same
  have old : ∀ b o, s.heap.get? b = some o → h₁.get? b = some o := IC.toInCall.keep
  have nsL := IC.toInCall.ns
  have Y : K.In h₁ := X.keeps old
  show wpAny _ _ (execs _ _) _ _ _
  refine wpAny_execs_cons (plainObj_wpAny_Assign_Attribute (ldN (v := u) nsL (by first | rfl | with_unfolding_all rfl | kernel_rfl) (ldN (v := .ref x) nsL (by first | rfl | with_unfolding_all rfl | kernel_rfl) ?_)))
  refine set_plain Y (ox := excO C t0) (od := none) ⟨old _ _ at_x, rfl, rfl, trivial⟩ T.sa (own_new Y (old _ _ at_x) hcl (pass _) T.ec.ob hh F.noA fun h₃ tk₃ dx k₃ dn dne at3 ns3 => ?_)
  have neL : s.heap.objs.size ≠ x := Nat.ne_of_gt (Heap.lt_size at_x)
  have nsL3 := nsL.at fun o e => k₃ _ o neL e
  have Z : K.In h₃ := fun b o e => k₃ b o (fun z => by rw [z] at e; rw [out] at e; cases e) (Y b o e)
  have wi : Within (fun y => if y = ("what" : Str) then some u else none) ["what"] := fun y hy => by
    by_cases c : y = ("what" : Str)
    · rw [c]; exact List.mem_cons_self
    · exact absurd (if_neg c) hy
  obtain ⟨oD, _, _, at_d, _, _⟩ := ns3.count wi
  refine wpAny_execs_cons (plainObj_wpAny_Assign_Attribute (ldN (v := v) nsL3 (by first | rfl | with_unfolding_all rfl | kernel_rfl) (ldN (v := .ref x) nsL3 (by first | rfl | with_unfolding_all rfl | kernel_rfl) ?_)))
  refine set_plain Z (ox := { cls := .ref C, dict := some dx, data := .fields #[.ref t0, .none, .none, .none, .bool false, .none] }) (od := some oD) ⟨at3, rfl, rfl, at_d⟩ T.sa (own_old Z at3 ns3 wi (by decide) hcl (pass _) T.ec.ob hh F.noB fun h₄ tk₄ k₄ ns4 => ?_)
  show wpAny _ _ (execs _ _) _ _ _
  have low : s.heap.objs.size ≤ dx := Nat.le_of_lt (Nat.lt_of_lt_of_le nsL.lt dn)
  refine wpAny_execs_nil (ok h₄ tk₄ dx ⟨fun b o hb e => k₄ b o ?_ (k₃ b o hb (old b o e)), k₄ _ _ dne.symm at3, low, dne, ns4⟩)
  exact Nat.ne_of_lt (Nat.lt_of_lt_of_le (Heap.lt_size e) low)
end
end K82
end

section
set_option maxHeartbeats 4000000
/-! own exceptions raised with fields, and asked in an except suite -/
namespace K82
open PySem PySem.Spec PyProof.Rows L2
/-- the exception at a of the class C, its fields at d -/
def put2 (H : Hp) (a C d : Addr) (fs : List (Str × V)) : Hp := upd (upd H d (exd d fs)) a (exo a C (some d))
section
variable {X : Cx} {C fI : Addr} {bmB : List Value} {B newId initId : String} {x : Str} {p pos : Pos}
theorem held {pins : List (Addr × Obj)} {σ : L2.St} {H : Hp} {s : Shared} {h' : Heap} {e d : Addr} {m : Str → Option Value} {fs : List (Str × V)} {tk : Nat} (I : L2.Inv X pins σ H s) (M : Born s.heap h' e C d m) (rel : ∀ f, RelO (fs.lookup f) (m f)) :
    L2.Inv X pins σ (put2 H e C d fs) { s with heap := h', toks := tk } ∧ H e = none ∧ H d = none := by
  obtain ⟨G, g1, g2⟩ := restrict h' fun b => decide (b ≠ e)
  have gk : ∀ b, b ≠ e → G.get? b = h'.get? b := fun b hb => g1 b (decide_eq_true hb)
  have ge : G.get? e = none := g2 e (by simp)
  have old : ∀ b o, s.heap.get? b = some o → G.get? b = some o := fun b o q => (gk b (Nat.ne_of_lt (Nat.lt_of_lt_of_le (Heap.lt_size q) M.new))).trans (M.keep b o q)
  have up : ∀ b o, G.get? b = some o → h'.get? b = some o := fun b o q => by
    by_cases hb : b = e
    · rw [hb, ge] at q; cases q
    · exact (gk b hb).symm.trans q
  have he := I.hok.fresh M.new
  have hd := I.hok.fresh M.big
  obtain ⟨t1, ho⟩ := M.obj
  have I1 : L2.Inv X pins σ (upd H d (exd d fs)) { s with heap := G, toks := tk } := I.laid old M.big (exd_ok (M.ns.at fun o q => (gk d M.ne).trans q) rel)
  have n2 : upd H d (exd d fs) e = none := by rw [upd_ne M.ne.symm]; exact he
  exact ⟨I1.laidN (t' := tk) up ge n2 (exo_ok ho), he, hd⟩
theorem rel1 {f : Str} {y : V} {v : Value} (r : RelV y v) (g : Str) : RelO (List.lookup g [(f, y)]) (if g = f then some v else none) := by
  have := relO_put (fs := []) (mA := fun _ => none) r (fun _ => True.intro) (f := f) g
  exact this
theorem rel2 {a b : Str} {y z : V} {u v : Value} (r : RelV y u) (q : RelV z v) (g : Str) : RelO (List.lookup g [(b, z), (a, y)]) (if g = b then some v else if g = a then some u else none) := relO_put q (fun g => rel1 r g) g
end
section
variable {X : Cx} {C fI : Addr} {bmB : List Value} {B newId initId : String} {x : Str} {p pos : Pos}
/-- raise C(e): the error's own dict d holds the value -/
def tRv (C : Addr) (ta : TA) : L2.St → Hp → XK → Prop := fun σ H Q => ta σ H fun vs H1 => ∃ y, vs = [y] ∧ ∀ d, H1 d = none → Q (.ref C) (some d) (upd H1 d (.xd [(("value" : Str), y)]))
theorem pmk_value {e : Expr} {ta : TA} {k : Nat} (T : XB X.K C bmB newId) (b : Bs B newId initId bmB) (J : XI X.K C fI) (F : XF_value X.K C fI) (hr : Room k X.A) (hg : Gl X x) (hm : X.mg x = some (.ref C)) (he : PA X [e] ta) (hdb : (x == ("__debug__" : Str)) = false := by decide)
    (hs : starEach [e] X.env = (false, eval e X.env) :: starEach [] X.env := by rfl) (hpl : (backTo pos (starEach [] X.env)).any (·.1) = false := by rfl) : PMk X (.Call (.Name x p) [e] [] pos) (tRv C ta) := by
  intro pins s σ H Q I h
  refine wpAny_Call_Name_kw (ld_glob I hg hm (PySem.W.callWith_K (h₀ := X.base) I.ok.mod.kin T.kp (thn (he.run pos pins s σ H _ I h) fun us s1 hh => ?_) hs hpl) hdb)
  obtain ⟨vs, H1, I1, r, y, rfl, q⟩ := hh
  cases r with
  | @cons _ v0 _ ur rv rr =>
    cases rr
    refine ⟨I1.kIn, wpAny_call (born_of (rest := [v0]) (kw := []) T b J I1.kIn (by show 1 ≤ sizeLine; decide) (fun A' R' s1 x t1 h1 h2 h3 h4 h5 h6 => run_value T b F (.inl ⟨rfl, rfl⟩) h1 h2 h3 h4 h5 h6) I1.nolimit (by have := hr.dp; omega) fun h' tk e d M => ?_)⟩
    obtain ⟨G, g1, g2⟩ := restrict h' fun b => decide (b ≠ e)
    have gk : ∀ b, b ≠ e → G.get? b = h'.get? b := fun b hb => g1 b (decide_eq_true hb)
    have ge : G.get? e = none := g2 e (by simp)
    have old : ∀ b o, s1.heap.get? b = some o → G.get? b = some o := fun b o z => (gk b (Nat.ne_of_lt (Nat.lt_of_lt_of_le (Heap.lt_size z) M.new))).trans (M.keep b o z)
    have up : ∀ b o, G.get? b = some o → h'.get? b = some o := fun b o z => by
      by_cases hb : b = e
      · rw [hb, ge] at z; cases z
      · exact (gk b hb).symm.trans z
    have ob : ObjOk X.prog X.w (upd H1 d (.xd [(("value" : Str), y)])) G d (.xd [(("value" : Str), y)]) := ⟨_, M.ns.at (fun o z => (gk d M.ne).trans z), fun f => rel1 rv f⟩
    have I2 : L2.Inv X pins σ (upd H1 d (.xd [(("value" : Str), y)])) { s1 with heap := G, toks := tk } := I1.laid (t' := tk) old M.big ob
    obtain ⟨t1, ho⟩ := M.obj
    have ne : (upd H1 d (.xd [(("value" : Str), y)])) e = none := by rw [upd_ne M.ne.symm]; exact I1.hok.fresh M.new
    exact ⟨e, _, _, { s1 with heap := G, toks := tk }, _, .ref C, some d, rfl, I2, up, ge, ho, ⟨rfl, rfl⟩, rfl, rfl, ne, rfl, I1.bare, raises_own T.ec.be T.ty, q d (I1.hok.fresh M.big)⟩
/-- raise C(e, f) -/
def tRw (C : Addr) (ta : TA) : L2.St → Hp → XK → Prop := fun σ H Q => ta σ H fun vs H1 => ∃ y z, vs = [y, z] ∧ ∀ d, H1 d = none → Q (.ref C) (some d) (upd H1 d (.xd [(("limit" : Str), z), (("what" : Str), y)]))
theorem pmk_what {e e2 : Expr} {ta : TA} {k : Nat} (T : XB X.K C bmB newId) (b : Bs B newId initId bmB) (J : XI X.K C fI) (F : XF_what_limit X.K C fI) (hr : Room k X.A) (hg : Gl X x) (hm : X.mg x = some (.ref C)) (he : PA X [e, e2] ta) (hdb : (x == ("__debug__" : Str)) = false := by decide)
    (hs : starEach [e, e2] X.env = (false, eval e X.env) :: starEach [e2] X.env := by rfl) (hpl : (backTo pos (starEach [e2] X.env)).any (·.1) = false := by rfl) : PMk X (.Call (.Name x p) [e, e2] [] pos) (tRw C ta) := by
  intro pins s σ H Q I h
  refine wpAny_Call_Name_kw (ld_glob I hg hm (PySem.W.callWith_K (h₀ := X.base) I.ok.mod.kin T.kp (thn (he.run pos pins s σ H _ I h) fun us s1 hh => ?_) hs hpl) hdb)
  obtain ⟨vs, H1, I1, r, y, z, rfl, q⟩ := hh
  cases r with
  | @cons _ v0 _ ur rv rr =>
    cases rr with
    | @cons _ v1 _ ur2 rw rr =>
    cases rr
    refine ⟨I1.kIn, wpAny_call (born_of (rest := [v0, v1]) (kw := []) T b J I1.kIn (by show 2 ≤ sizeLine; decide) (fun A' R' s1 x t1 h1 h2 h3 h4 h5 h6 => run_what_limit T b F h1 h2 h3 h4 h5 h6) I1.nolimit (by have := hr.dp; omega) fun h' tk e d M => ?_)⟩
    obtain ⟨G, g1, g2⟩ := restrict h' fun b => decide (b ≠ e)
    have gk : ∀ b, b ≠ e → G.get? b = h'.get? b := fun b hb => g1 b (decide_eq_true hb)
    have ge : G.get? e = none := g2 e (by simp)
    have old : ∀ b o, s1.heap.get? b = some o → G.get? b = some o := fun b o z => (gk b (Nat.ne_of_lt (Nat.lt_of_lt_of_le (Heap.lt_size z) M.new))).trans (M.keep b o z)
    have up : ∀ b o, G.get? b = some o → h'.get? b = some o := fun b o z => by
      by_cases hb : b = e
      · rw [hb, ge] at z; cases z
      · exact (gk b hb).symm.trans z
    have ob : ObjOk X.prog X.w (upd H1 d (.xd [(("limit" : Str), z), (("what" : Str), y)])) G d (.xd [(("limit" : Str), z), (("what" : Str), y)]) := ⟨_, M.ns.at (fun o z => (gk d M.ne).trans z), fun f => rel2 rv rw f⟩
    have I2 : L2.Inv X pins σ (upd H1 d (.xd [(("limit" : Str), z), (("what" : Str), y)])) { s1 with heap := G, toks := tk } := I1.laid (t' := tk) old M.big ob
    obtain ⟨t1, ho⟩ := M.obj
    have ne : (upd H1 d (.xd [(("limit" : Str), z), (("what" : Str), y)])) e = none := by rw [upd_ne M.ne.symm]; exact I1.hok.fresh M.new
    exact ⟨e, _, _, { s1 with heap := G, toks := tk }, _, .ref C, some d, rfl, I2, up, ge, ho, ⟨rfl, rfl⟩, rfl, rfl, ne, rfl, I1.bare, raises_own T.ec.be T.ty, q d (I1.hok.fresh M.big)⟩
end
section
variable {X : Cx} {a C : Addr} {oe : Obj} {d : Option Addr} {pn : List (Addr × Obj)}
theorem inst_pin {pins : List (Addr × Obj)} {σ : L2.St} {H : Hp} {s : Shared} {dd : Addr} {fs : List (Str × V)} (I : L2.Inv (X.suite a ((a, oe) :: pn)) pins σ H s) (hz : Zc (.ref C) (some dd) oe) (hf : ∃ vs, oe.data = .fields vs) (hd : H dd = some (.xd fs)) : ∃ od, PySem.W.InstAt s.heap a oe C od := by
  obtain ⟨ha, _⟩ := I.pin (a, oe) (List.mem_append_left _ List.mem_cons_self)
  obtain ⟨vs, hv⟩ := hf
  have hx : ObjOk X.prog X.w H s.heap dd (.xd fs) := I.hok dd _ hd
  obtain ⟨mA, ⟨o, es, ep, e, _⟩, _⟩ := hx
  refine ⟨some o, ha, hz.1, ?_, ?_⟩
  · unfold PySem.W.notCls
    rw [hv] <;> rfl
  · rw [hz.2]; exact e
/-- isinstance(e, c), e the caught error, with a dict of its own -/
def rIsC (K : PySem.W.Frag) (cls : Value) (C a : Addr) (d : Option Addr) : List V → Hp → VK → Prop := fun xs H Q => ∃ (dd : Addr) (fs : List (Str × V)) (c : V) (u : Value) (b : Bool), xs = [.ref a, c] ∧ cls = .ref C ∧ d = some dd ∧ H dd = some (.xd fs) ∧ EC K C ∧ ClsV c u ∧ PySem.W.kitOne K (.ref C) u = some b ∧ Q (.bl b) H
theorem call_isC {cls : Value} (hz : Zc cls d oe) (hf : ∃ vs, oe.data = .fields vs) : CallR (X.suite a ((a, oe) :: pn)) (.builtin "isinstance") (rIsC X.K cls C a d) := by
  intro pins s σ H xs us Q I r h
  obtain ⟨dd, fs, c, u, b, rfl, rfl, rfl, hd, ec, cv, e, q⟩ := h
  obtain ⟨u1, u2, rfl, r1, r2⟩ := vals2 r
  obtain rfl : u1 = Value.ref a := r1
  have e2 := cv.eq r2
  subst e2
  obtain ⟨od, J⟩ := inst_pin I hz hf hd
  exact PySem.W.kia_one (ec.kit (x := a) (od := od) (ox := oe)) I.kIn J e (fun z => nomatch z) fun tk => ⟨.bl b, H, I.tok tk, rfl, q⟩
def rIsCT (K : PySem.W.Frag) (cls : Value) (C a : Addr) (d : Option Addr) : List V → Hp → VK → Prop := fun xs H Q => ∃ (dd : Addr) (fs : List (Str × V)) (tp : Addr) (cs : List V) (us : List Value) (b : Bool), xs = [.ref a, .ref tp] ∧ cls = .ref C ∧ d = some dd ∧ H dd = some (.xd fs) ∧ EC K C ∧ H tp = some (.tup cs) ∧ Paired ClsV cs us ∧ PySem.W.kitAny K (.ref C) us = some b ∧ Q (.bl b) H
theorem call_isCT {cls : Value} (hz : Zc cls d oe) (hf : ∃ vs, oe.data = .fields vs) : CallR (X.suite a ((a, oe) :: pn)) (.builtin "isinstance") (rIsCT X.K cls C a d) := by
  intro pins s σ H xs us Q I r h
  obtain ⟨dd, fs, tp, cs, ws, b, rfl, rfl, rfl, hd, ec, hT, k, e, q⟩ := h
  obtain ⟨u1, u2, rfl, r1, r2⟩ := vals2 r
  obtain rfl : u1 = Value.ref a := r1
  obtain rfl : u2 = Value.ref tp := r2
  obtain ⟨od, J⟩ := inst_pin I hz hf hd
  obtain ⟨_, its, rv, o, h1, h2, n, h3⟩ := (show ObjOk X.prog X.w H s.heap tp (.tup cs) from I.hok tp _ hT)
  obtain rfl := ClsV.all k rv
  obtain ⟨oc, od2, dt, sl⟩ := o
  simp only at h2 h3
  subst h2 h3
  exact PySem.W.kia_tup (ec.kit (x := a) (od := od) (ox := oe)) I.kIn J h1 e (fun z => nomatch z) fun tk => ⟨.bl b, H, I.tok tk, rfl, q⟩
end
end K82
end

section
set_option maxHeartbeats 4000000
/-! several except clauses, each with the same name -/
namespace K82
open PySem PySem.Spec PyProof.Rows L2
def wManyAs (K : PySem.W.Frag) (i : Nat) (Wout : WX) (D : Ends) : List (Value × (Addr → Value → Option Addr → TS)) → WX
  | [] => Wout
  | (c, ts) :: r => wAs K c i ts (wManyAs K i Wout D r) D
inductive HdsAs (X : Cx) (n : Str) : List ExceptHandler → List (Value × (Addr → Value → Option Addr → TS)) → Prop
  | nil : HdsAs X n [] []
  | cons {x : Str} {c : Value} {ts : Addr → Value → Option Addr → TS} {b₀ : Stmt} {suite : List Stmt} {np pos' : Pos} {hds : List ExceptHandler} {l : List (Value × (Addr → Value → Option Addr → TS))} (hc : Names X x c)
      (hsu : ∀ (a : Addr) (oe : Obj) (cls : Value) (d : Option Addr) (pn : List (Addr × Obj)), Zc cls d oe → (∃ vs, oe.data = .fields vs) → PSs (X.suite a ((a, oe) :: pn)) (b₀ :: suite) (ts a cls d)) (r : HdsAs X n hds l) :
      HdsAs X n (.ExceptHandler (some (.Name x np)) (some n) (b₀ :: suite) pos' :: hds) ((c, ts) :: l)
section
variable {X : Cx} {n : Str} {i : Nat} {body : List Stmt} {h₀ : ExceptHandler} {hds : List ExceptHandler} {l : List (Value × (Addr → Value → Option Addr → TS))} {pos : Pos} {tb : WX → TS} {Wout : WX}
theorem ps_try_many_as (hs : X.stack = X.env :: X.outer) (hf : X.env.frame = some X.env.locals) (hN : X.N.Nodup) (hi : X.N[i]? = some n) (hln : X.env.kindOf n = some .local) (tk : Takes X Wout)
    (hb : ∀ (W : WX) (pn : List (Addr × Obj)) (xe : Value → Shared → Prop), Takes (X.tr pn xe) W → PassesOwn (model X.prog X.w) X.A X.env xe → PSs (X.tr pn xe) body (tb W))
    (hh : HdsAs X n (h₀ :: hds) l) : PS X (.Try body (h₀ :: hds) [] [] pos) (fun D σ H => tb (wManyAs X.K i Wout D l) D σ H) := by
  refine ⟨fun pins s σ H D I h => ?_⟩
  have ok := I.ok
  have hfr : X.A.frames = some (X.env :: X.outer) := by rw [ok.frames, hs]
  have hloc : Loc X.env.scope n := .inl hln
  refine wpAny_Try_except ?_
  refine wpAny_mono ((hb (wManyAs X.K i Wout D l) (X.pn ++ pins) (fun e s₁ => wpAny (model X.prog X.w) X.A (noteFrame e X.env) (fun _ s₂ => wpAny (model X.prog X.w) X.A (setFlight e none) (fun _ s₃ =>
    wpAny (model X.prog X.w) X.A (handleBy e X.env (h₀ :: hds)) (SP X pins D) X.xe s₃) X.xe s₂) X.xe s₁) (fun u s' xx => ?_) PassesOwn.looking).run [] s σ H D (I.toTry _) h) (fun f s1 hsp => ?_) (fun e s1 he => he)
  · -- the catch
    obtain ⟨a, B, sI, pins', σ', H', cls, d, rfl, J', nb, up, sky, na, os, ag, w⟩ := xx
    have J : Inv X pins σ' H' sI := J'.ofTry ok
    have sky' : Sky B (X.env :: X.outer) a (Zc cls d) X.env.locals s'.heap := by rw [← hs]; exact sky
    show wpAny (model X.prog X.w) X.A (noteFrame (.ref a) X.env) _ _ _
    refine Sky.land Zc.steady hfr hf sky' fun h3 fl3 up3 => ?_
    have J3 : Inv X pins σ' H' { s' with heap := h3 } := J.landed nb fl3.1 (up.trans up3) os ag
    obtain ⟨oe3, vs3, he3, hz3, hd3⟩ := fl3.there
    have notFr : ∀ {h : Heap} {o : Obj} {vs : Array Value}, h.FunFrames B (X.env :: X.outer) → h.get? a = some o → o.data = .fields vs → a ∉ frs (X.env :: X.outer) := fun {h o vs} ff e dd hm => by
      obtain ⟨_, o', e', hnf⟩ := ff.mem hm
      rw [e] at e'; cases e'
      exact hnf _ dd
    have nfr := notFr fl3.2.2.1 he3 hd3
    have nL : a ≠ X.env.locals := fun z => nfr (List.mem_filterMap.mpr ⟨X.env, List.mem_cons_self, by rw [hf, z]⟩)
    have nF : a ∉ X.fs := fun hm => by
      obtain ⟨e, he, q⟩ := List.mem_filterMap.mp hm
      exact nfr (List.mem_filterMap.mpr ⟨e, List.mem_cons_of_mem _ he, q⟩)
    have S3 := J3.suite he3 hd3 na nL nF
    have go : ∀ {hds' : List ExceptHandler} {l' : List (Value × (Addr → Value → Option Addr → TS))}, HdsAs X n hds' l' → wManyAs X.K i Wout D l' cls d σ' H' →
        wpAny (model X.prog X.w) X.A (handleBy (.ref a) X.env hds') (SP X pins D) X.xe { s' with heap := h3 } := by
      intro hds' l' hk
      induction hk with
      | nil =>
        intro w
        refine wpAny_handleBy_nil ?_
        obtain ⟨k1, k2, k3, oe, vs, T, oT, ts', he, hz, hd, h1, hr⟩ := id fl3
        unfold PySem.passOn
        refine wpAny_bind (wpAny_field he hd h1 ?_)
        rw [if_neg (show ¬ ((Value.ref T == Value.none) = true) from by simp)]
        have fin : wpAny (model X.prog X.w) X.A (setFlight (.ref a) X.env.frame) (fun _ s4 => wpAny (model X.prog X.w) X.A (throw (.ref a) : Sem Flow) (SP X pins D) X.xe s4) X.xe { s' with heap := h3 } := by
          rw [hf]
          refine HandSPX.setFlight_upZ fl3 fun h4 hh4 up4 => wpAny_throw (tk _ _ ?_)
          exact ⟨a, B, sI, pins, σ', H', cls, d, rfl, J, nb, (up.trans up3).trans up4, .inr (.inr (by rw [hs]; exact hh4)), na, os, ag, w⟩
        first
          | exact wpAny_bind (wpAny_pure (wpAny_bind fin))
          | exact wpAny_bind fin
      | @cons x c ts b₀ suite np pos' hds2 l2 hc hsu r ih =>
        intro w
        obtain ⟨b, hb1, hyes, hno⟩ := w
        refine wpAny_handleBy_cons (codeAny_handlers_test ?_) (by intro q; cases q)
        have LT : PySem.W.Looks (model X.prog X.w) h3 (typeOf (.ref a)) cls := fun A Q E s k q => wpAny_typeOf_ref (k _ _ he3) (by rw [hz3.1]; exact q)
        have LM := PySem.W.exm_one (M := model X.prog X.w) (J3.kIn) LT hb1
        have test : ∀ {Q : Value → Shared → Prop} {E : Value → Shared → Prop}, Q c { s' with heap := h3 } → wpAny (model X.prog X.w) (X.A.mark (some (.ref a))) (eval (.Name x np) X.env) Q E { s' with heap := h3 } := fun {Q E} q => by
          obtain ⟨hg, hdbg, hm | ⟨hm, hv, hnn⟩⟩ := hc
          · exact ld_glob (X := X.suite a ((a, oe3) :: (X.pn ++ pins))) S3 hg hm q hdbg
          · exact ld_blt (X := X.suite a ((a, oe3) :: (X.pn ++ pins))) S3 hg hm hv q hnn hdbg
        refine test (LM.here ?_)
        cases b with
        | true =>
          refine codeAny_handlers_suite_as ?_
          refine HandSPX.lands_againZ fl3 fun h4 fl4 up4 => ?_
          have J4 : Inv X pins σ' H' { s' with heap := h4 } := J.landed nb fl4.1 ((up.trans up3).trans up4) os ag
          obtain ⟨oe4, vs4, he4, hz4, hd4⟩ := fl4.there
          have S4 := J4.suite he4 hd4 na nL nF
          refine store_ok (X := X.suite a ((a, oe4) :: (X.pn ++ pins))) (v := .ref a) S4 hN hi hloc rfl (fun s5 S5 => ?_) (.inr hln)
          refine wpAny_mono ((hsu a oe4 cls d (X.pn ++ pins) hz4 ⟨_, hd4⟩).run [] s5 _ H' _ S5 (hyes rfl a na)) (fun f s6 hsp => ?_) (fun _ _ z => False.elim z)
          have end_ : ∀ {σ6 : L2.St} {H6 : Hp} {Q : Shared → Prop}, Inv (X.suite a ((a, oe4) :: (X.pn ++ pins))) [] σ6 H6 s6 → (∀ s7, Inv X pins (σ6.set i none) H6 s7 → Q s7) →
              wpAny (model X.prog X.w) X.A (do bindName X.env n .none; unbindBehindTheSuite X.env n pos') (fun _ s7 => Q s7) X.xe s6 := fun {σ6 H6 Q} S6 hq => gone_ok (S6.unsuite ok) hN hi hln hq
          cases f with
          | next =>
            obtain ⟨σ6, H6, S6, q6⟩ := hsp
            exact end_ S6 fun s7 J7 => ⟨_, _, J7, q6⟩
          | brk =>
            obtain ⟨σ6, H6, S6, q6⟩ := hsp
            exact end_ S6 fun s7 J7 => ⟨_, _, J7, q6⟩
          | cont =>
            obtain ⟨σ6, H6, S6, q6⟩ := hsp
            exact end_ S6 fun s7 J7 => ⟨_, _, J7, q6⟩
          | ret u =>
            obtain ⟨v6, σ6, H6, S6, r6, q6⟩ := hsp
            exact end_ S6 fun s7 J7 => ⟨_, _, _, J7, r6, q6⟩
        | false =>
          show wpAny _ X.A (handleBy (.ref a) X.env hds2) _ _ _
          exact ih (hno rfl)
    exact go hh w
  · cases f with
    | next =>
      obtain ⟨σ', H', J', q⟩ := hsp
      exact wpAny_execs_nil ⟨σ', H', J'.ofTry ok, q⟩
    | brk =>
      obtain ⟨σ', H', J', q⟩ := hsp
      exact ⟨σ', H', J'.ofTry ok, q⟩
    | cont =>
      obtain ⟨σ', H', J', q⟩ := hsp
      exact ⟨σ', H', J'.ofTry ok, q⟩
    | ret u =>
      obtain ⟨v, σ', H', J', r, q⟩ := hsp
      exact ⟨v, σ', H', J'.ofTry ok, r, q⟩
end
end K82
end

section
set_option maxHeartbeats 4000000
/-! operators of an own class: * from both sides, *=, == and !=, str and repr -/
namespace K82
open PySem PySem.Spec PyProof.Rows L2
section
open PySem.W PySem.Calls Builtin
variable {prog : Program} {w : World} {A : Around} {E : Value → Shared → Prop} {s : Shared} {K : Frag} {x C dx f g : Addr} {ox : Obj} {od : Option Obj} {T : String}
/-- what the class at C and the built-in type T say of * -/
structure MulK (K : Frag) (C f g : Addr) : Prop where
  sf : selfFirst K C = true
  mul : findIn K (.ref C) "__mul__" = some (some (.ref f))
  fm : isFn K (.ref f) = true
  rmul : findIn K (.ref C) "__rmul__" = some (some (.ref g))
  fr : isFn K (.ref g) = true
  imul : findIn K (.ref C) "__imul__" = some none
  int : subIn K (.ref C) (.type "int") = some false
structure MulT (K : Frag) (C : Addr) (T : String) (fo ro : Option Value) : Prop where
  m : findIn K (.type T) "__mul__" = some fo
  r : findIn K (.type T) "__rmul__" = some ro
  sub : subIn K (.type T) (.ref C) = some false
  sub' : subIn K (.ref C) (.type T) = some false
theorem op_info_mult : (Operator.Mult).info = ("*", "mul") := rfl
theorem bin_left {b : Value} {fo ro : Option Value} {Q : Value → Shared → Prop} (X : K.In s.heap) (I : InstAt s.heap x ox C od) (hb : Looks (model prog w) s.heap (typeOf b) (.type T)) (k : MulK K C f g) (t : MulT K C T fo ro)
    (h : wpAny (model prog w) A (call (.ref f) [.ref x, b]) (PySem.W.CmpBack Q) E s) : wpAny (model prog w) A (binaryOp .Mult (.ref x) b) Q E s := by
  obtain ⟨cd, rest, hcd, hm⟩ := ksp_first k.sf
  have hs := k.mul
  have one := ksp_try X I hs k.fm h
  obtain ⟨hh, g', d, tt, os⟩ := s
  have L1 : Looks (model prog w) hh (typeOf (.ref x)) (.ref C) := I.type
  have L2 : Looks (model prog w) hh (typeOf b) (.type T) := hb
  have L3 : Looks (model prog w) hh (fillsNumberSlot (.ref C) "mul") true := fills_K X hcd hm hs
  have L4 : Looks (model prog w) hh (fillsNumberSlot (.type T) "mul") ((fo.isSome && !isSeqSlot fo) || (ro.isSome && !isSeqSlot ro)) := ksp_fillsT X t.m t.r
  have L5 : Looks (model prog w) hh (isSubtype (.type T) (.ref C)) false := looks_subIn X t.sub
  have L6 : Looks (model prog w) hh (numberSlotInPython (.ref C) "mul") true := ksp_inPy X hs k.rmul (.inr ⟨_, rfl⟩)
  have L7 : Looks (model prog w) hh (numberSlotInPython (.type T) "mul") false := Looks.of_pure rfl
  have L8 : Looks (model prog w) hh (typeLookup (.type T) (dunderR "mul")) ro := looks_findIn X t.r
  generalize ((fo.isSome && !isSeqSlot fo) || (ro.isSome && !isSeqSlot ro)) = right at L4
  have hne : (Value.ref C == Value.type T) = false := Bool.eq_false_iff.mpr fun q => by cases beq_iff_eq.mp q
  simp only [binaryOp, op_info_mult]
  refine wpAny_holding (wpAny_bind ?_)
  unfold binaryOp1
  refine wpAny_bind (L1.at (wpAny_bind (L2.at (wpAny_bind (L3.at ?_)))))
  simp only [hne, Bool.false_eq_true, if_false]
  cases right with
  | false =>
    ksp_lk
    refine wpAny_mono one (fun r s' hr' => ?_) fun _ _ e => e
    obtain ⟨v, rfl, hq⟩ := hr'
    ksp_lk
    exact hq
  | true =>
    ksp_lk
    refine wpAny_mono one (fun r s' hr' => ?_) fun _ _ e => e
    obtain ⟨v, rfl, hq⟩ := hr'
    ksp_lk
    exact hq
/-- int.__mul__ declines an instance -/
theorem int_declines {n : Value} (hn : (∃ (a : Int) (t : Tok), n = .int a t) ∨ ∃ b : Bool, n = .bool b) {Q : Value → Shared → Prop} (at_x : s.heap.get? x = some (instObj C dx)) (h : Q .notImplemented s) : wpAny (model prog w) A (call (.builtin "int.__mul__") [n, .ref x]) Q E s := by
  rcases hn with ⟨a, t, rfl⟩ | ⟨b, rfl⟩
  · refine wpAny_call (codeAny_call_builtin PySem.F.slot_int_mul.plain PySem.F.entry_int_mul (check_slot (i := "int.__mul__") (owner := "int") (n := "__mul__") (by decide +kernel) (by decide +kernel) (Looks.of_pure (by first | rfl | decide +kernel)) (PySem.F.args_int_mul_2 _ _) ?_))
    obtain ⟨hp, g', d, tk, os⟩ := s
    wp_walk using AutoSeq1.wpAny_loadPart' at_x
    first | exact h | exact ⟨_, rfl, h⟩ | skip
  · refine wpAny_call (codeAny_call_builtin PySem.F.slot_int_mul.plain PySem.F.entry_int_mul (check_slot (i := "int.__mul__") (owner := "int") (n := "__mul__") (by decide +kernel) (by decide +kernel) (Looks.of_pure (by first | rfl | decide +kernel)) (PySem.F.args_int_mul_2 _ _) ?_))
    obtain ⟨hp, g', d, tk, os⟩ := s
    wp_walk using AutoSeq1.wpAny_loadPart' at_x
    first | exact h | exact ⟨_, rfl, h⟩ | skip
theorem bin_right {b : Value} {fo ro : Option Value} {Q : Value → Shared → Prop} (X : K.In s.heap) (I : InstAt s.heap x (instObj C dx) C od) (hb : Looks (model prog w) s.heap (typeOf b) (.type T)) (k : MulK K C f g) (t : MulT K C T fo ro)
    (hl : ((fo.isSome && !isSeqSlot fo) || (ro.isSome && !isSeqSlot ro)) = false ∨ (fo = some (.builtin "int.__mul__") ∧ ((∃ (a : Int) (t : Tok), b = .int a t ∧ T = "int") ∨ ∃ y : Bool, b = .bool y ∧ T = "bool")))
    (h : wpAny (model prog w) A (call (.ref g) [.ref x, b]) (PySem.W.CmpBack Q) E s) : wpAny (model prog w) A (binaryOp .Mult b (.ref x)) Q E s := by
  obtain ⟨cd, rest, hcd, hm⟩ := ksp_first k.sf
  have hs := k.mul
  have one := ksp_try X I k.rmul k.fr h
  have decl : ((∃ (a : Int) (t : Tok), b = .int a t ∧ T = "int") ∨ ∃ y : Bool, b = .bool y ∧ T = "bool") → wpAny (model prog w) A (tryMethod b (PySem.dunder "mul") (.ref x)) (fun r s' => r = none ∧ s' = s) E s := by
    rintro (⟨a, tk, rfl, rfl⟩ | ⟨y, rfl, rfl⟩)
    · exact wpAny_tryMethod_declines (typeIs_int _ _ _) PySem.F.slot_int_mul (int_declines (.inl ⟨_, _, rfl⟩) I.at_ ⟨rfl, rfl, rfl⟩)
    · exact wpAny_tryMethod_declines (PySem.typeIs_bool _ _) PySem.F.slot_bool_mul (int_declines (.inr ⟨_, rfl⟩) I.at_ ⟨rfl, rfl, rfl⟩)
  obtain ⟨hh, g', d, tt, os⟩ := s
  have L1 : Looks (model prog w) hh (typeOf (.ref x)) (.ref C) := I.type
  have L2 : Looks (model prog w) hh (typeOf b) (.type T) := hb
  have L3 : Looks (model prog w) hh (fillsNumberSlot (.ref C) "mul") true := fills_K X hcd hm hs
  have L4 : Looks (model prog w) hh (fillsNumberSlot (.type T) "mul") ((fo.isSome && !isSeqSlot fo) || (ro.isSome && !isSeqSlot ro)) := ksp_fillsT X t.m t.r
  have L5 : Looks (model prog w) hh (isSubtype (.ref C) (.type T)) false := looks_subIn X t.sub'
  have L7 : Looks (model prog w) hh (numberSlotInPython (.type T) "mul") false := Looks.of_pure rfl
  have hne : (Value.type T == Value.ref C) = false := Bool.eq_false_iff.mpr fun q => by cases beq_iff_eq.mp q
  simp only [binaryOp, op_info_mult]
  refine wpAny_holding (wpAny_bind ?_)
  unfold binaryOp1
  rcases hl with hl | ⟨rfl, hl⟩
  · rw [hl] at L4
    refine wpAny_bind (L2.at (wpAny_bind (L1.at (wpAny_bind (L4.at ?_)))))
    simp only [hne, Bool.false_eq_true, if_false]
    ksp_lk
    refine wpAny_mono one (fun r s' hr' => ?_) fun _ _ e => e
    obtain ⟨v, rfl, hq⟩ := hr'
    ksp_lk
    exact hq
  · have e : ((some (Value.builtin "int.__mul__")).isSome && !isSeqSlot (some (Value.builtin "int.__mul__")) || (ro.isSome && !isSeqSlot ro)) = true := by
      rw [show ((some (Value.builtin "int.__mul__")).isSome && !isSeqSlot (some (Value.builtin "int.__mul__"))) = true by decide +kernel]; rfl
    rw [e] at L4
    have de := decl hl
    clear decl hl e
    refine wpAny_bind (L2.at (wpAny_bind (L1.at (wpAny_bind (L4.at ?_)))))
    simp only [hne, Bool.false_eq_true, if_false]
    ksp_lk
    refine wpAny_mono de (fun r s' hr' => ?_) fun _ _ e => e
    obtain ⟨rfl, rfl⟩ := hr'
    ksp_lk
    refine wpAny_mono one (fun r s' hr' => ?_) fun _ _ e => e
    obtain ⟨v, rfl, hq⟩ := hr'
    ksp_lk
    exact hq
end
end K82
end

section
set_option maxHeartbeats 4000000
/-! *= of an own class -/
namespace K82
open PySem PySem.Spec PyProof.Rows L2
section
open PySem.W PySem.Calls Builtin
variable {prog : Program} {w : World} {A : Around} {E : Value → Shared → Prop} {s : Shared} {K : Frag} {x C dx f g : Addr} {ox : Obj} {od : Option Obj} {T : String}
theorem not_inplace {M : Model} {h : Heap} {cd : ClassData} (X : K.In h) (hc : clsIn K C = some cd) (hm : cd.mro = [.ref C, .type "object"]) (hi : findIn K (.ref C) "__imul__" = some none) (ho : findIn K (.type "object") "__imul__" = some none) : Looks M h (fillsInplaceSlot (.ref C) "mul" false) false := by
  intro A Q E s k q
  have Lm : Looks M h (mroOf (.ref C)) cd.mro := (looks_clsIn X hc).andThen (f := fun cd => pure cd.mro) .now
  have Lm' := Lm.keeps k
  obtain ⟨hh, g, d, tt, os⟩ := s
  have X' : K.In hh := X.keeps k
  have L1 : Looks M hh (typeLookup (.ref C) (dunderI "mul")) none := looks_findIn X' hi
  have L2 : Looks M hh (typeLookup (.type "object") (dunderI "mul")) none := looks_findIn X' ho
  unfold fillsInplaceSlot
  refine wpAny_bind (Lm'.at ?_)
  rw [hm, List.anyM_cons]
  refine wpAny_bind ?_
  repeat lk
  exact q
theorem bin1_left {b : Value} {fo ro : Option Value} {Q : Value → Shared → Prop} (X : K.In s.heap) (I : InstAt s.heap x ox C od) (hb : Looks (model prog w) s.heap (typeOf b) (.type T)) (k : MulK K C f g) (t : MulT K C T fo ro)
    (h : wpAny (model prog w) A (call (.ref f) [.ref x, b]) (PySem.W.CmpBack Q) E s) : wpAny (model prog w) A (binaryOp1 "mul" (.ref x) b) (fun r s' => ∃ v, r = some v ∧ Q v s') E s := by
  obtain ⟨cd', rest, hcd, hm⟩ := ksp_first k.sf
  have hs := k.mul
  have one := ksp_try X I hs k.fm h
  obtain ⟨hh, g', d, tt, os⟩ := s
  have L1 : Looks (model prog w) hh (typeOf (.ref x)) (.ref C) := I.type
  have L2 : Looks (model prog w) hh (typeOf b) (.type T) := hb
  have L3 : Looks (model prog w) hh (fillsNumberSlot (.ref C) "mul") true := fills_K X hcd hm hs
  have L4 : Looks (model prog w) hh (fillsNumberSlot (.type T) "mul") ((fo.isSome && !isSeqSlot fo) || (ro.isSome && !isSeqSlot ro)) := ksp_fillsT X t.m t.r
  have L5 : Looks (model prog w) hh (isSubtype (.type T) (.ref C)) false := looks_subIn X t.sub
  have L6 : Looks (model prog w) hh (numberSlotInPython (.ref C) "mul") true := ksp_inPy X hs k.rmul (.inr ⟨_, rfl⟩)
  have L7 : Looks (model prog w) hh (numberSlotInPython (.type T) "mul") false := Looks.of_pure rfl
  have L8 : Looks (model prog w) hh (typeLookup (.type T) (dunderR "mul")) ro := looks_findIn X t.r
  generalize ((fo.isSome && !isSeqSlot fo) || (ro.isSome && !isSeqSlot ro)) = right at L4
  have hne : (Value.ref C == Value.type T) = false := Bool.eq_false_iff.mpr fun q => by cases beq_iff_eq.mp q
  unfold binaryOp1
  refine wpAny_bind (L1.at (wpAny_bind (L2.at (wpAny_bind (L3.at ?_)))))
  simp only [hne, Bool.false_eq_true, if_false]
  cases right with
  | false =>
    ksp_lk
    refine wpAny_mono one (fun r s' hr' => ?_) fun _ _ e => e
    obtain ⟨v, rfl, hq⟩ := hr'
    ksp_lk
    exact ⟨_, rfl, hq⟩
  | true =>
    ksp_lk
    refine wpAny_mono one (fun r s' hr' => ?_) fun _ _ e => e
    obtain ⟨v, rfl, hq⟩ := hr'
    ksp_lk
    exact ⟨_, rfl, hq⟩
theorem inplace_left {b : Value} {fo ro : Option Value} {Q : Value → Shared → Prop} (X : K.In s.heap) (I : InstAt s.heap x ox C od) (hb : Looks (model prog w) s.heap (typeOf b) (.type T)) (k : MulK K C f g) (t : MulT K C T fo ro)
    {cd : ClassData} (hc : clsIn K C = some cd) (hm' : cd.mro = [.ref C, .type "object"]) (ho : findIn K (.type "object") "__imul__" = some none)
    (h : wpAny (model prog w) A (call (.ref f) [.ref x, b]) (PySem.W.CmpBack Q) E s) : wpAny (model prog w) A (inplaceOp .Mult (.ref x) b) Q E s := by
  have one := bin1_left X I hb k t h
  have L0 := not_inplace (M := model prog w) X hc hm' k.imul ho
  unfold inplaceOp
  refine wpAny_holding (wpAny_bind (I.type.here (wpAny_bind (L0.here ?_))))
  rw [if_neg Bool.false_ne_true]
  refine wpAny_bind (wpAny_mono one (fun r s' hr' => ?_) fun _ _ e => e)
  obtain ⟨v, rfl, hq⟩ := hr'
  exact wpAny_pure hq
end
end K82
end

section
set_option maxHeartbeats 4000000
/-! own operators as rules -/
namespace K82
open PySem PySem.Spec PyProof.Rows L2
theorem cmpBack {X : Cx} {pins : List (Addr × Obj)} {σ : L2.St} {Q : VK} {u : Value} {s : Shared} (h : EP X pins σ Q u s) : PySem.W.CmpBack (EP X pins σ Q) u s := by
  obtain ⟨v, H', I, r, q⟩ := id h
  cases u <;> first | exact h | skip
  cases v with
  | int i => obtain ⟨t, e⟩ := r; cases e
  | str i => obtain ⟨t, e⟩ := r; cases e
  | byt i => obtain ⟨t, e⟩ := r; cases e
  | flt i => obtain ⟨t, e⟩ := r; cases e
  | _ => cases r
section
variable {X : Cx} {CX : CXT} {k : Nat} {f C g : Addr} {fd : FuncData} {ps : List Str} {sp : Sp} {E : XK} {A : Around} {pins : List (Addr × Obj)} {σ : L2.St} {H : Hp} {s : Shared} {Q : VK} {us : List Value} {vs : List V}
theorem run_at (F : FnOk X.prog X.w X.K X.mg X.base CX k f fd ps sp) (hr : Room k A) (hA : A.frames = X.A.frames) (hb : Binds X.K fd ps []) (hx : Passes CX X E) (I : Inv X pins σ H s) (r : Vals vs us) (h : sp vs H Q E) :
    wpAny (model X.prog X.w) A (call (.ref f) us) (EP X pins σ Q) X.xe s := by
  have hl : us.length = ps.length := r.length.symm.trans (F.len _ _ _ _ h)
  have hb' := hb s us I.kIn (by rw [List.append_nil]; exact hl)
  rw [List.append_nil] at hb'
  have e := I.env0
  have e0 : Env0 X.prog X.w X.K X.mg X.base A X.stack s H := ⟨by rw [hA]; exact e.frames, e.mod, e.bs, e.bsz, e.funs, e.frf, e.hok, e.bare⟩
  refine wpAny_call (codeAny_mono (F.run A X.stack s H ⟨us, []⟩ us vs Q E hr e0 hb' r h) fun res s' hq => ?_)
  match res, hq with
  | .error e, hq => exact hx pins σ H s e s' I hq
  | .ok (.ret u), hq => exact I.after hq
/-- what an exception leaves behind this body -/
theorem passes_own {E : XK} (hs : X.stack = X.env :: X.outer) (hf : X.env.frame = some X.env.locals) (hex : X.ex = []) {E₁ : Value → Shared → Prop}
    (hx : X.xe = fun e s' => wpAny (model X.prog X.w) X.A (leaving X.env e) (fun _ s'' => L2.CX X.prog X.w X.outer X.H_0 X.s_0 E e s'') E₁ s') : Passes (L2.CX X.prog X.w) X E := passes_call (takes_of hs hf hex hx) fun _ _ _ _ h => h
theorem looks_ty {x : V} {u t : Value} (I : Inv X pins σ H s) (rx : RelV x u) (ty : TyX X.K H x t) : PySem.W.Looks (model X.prog X.w) s.heap (typeOf u) t := by
  obtain ⟨P, k, hp, _⟩ := kit_of I rx ty
  exact k.ty _ _ I.kIn hp
theorem ins_inst {a dx : Addr} {fs : List (Str × V)} (I : Inv X pins σ H s) (e : H a = some (.ins C dx fs)) : ∃ od, PySem.W.InstAt s.heap a (PySem.W.instObj C dx) C (some od) := by
  obtain ⟨mA, O, _⟩ := ins_get I.hok e
  obtain ⟨od, J, _⟩ := O.look
  exact ⟨od, J⟩
/-- x * y, x an instance -/
def rOwnL (K : PySem.W.Frag) (C f g : Addr) (sp : Sp) (E : XK) : R2 := fun x y H Q => ∃ a dx fs T fo ro, x = .ref a ∧ H a = some (.ins C dx fs) ∧ TyX K H y (.type T) ∧ MulT K C T fo ro ∧ sp [x, y] H Q E
theorem op_mulL (m : MulK X.K C f g) (F : FnOk X.prog X.w X.K X.mg X.base CX k f fd ps sp) (hr : Room k X.A) (hb : Binds X.K fd ps []) (hx : Passes CX X E) : OpR X (binaryOp .Mult) (rOwnL X.K C f g sp E) := by
  intro pins s σ H x y v u Q I rx ry h
  obtain ⟨a, dx, fs, T, fo, ro, rfl, ha, ty, t, q⟩ := h
  obtain rfl : v = Value.ref a := rx
  obtain ⟨od, J⟩ := ins_inst I ha
  exact bin_left I.kIn J (looks_ty I ry ty) m t (wpAny_mono (run_at F hr rfl hb hx I (.cons (show RelV (.ref a) (.ref a) from rfl) (.cons ry .nil)) q) (fun _ _ z => cmpBack z) fun _ _ z => z)
/-- y * x -/
def rOwnR (K : PySem.W.Frag) (C f g : Addr) (sp : Sp) (E : XK) : R2 := fun y x H Q => ∃ a dx fs T fo ro, x = .ref a ∧ H a = some (.ins C dx fs) ∧ TyX K H y (.type T) ∧ MulT K C T fo ro ∧
  (((fo.isSome && !isSeqSlot fo) || (ro.isSome && !isSeqSlot ro)) = false ∨ (fo = some (.builtin "int.__mul__") ∧ ((∃ i, y = .int i ∧ T = "int") ∨ ∃ b, y = .bl b ∧ T = "bool"))) ∧ sp [x, y] H Q E
theorem op_mulR (m : MulK X.K C f g) (F : FnOk X.prog X.w X.K X.mg X.base CX k g fd ps sp) (hr : Room k X.A) (hb : Binds X.K fd ps []) (hx : Passes CX X E) : OpR X (binaryOp .Mult) (rOwnR X.K C f g sp E) := by
  intro pins s σ H y x u v Q I ry rx h
  obtain ⟨a, dx, fs, T, fo, ro, rfl, ha, ty, t, hl, q⟩ := h
  obtain rfl : v = Value.ref a := rx
  obtain ⟨od, J⟩ := ins_inst I ha
  refine bin_right I.kIn J (looks_ty I ry ty) m t (hl.imp id fun z => ⟨z.1, z.2.imp (fun ⟨i, e, e2⟩ => ?_) fun ⟨b, e, e2⟩ => ?_⟩) (wpAny_mono (run_at F hr rfl hb hx I (.cons (show RelV (.ref a) (.ref a) from rfl) (.cons ry .nil)) q) (fun _ _ z => cmpBack z) fun _ _ z => z)
  · subst e
    obtain ⟨t, rfl⟩ := ry
    exact ⟨_, _, rfl, e2⟩
  · subst e
    obtain rfl : u = Value.bool b := ry
    exact ⟨_, rfl, e2⟩
/-- x *= y -/
theorem ip_mulL (m : MulK X.K C f g) (F : FnOk X.prog X.w X.K X.mg X.base CX k f fd ps sp) (hr : Room k X.A) (hb : Binds X.K fd ps []) (hx : Passes CX X E) (hm : (PySem.W.clsIn X.K C).any (fun cd => cd.mro == [.ref C, .type "object"]) = true) : PIp X .Mult (rOwnL X.K C f g sp E) := by
  intro pins s σ H x y v u Q I rx ry h
  obtain ⟨a, dx, fs, T, fo, ro, rfl, ha, ty, t, q⟩ := h
  obtain rfl : v = Value.ref a := rx
  obtain ⟨od, J⟩ := ins_inst I ha
  obtain ⟨cd, hc, e⟩ := PySem.W.any_some hm
  exact inplace_left I.kIn J (looks_ty I ry ty) m t hc (beq_iff_eq.mp e) rfl (wpAny_mono (run_at F hr rfl hb hx I (.cons (show RelV (.ref a) (.ref a) from rfl) (.cons ry .nil)) q) (fun _ _ z => cmpBack z) fun _ _ z => z)
/-- x == y, x an instance with == of its own -/
def rOwnE (K : PySem.W.Frag) (C : Addr) (sp : Sp) : R2 := fun x y H Q => ∃ a dx fs t, x = .ref a ∧ H a = some (.ins C dx fs) ∧ TyX K H y t ∧ PySem.W.notFirst K C t = true ∧ sp [x, y] H Q E0
theorem op_eqO (F : FnOk X.prog X.w X.K X.mg X.base CX0 k f fd ps sp) (hr : Room k X.A) (hb : Binds X.K fd ps []) (hs : PySem.W.findIn X.K (.ref C) "__eq__" = some (some (.ref f))) (hf : PySem.W.isFn X.K (.ref f) = true) : OpR X (compareOp .Eq) (rOwnE X.K C sp) := by
  intro pins s σ H x y v u Q I rx ry h
  obtain ⟨a, dx, fs, t, rfl, ha, ty, nf, q⟩ := h
  obtain rfl : v = Value.ref a := rx
  obtain ⟨od, J⟩ := ins_inst I ha
  obtain ⟨m, hF⟩ := I.fr
  exact PySem.W.cmp_K (op := .Eq) hr.units0 hF I.ok.mod.kin J (looks_ty I ry ty) nf hs hf (wpAny_mono (run_at F hr rfl hb pass0 I (.cons (show RelV (.ref a) (.ref a) from rfl) (.cons ry .nil)) q) (fun _ _ z => cmpBack z) fun _ _ z => z)
end
end K82
end

section
set_option maxHeartbeats 4000000
/-! != by an own ==; str and repr of an own class -/
namespace K82
open PySem PySem.Spec PyProof.Rows L2
section
open PySem.W PySem.Calls Builtin
variable {prog : Program} {w : World} {A : Around} {E : Value → Shared → Prop} {s : Shared} {K : Frag} {x C L f : Addr} {ox : Obj} {od : Option Obj} {b tb : Value} {h₀ : Heap} {m : Str → Option Value} {name : Str}
theorem ifBound_B {M : Model} {id : String} {args : List Value} {Q : Option Value → Shared → Prop} (X : K.In s.heap) (I : InstAt s.heap x ox C od) (hs : findIn K (.ref C) name = some (some (.builtin id))) (hb : ∀ self, bindSpecial (.builtin id) self = pure (.builtin id, [self]))
    (h : wpAny M A (call (.builtin id) (.ref x :: args)) (fun v => Q (some v)) E s) : wpAny M A (callSpecialIfBound? (.ref x) name args) Q E s := by
  simp only [callSpecialIfBound?, bindSpecialIfBound?]
  refine wpAny_holding (wpAny_bind (wpAny_bind (wpAny_bind (I.type.here ((looks_findIn X hs).here ?_)))))
  refine wpAny_bind (wpAny_askSetting (wpAny_ite ?_))
  have fin : wpAny M A (call (.builtin id) ([.ref x] ++ args) >>= fun v => pure (some v)) Q E s := wpAny_bind (wpAny_mono h (fun v s' h' => wpAny_pure h') fun _ _ h' => h')
  split
  · exact wpAny_bind ((Looks.of_pure (hb _)).here (wpAny_pure (by exact fin)))
  · exact wpAny_tryCatch (wpAny_bind ((Looks.of_pure (hb _)).here (wpAny_pure (by exact fin))))
theorem object_ne {Q : Value → Shared → Prop} (hu : A.in1.units < cLine) (X : K.In s.heap) (I : InstAt s.heap x ox C od) (hm : mroIn K C (.type "object") = some true) (he : findIn K (.ref C) "__eq__" = some (some (.ref f))) (hf : isFn K (.ref f) = true)
    (h : wpAny (model prog w) A.in1 (call (.ref f) [.ref x, b]) (fun v s' => ∃ y : Bool, v = .bool y ∧ Q (.bool (!y)) s') E s) : wpAny (model prog w) A (call (.builtin "object.__ne__") [.ref x, b]) Q E s := by
  refine wpAny_call (codeAny_call_builtin PySem.F.slot_object_ne.plain PySem.F.cmpEntry_ne (check_slot (i := "object.__ne__") (owner := "object") (n := "__ne__") (by decide +kernel) (by decide +kernel) (I.type.andThen (looks_mroIn X hm)) (PySem.F.cmpArgs_ne _ _) ?_))
  have one : ∀ {Q' : Option Value → Shared → Prop}, (∀ y s', Q (.bool (!y)) s' → Q' (some (.bool y)) s') → wpAny (model prog w) A.in1 (callSpecialIfBound? (.ref x) (Str.ofString "__eq__") [b]) Q' E s := fun k => ifBound_K X I he hf (wpAny_mono h (fun v s' hv => by
    obtain ⟨y, rfl, q⟩ := hv
    exact k _ _ q) fun _ _ e => e)
  unfold Builtin.«object.__ne__»
  repeat (first
    | with_reducible refine wpAny_cRoomFor hu ?_
    | (refine wpAny_bind (m := callSpecialIfBound? (.ref x) (Str.ofString "__eq__") [b]) (one fun y s' hq => ?_))
    | wp_step)
  all_goals exact hq
theorem cmp_ne {Q : Value → Shared → Prop} (hu : A.in1.units < cLine) (X : K.In s.heap) (I : InstAt s.heap x ox C od) (hb : Looks (model prog w) s.heap (typeOf b) tb) (hn : notFirst K C tb = true) (hm : mroIn K C (.type "object") = some true)
    (hs : findIn K (.ref C) "__ne__" = some (some (.builtin "object.__ne__"))) (he : findIn K (.ref C) "__eq__" = some (some (.ref f))) (hf : isFn K (.ref f) = true)
    (h : wpAny (model prog w) A.in1 (call (.ref f) [.ref x, b]) (fun v s' => ∃ y : Bool, v = .bool y ∧ Q (.bool (!y)) s') E s) : wpAny (model prog w) A (richCompare .NotEq (.ref x) b) Q E s := by
  have one : wpAny (model prog w) A (tryCompare (.ref x) (cmpInfo .NotEq).2.1 b) (fun r s' => ∃ v, r = some v ∧ Q v s') E s := by
    have two : wpAny (model prog w) A (call (.builtin "object.__ne__") [.ref x, b]) (fun v s' => ∃ y : Bool, v = .bool y ∧ Q v s') E s := object_ne (Q := fun v s' => ∃ y : Bool, v = .bool y ∧ Q v s') hu X I hm he hf (wpAny_mono h (fun v s' hv => by
      obtain ⟨y, rfl, q⟩ := hv
      exact ⟨y, rfl, _, rfl, q⟩) fun _ _ e => e)
    unfold tryCompare
    refine wpAny_bind (ifBound_B X I hs PySem.F.slot_object_ne.bind (wpAny_mono two (fun v s' hv => ?_) fun _ _ e => e))
    obtain ⟨y, rfl, q⟩ := hv
    exact wpAny_pure ⟨_, rfl, q⟩
  unfold richCompare
  simp only [oneThing_ref]
  refine wpAny_holding (wpAny_bind (wpAny_cRoomFor (by show A.units < cLine; exact Nat.lt_of_succ_lt hu) ?_))
  refine wpAny_bind (I.type.here (wpAny_bind (hb.here ?_)))
  split
  · rename_i q
    have e : subIn K tb (.ref C) = some false := by
      rcases Bool.or_eq_true_iff.mp hn with e | e
      · rw [beq_iff_eq.mp e] at q; simp at q
      · exact beq_iff_eq.mp e
    refine wpAny_bind ((looks_subIn X e).here ?_)
    simp only [Bool.false_eq_true, if_false]
    refine wpAny_bind (wpAny_mono one (fun r s' z => ?_) fun _ _ e => e)
    obtain ⟨v, rfl, hq⟩ := z
    exact wpAny_pure hq
  · refine wpAny_bind (wpAny_pure ?_)
    simp only [Bool.false_eq_true, if_false]
    refine wpAny_bind (wpAny_mono one (fun r s' z => ?_) fun _ _ e => e)
    obtain ⟨v, rfl, hq⟩ := z
    exact wpAny_pure hq
end
section
variable {X : Cx} {CX : CXT} {k : Nat} {f C g : Addr} {fd : FuncData} {ps : List Str} {sp : Sp} {E : XK} {A : Around} {pins : List (Addr × Obj)} {σ : L2.St} {H : Hp} {s : Shared} {Q : VK} {us : List Value} {vs : List V}
/-- x != y, x an instance with == of its own -/
def rOwnN (K : PySem.W.Frag) (C : Addr) (sp : Sp) : R2 := fun x y H Q => ∃ a dx fs t, x = .ref a ∧ H a = some (.ins C dx fs) ∧ TyX K H y t ∧ PySem.W.notFirst K C t = true ∧ sp [x, y] H (fun v H' => ∃ c : Bool, v = .bl c ∧ Q (.bl (!c)) H') E0
theorem op_neO (F : FnOk X.prog X.w X.K X.mg X.base CX0 k f fd ps sp) (hr : Room (k + 1) X.A) (hb : Binds X.K fd ps []) (hm : PySem.W.mroIn X.K C (.type "object") = some true) (hn : PySem.W.findIn X.K (.ref C) "__ne__" = some (some (.builtin "object.__ne__")))
    (hs : PySem.W.findIn X.K (.ref C) "__eq__" = some (some (.ref f))) (hf : PySem.W.isFn X.K (.ref f) = true) : OpR X (compareOp .NotEq) (rOwnN X.K C sp) := by
  intro pins s σ H x y v u Q I rx ry h
  obtain ⟨a, dx, fs, t, rfl, ha, ty, nf, q⟩ := h
  obtain rfl : v = Value.ref a := rx
  obtain ⟨od, J⟩ := ins_inst I ha
  refine cmp_ne hr.in1.units0 I.kIn J (looks_ty I ry ty) nf hm hn hs hf (wpAny_mono (run_at F hr.in1 rfl hb pass0 I (.cons (show RelV (.ref a) (.ref a) from rfl) (.cons ry .nil)) q) (fun r s' z => ?_) fun _ _ z => z)
  obtain ⟨v', H', I', rv, c, rfl, q'⟩ := z
  obtain rfl : r = Value.bool c := rv
  exact ⟨c, rfl, .bl (!c), H', I', rfl, q'⟩
theorem strBack {u : Value} (h : ∃ z H', Inv X pins σ H' s ∧ RelV (.str z) u ∧ Q (.str z) H') : PySem.W.StrBack (EP X pins σ Q) u s := by
  obtain ⟨z, H', I, ⟨t, rfl⟩, q⟩ := h
  exact ⟨.str z, H', I, ⟨t, rfl⟩, q⟩
/-- str(x), repr(x), x an instance with a def of its own for it -/
def rOwnS (C : Addr) (sp : Sp) : List V → Hp → VK → Prop := fun xs H Q => ∃ a dx fs, xs = [.ref a] ∧ H a = some (.ins C dx fs) ∧ sp [.ref a] H (fun v H' => ∃ z : Str, v = .str z ∧ Q (.str z) H') E0
theorem call_strO (F : FnOk X.prog X.w X.K X.mg X.base CX0 k f fd ps sp) (hr : Room (k + 2) X.A) (hb : Binds X.K fd ps []) (hs : PySem.W.findIn X.K (.ref C) "__str__" = some (some (.ref f))) (hf : PySem.W.isFn X.K (.ref f) = true) : CallR X (.type "str") (rOwnS C sp) := by
  intro pins s σ H xs us Q I r h
  obtain ⟨a, dx, fs, rfl, ha, q⟩ := h
  obtain ⟨u, rfl, ru⟩ := vals1 r
  obtain rfl : u = Value.ref a := ru
  obtain ⟨od, J⟩ := ins_inst I ha
  refine PySem.W.kso_call hr.in1.in1.units0 I.kIn J hs hf (wpAny_mono (run_at F hr.in1.in1 rfl hb pass0 I (.cons (show RelV (.ref a) (.ref a) from rfl) .nil) q) (fun r s' z => ?_) fun _ _ z => z)
  obtain ⟨v', H', I', rv, c, rfl, q'⟩ := z
  exact strBack ⟨c, H', I', rv, q'⟩
theorem call_reprO (F : FnOk X.prog X.w X.K X.mg X.base CX0 k f fd ps sp) (hr : Room (k + 1) X.A) (hb : Binds X.K fd ps []) (hs : PySem.W.findIn X.K (.ref C) "__repr__" = some (some (.ref f))) (hf : PySem.W.isFn X.K (.ref f) = true) : CallR X (.builtin "repr") (rOwnS C sp) := by
  intro pins s σ H xs us Q I r h
  obtain ⟨a, dx, fs, rfl, ha, q⟩ := h
  obtain ⟨u, rfl, ru⟩ := vals1 r
  obtain rfl : u = Value.ref a := ru
  obtain ⟨od, J⟩ := ins_inst I ha
  obtain ⟨m, hF⟩ := I.fr
  refine PySem.W.repr_K hr.in1.units0 hF I.ok.mod.kin J hs hf (wpAny_mono (run_at F hr.in1 rfl hb pass0 I (.cons (show RelV (.ref a) (.ref a) from rfl) .nil) q) (fun r s' z => ?_) fun _ _ z => z)
  obtain ⟨v', H', I', rv, c, rfl, q'⟩ := z
  exact strBack ⟨c, H', I', rv, q'⟩
/-- repr(x) of data of any kind, not of heap objects alone -/
def rReprA : List V → Hp → VK → Prop := fun xs H Q => ∃ (v : V) (d : PyData), xs = [v] ∧ Dx H v d ∧ d.showable = true ∧ d.depth ≤ 40 ∧ d.shown.length ≤ sizeLine ∧ Q (.str d.shown) H
theorem call_reprA {X : Cx} (hg : X.A.guards = some []) (hu : X.A.units + 64 < cLine) (hs : ∃ o, X.K.lookup sysModules = some o ∧ o.cls ≠ .type "list") : CallR X (.builtin "repr") rReprA := by
  intro pins s σ H xs us Q I r h
  obtain ⟨v, d, rfl, hd, sh, dp, sz, q⟩ := h
  obtain ⟨u, rfl, ru⟩ := vals1 r
  cases hd with
  | non =>
    obtain rfl : u = Value.none := ru
    exact PySem.P.repr_of_none ⟨.str _, H, I.tok _, ⟨_, rfl⟩, q⟩
  | bl b =>
    obtain rfl : u = Value.bool b := ru
    have q' : Q (.str (if b then "True" else "False")) H := by cases b <;> exact q
    exact PySem.P.repr_of_bool ⟨.str _, H, I.tok _, ⟨_, rfl⟩, q'⟩
  | int i =>
    obtain ⟨t, rfl⟩ := ru
    exact PySem.P.repr_of_int (of_decide_eq_true (by simpa [PyData.showable] using sh)) ⟨.str _, H, I.tok _, ⟨_, rfl⟩, q⟩
  | str x =>
    obtain ⟨t, rfl⟩ := ru
    exact PySem.P.repr_of_str ⟨.str _, H, I.tok _, ⟨_, rfl⟩, q⟩ sz
  | lst e l => exact call_repr hg hu hs pins s σ H _ _ Q I (.cons ru .nil) ⟨_, _, rfl, .lst e l, sh, dp, sz, q⟩
  | tup e l => exact call_repr hg hu hs pins s σ H _ _ Q I (.cons ru .nil) ⟨_, _, rfl, .tup e l, sh, dp, sz, q⟩
  | dic e l => exact call_repr hg hu hs pins s σ H _ _ Q I (.cons ru .nil) ⟨_, _, rfl, .dic e l, sh, dp, sz, q⟩
end
end K82
end

section
set_option maxHeartbeats 4000000
/-! static methods read off a class and off an instance -/
namespace K82
open PySem PySem.Spec PyProof.Rows L2 ClX
/-- C.m is a static method: its record at p, its def at g -/
structure SMet (K : PySem.W.Frag) (C : Addr) (mc : Value) (m : Str) (p g : Addr) : Prop where
  rd : CRead K C mc
  at_ : PySem.W.findCls K (.ref C) mc m = some (.get (.builtin "staticmethod.__get__") (.ref p) .none (.ref C))
  rc : ∃ rest, PySem.W.recIn K p "staticmethod" = some (.ref g :: rest)
  pg : PySem.W.plainGet K C Str.empty = true
  ic : PySem.W.isClsIn K C = true
  ai : PySem.W.findIn K (.ref C) m = some (some (.ref p))
  ty : PySem.W.typeIn K (.ref p) = some (.type "staticmethod")
  get : PySem.W.specialIn K (.ref p) "__get__" = some (some (.builtin "staticmethod.__get__"))
  tk : PySem.W.takesIn K (.ref p) = some false
  cp : PySem.W.copiedNames.contains m = false
  kp : PySem.W.keepIn K (.ref g) = true
theorem SMet.get' {K : PySem.W.Frag} {C : Addr} {mc : Value} {m : Str} {p g : Addr} (k : SMet K C mc m p g) : PySem.W.plainGet K C m = true := k.pg
section
variable {X : Cx} {pins : List (Addr × Obj)} {σ : L2.St} {H : Hp} {s : Shared} {a C p g : Addr} {mc : Value} {m : Str} {A : Around} {E : Value → Shared → Prop}
theorem getsm_cls {pl : Sem Bool} {Q : Value × List Value → Shared → Prop} (I : Inv X pins σ H s) (k : SMet X.K C mc m p g) (h : ∀ s', Inv X pins σ H s' → Q (.ref g, []) s') : wpAny (model X.prog X.w) A (getMethod (.ref C) m pl) Q E s := by
  obtain ⟨rest, hp⟩ := k.rc
  refine PySem.W.method_cls I.kIn k.rd.ga (PySem.W.cls_bind I.kIn k.rd.rd k.at_ ?_)
  exact wpAny_call (PySem.W.sm_get (s := { s with toks := s.toks + 1 }) I.kIn hp (PySem.W.handed_on rfl (h _ (I.tok _))))
theorem getsm_ins {pl : Sem Bool} {ox od : Obj} {Q : Value × List Value → Shared → Prop} (I : Inv X pins σ H s) (J : PySem.W.InstAt s.heap a ox C (some od)) (hl : PySem.W.lookIn m od = some none) (k : SMet X.K C mc m p g)
    (h : ∀ s', Inv X pins σ H s' → Q (.ref g, []) s') : wpAny (model X.prog X.w) A (getMethod (.ref a) m pl) Q E s := by
  obtain ⟨rest, hp⟩ := k.rc
  refine PySem.W.method_usual (r := some (.ref p)) I.kIn J (PySem.W.plainGet_of k.get').1 (PySem.W.plainGet_of k.get').2 k.ai ?_ ?_
  · show ((PySem.W.typeIn X.K (.ref p)).any fun t => t != .type "function" && t != .type "method_descriptor" && t != .type "wrapper_descriptor") = true
    rw [k.ty]
    first
    | rfl
    | decide +kernel
  · refine PySem.W.get_bind I.kIn J (PySem.W.plainGet_of k.get').1 (find_cm k.ic k.ai k.get k.tk k.cp hl) (PySem.W.plainGet_of k.get').2 ?_
    exact wpAny_call (PySem.W.sm_get (s := { s with toks := s.toks + 1 }) I.kIn hp (PySem.W.handed_on rfl (h _ (I.tok _))))
end
/-- e.m(..), e the class, m a static method -/
def tSm (C : Addr) (sp : Sp) (E : XK) (ta : TE) (t : TA) : TE := fun σ H Q => ta σ H fun x H1 => x = .ref C ∧ t σ H1 fun vs H2 => sp vs H2 Q E
def tSmI (C : Addr) (m : Str) (sp : Sp) (E : XK) (ta : TE) (t : TA) : TE := fun σ H Q => ta σ H fun x H1 => ∃ a dx fs, x = .ref a ∧ H1 a = some (.ins C dx fs) ∧ fs.lookup m = none ∧ t σ H1 fun ws H2 => sp ws H2 Q E
section
variable {X : Cx} {CX : CXT} {k : Nat} {C p g : Addr} {mc : Value} {sp : Sp} {E : XK} {o e : Expr} {es : List Expr} {kws : List Keyword} {m : Str} {pos apos : Pos} {ta : TE} {t tk : TA} {pl : Sem Bool} {fd : FuncData} {ps ks : List Str} {gf : List Value → List Value} {gV : List V → List V}
theorem pe_sm (he : PE X o ta) (c : SMet X.K C mc m p g) (F : FnOk X.prog X.w X.K X.mg X.base CX k g fd ps sp) (hr : Room k X.A) (hb : Binds X.K fd ps []) (hx : Passes CX X E) (ha : PA X (e :: es) t)
    (hst : starEach (e :: es) X.env = (false, eval e X.env) :: starEach es X.env := by rfl) (hpl : (backTo pos (starEach es X.env)).any (·.1) = false := by rfl)
    (ht : eval (.Call (.Attribute o m apos) (e :: es) [] pos) X.env = (do
      let ov ← eval o X.env
      standAt apos.atName
      let (f, first) ← holding [ov] (getMethod ov m pl)
      callWith pos f first (backTo pos (starEach (e :: es) X.env)) (backToKw pos (keywordEach [] X.env))) := by rfl) :
    PE X (.Call (.Attribute o m apos) (e :: es) [] pos) (tSm C sp E ta t) := by
  refine ⟨fun pins s σ H Q I h => ?_⟩
  refine PySem.W.methodCall_KW (pl := pl) (thn (he.run pins s σ H _ I h) fun u s1 ⟨x, H1, I1, rx, ex, q⟩ => ?_) ht
  subst ex
  obtain rfl : u = Value.ref C := rx
  refine getsm_cls I1 c fun s2 I2 => ?_
  exact PySem.W.callWith_K (h₀ := X.base) I.ok.mod.kin c.kp (thn (ha.run pos _ s2 σ H1 _ I2 q) fun us s3 ⟨vs, H2, I3, rv, q2⟩ => ⟨I3.kIn, run_at F hr rfl hb hx I3 rv q2⟩) hst hpl
theorem pe_smI (he : PE X o ta) (c : SMet X.K C mc m p g) (F : FnOk X.prog X.w X.K X.mg X.base CX k g fd ps sp) (hr : Room k X.A) (hb : Binds X.K fd ps []) (hx : Passes CX X E) (ha : PA X (e :: es) t)
    (hst : starEach (e :: es) X.env = (false, eval e X.env) :: starEach es X.env := by rfl) (hpl : (backTo pos (starEach es X.env)).any (·.1) = false := by rfl)
    (ht : eval (.Call (.Attribute o m apos) (e :: es) [] pos) X.env = (do
      let ov ← eval o X.env
      standAt apos.atName
      let (f, first) ← holding [ov] (getMethod ov m pl)
      callWith pos f first (backTo pos (starEach (e :: es) X.env)) (backToKw pos (keywordEach [] X.env))) := by rfl) :
    PE X (.Call (.Attribute o m apos) (e :: es) [] pos) (tSmI C m sp E ta t) := by
  refine ⟨fun pins s σ H Q I h => ?_⟩
  refine PySem.W.methodCall_KW (pl := pl) (thn (he.run pins s σ H _ I h) fun u s1 ⟨x, H1, I1, rx, a, dx, fs, ex, ea, l, q⟩ => ?_) ht
  subst ex
  obtain rfl : u = Value.ref a := rx
  obtain ⟨mA, O, rr, _, _, _⟩ := ins_get I1.hok ea
  have hn : mA m = none := RelO.none_of (by rw [← l]; exact rr m)
  obtain ⟨od, J, hl⟩ := O.look
  refine getsm_ins I1 J (by rw [hl m, hn]) c fun s2 I2 => ?_
  exact PySem.W.callWith_K (h₀ := X.base) I.ok.mod.kin c.kp (thn (ha.run pos _ s2 σ H1 _ I2 q) fun us s3 ⟨vs, H2, I3, rv, q2⟩ => ⟨I3.kIn, run_at F hr rfl hb hx I3 rv q2⟩) hst hpl
/-- a def called by keywords alone -/
structure KB (K : PySem.W.Frag) (fd : FuncData) (ps ks : List Str) (g : List Value → List Value) (gV : List V → List V) : Prop where
  to : ∀ (s : Shared) (ws : List Value), K.In s.heap → (g ws).length = ps.length → BindsTo s fd ⟨[], ks.zip ws⟩ (ps.zip (g ws))
  rel : ∀ {zs : List V} {ws : List Value}, Vals zs ws → Vals (gV zs) (g ws)
theorem Fun.kb {K : PySem.W.Frag} {x qual : Str} {st : Stmt} {f : Addr} {fd : FuncData} {ps ks : List Str} {g : List Value → List Value} {gV : List V → List V} (F : Fun K x qual st f fd) (rel : ∀ {zs : List V} {ws : List Value}, Vals zs ws → Vals (gV zs) (g ws))
    (h : ∀ (kV doc pm : Value) (an : Option Addr) (cdv ct : Value) (ws : List Value), (g ws).length = ps.length → bindArgs (PySem.W.fnOf x qual (defArgs st) (defBody st) (defScope st) .none kV doc pm an cdv ct) ⟨[], ks.zip ws⟩ = pure (ps.zip (g ws))) : KB K fd ps ks g gV := by
  obtain ⟨oc, od, kV, doc, pm, an, cdv, ct, osl, rfl, lk, hcd⟩ := F.ex
  exact ⟨fun s ws _ hl => BindsTo.of_eq (h kV doc pm an cdv ct ws hl), rel⟩
def tSmK (C : Addr) (sp : Sp) (gV : List V → List V) (E : XK) (ta : TE) (tk : TA) : TE := fun σ H Q => ta σ H fun x H1 => x = .ref C ∧ tk σ H1 fun zs H2 => sp (gV zs) H2 Q E
theorem pe_smK (he : PE X o ta) (c : SMet X.K C mc m p g) (F : FnOk X.prog X.w X.K X.mg X.base CX k g fd ps sp) (hr : Room k X.A) (hb : KB X.K fd ps ks gf gV) (hx : Passes CX X E) (hkw : PK X kws tk)
    (hall : (backToKw pos (keywordEach kws X.env)).all (·.1.isSome) = true := by rfl) (hks : (backToKw pos (keywordEach kws X.env)).filterMap (·.1) = ks := by rfl)
    (hpl : ((backTo pos (starEach [] X.env)).any (·.1) || (backToKw pos (keywordEach kws X.env)).any (·.1.isNone)) = false := by rfl)
    (ht : eval (.Call (.Attribute o m apos) [] kws pos) X.env = (do
      let ov ← eval o X.env
      standAt apos.atName
      let (f, first) ← holding [ov] (getMethod ov m pl)
      callWith pos f first (backTo pos (starEach [] X.env)) (backToKw pos (keywordEach kws X.env))) := by rfl) :
    PE X (.Call (.Attribute o m apos) [] kws pos) (tSmK C sp gV E ta tk) := by
  refine ⟨fun pins s σ H Q I h => ?_⟩
  refine PySem.W.methodCall_KW (pl := pl) (thn (he.run pins s σ H _ I h) fun u s1 ⟨x, H1, I1, rx, ex, q⟩ => ?_) ht
  subst ex
  obtain rfl : u = Value.ref C := rx
  refine getsm_cls I1 c fun s2 I2 => ?_
  refine PySem.W.callWith_KW0 (h₀ := X.base) I.ok.mod.kin c.kp hall (thn (hkw.run pos pins s2 σ H1 _ I2 q) fun ws s3 ⟨zs, H2, I3, rv, q2⟩ => ⟨I3.kIn, ?_⟩) hpl
  rw [hks]
  have r2 := hb.rel rv
  have hl : (gf ws).length = ps.length := r2.length.symm.trans (F.len _ _ _ _ q2)
  refine wpAny_call (codeAny_mono (F.run X.A X.stack s3 H2 ⟨[], ks.zip ws⟩ (gf ws) (gV zs) Q E hr I3.env0 (hb.to s3 ws I3.kIn hl) r2 q2) fun res s' hq => ?_)
  match res, hq with
  | .error e, hq => exact hx pins σ H2 s3 e s' I3 hq
  | .ok (.ret u), hq => exact I3.after hq
end
end K82
end

section
set_option maxHeartbeats 4000000
/-! the program: rates -/
namespace K82
open PySem PySem.Spec PyProof.Rows L2
theorem bs_value : Bs "ValueError" "ValueError.__new__" "ValueError.__init__" [.type "ValueError", .type "Exception", .type "BaseException", .type "object"] := ⟨F.excBase_ValueError, fun self => F.store_ValueError.passes self⟩
theorem bs_arith : Bs "ArithmeticError" "ArithmeticError.__new__" "ArithmeticError.__init__" [.type "ArithmeticError", .type "Exception", .type "BaseException", .type "object"] := ⟨F.excBase_ArithmeticError, fun self => F.store_ArithmeticError.passes self⟩
/-- an own error with the field value -/
structure ErrV (K : PySem.W.Frag) (mg : Str → Option Value) (n : Str) (C fI : Addr) : Prop where
  T : XB K C [.type "ValueError", .type "Exception", .type "BaseException", .type "object"] "ValueError.__new__"
  J : XI K C fI
  F : XF_value K C fI
  G : mg n = some (.ref C)
structure ErrW (K : PySem.W.Frag) (mg : Str → Option Value) (n : Str) (C fI : Addr) : Prop where
  T : XB K C [.type "ArithmeticError", .type "Exception", .type "BaseException", .type "object"] "ArithmeticError.__new__"
  J : XI K C fI
  F : XF_what_limit K C fI
  G : mg n = some (.ref C)
def tyNs : List String := ["NoneType", "bool", "int", "str", "list", "tuple", "dict"]
theorem tyN_mem (d : PyData) : tyN d ∈ tyNs := match d with
  | .none => (by decide +kernel : "NoneType" ∈ tyNs)
  | .bool _ => (by decide +kernel : "bool" ∈ tyNs)
  | .int _ => (by decide +kernel : "int" ∈ tyNs)
  | .str _ => (by decide +kernel : "str" ∈ tyNs)
  | .list _ => (by decide +kernel : "list" ∈ tyNs)
  | .tuple _ => (by decide +kernel : "tuple" ∈ tyNs)
  | .dict _ => (by decide +kernel : "dict" ∈ tyNs)
/-- what the top has written of the class Rate -/
structure RateC (K : PySem.W.Frag) (mg : Str → Option Value) (ad : Str → Addr) (fd : Str → FuncData) : Prop where
  G : mg "Rate" = some (.ref (ad "Rate"))
  cl : Cls K (ad "Rate")
  mks : Mk K (ad "Rate") (ad "Rate.__init__")
  np : NoAttr K (ad "Rate") "_p"
  nq : NoAttr K (ad "Rate") "_q"
  ml : MulK K (ad "Rate") (ad "Rate.__mul__") (ad "Rate.__rmul__")
  mro : (PySem.W.clsIn K (ad "Rate")).any (fun cd => cd.mro == [.ref (ad "Rate"), .type "object"]) = true
  ob : PySem.W.mroIn K (ad "Rate") (.type "object") = some true
  ca : PySem.W.findIn K (.ref (ad "Rate")) "__class__" = some (some (.builtin "object.__class__"))
  cn : PySem.W.specialIn K (.builtin "object.__class__") "__get__" = some (some (.builtin "getset_descriptor.__get__"))
  ct : PySem.W.takesIn K (.builtin "object.__class__") = some true
  ne : PySem.W.findIn K (.ref (ad "Rate")) "__ne__" = some (some (.builtin "object.__ne__"))
  eq : PySem.W.findIn K (.ref (ad "Rate")) "__eq__" = some (some (.ref (ad "Rate.__eq__")))
  eqf : PySem.W.isFn K (.ref (ad "Rate.__eq__")) = true
  st : PySem.W.findIn K (.ref (ad "Rate")) "__str__" = some (some (.ref (ad "Rate.__str__")))
  stf : PySem.W.isFn K (.ref (ad "Rate.__str__")) = true
  rp : PySem.W.findIn K (.ref (ad "Rate")) "__repr__" = some (some (.ref (ad "Rate.__repr__")))
  rpf : PySem.W.isFn K (.ref (ad "Rate.__repr__")) = true
  rd : SMet K (ad "Rate") (.type "type") "read" (ad "Rate.read!") (ad "Rate.read")
  pp : PropOf K (ad "Rate") "p" (ad "Rate.p!") (ad "Rate.p")
  pq : PropOf K (ad "Rate") "q" (ad "Rate.q!") (ad "Rate.q")
  ps : PropOf K (ad "Rate") "size" (ad "Rate.size!") (ad "Rate.size")
  ty : ∀ T ∈ tyNs, PySem.W.kitOne K (.type T) (.ref (ad "Rate")) = some false ∧ PySem.W.subIn K (.ref (ad "Rate")) (.type T) = some false ∧ PySem.W.subIn K (.type T) (.ref (ad "Rate")) = some false
  F_init : Fun K "__init__" "Rate.__init__" sR_init (ad "Rate.__init__") (fd "Rate.__init__")
  b_init : Binds K (fd "Rate.__init__") ["self", "p", "q"] []
  F_read : Fun K "read" "Rate.read" sR_read (ad "Rate.read") (fd "Rate.read")
  b_read : Binds K (fd "Rate.read") ["string"] []
  F_p : Fun K "p" "Rate.p" sR_p (ad "Rate.p") (fd "Rate.p")
  b_p : Binds K (fd "Rate.p") ["self"] []
  F_q : Fun K "q" "Rate.q" sR_q (ad "Rate.q") (fd "Rate.q")
  b_q : Binds K (fd "Rate.q") ["self"] []
  F_size : Fun K "size" "Rate.size" sR_size (ad "Rate.size") (fd "Rate.size")
  b_size : Binds K (fd "Rate.size") ["self"] []
  F_mul : Fun K "__mul__" "Rate.__mul__" sR_mul (ad "Rate.__mul__") (fd "Rate.__mul__")
  b_mul : Binds K (fd "Rate.__mul__") ["self", "other"] []
  F_rmul : Fun K "__rmul__" "Rate.__rmul__" sR_rmul (ad "Rate.__rmul__") (fd "Rate.__rmul__")
  b_rmul : Binds K (fd "Rate.__rmul__") ["self", "other"] []
  F_eq : Fun K "__eq__" "Rate.__eq__" sR_eq (ad "Rate.__eq__") (fd "Rate.__eq__")
  b_eq : Binds K (fd "Rate.__eq__") ["self", "other"] []
  F_str : Fun K "__str__" "Rate.__str__" sR_str (ad "Rate.__str__") (fd "Rate.__str__")
  b_str : Binds K (fd "Rate.__str__") ["self"] []
  F_repr : Fun K "__repr__" "Rate.__repr__" sR_repr (ad "Rate.__repr__") (fd "Rate.__repr__")
  b_repr : Binds K (fd "Rate.__repr__") ["self"] []
/-- a Rate stands at a -/
def RatO (C : Addr) (H : Hp) (a : Addr) (p q : Int) : Prop := ∃ dx, H a = some (.ins C dx [(("_p" : Str), .int p), (("_q" : Str), .int q)])
theorem RatO.same {C : Addr} {H H' : Hp} {a : Addr} {p q : Int} (h : RatO C H a p q) (s : Same H H') : RatO C H' a p q := h.imp fun _ e => s _ _ e
theorem Dx.fresh {H : Hp} {v : V} {d : PyData} {x : Addr} (h : Dx H v d) (e : H x = none) : v ≠ .ref x := fun z => by
  subst z
  cases h with
  | lst f _ => rw [e] at f; cases f
  | tup f _ => rw [e] at f; cases f
  | dic f _ => rw [e] at f; cases f
def rateD : PyData → Bool
  | .int i => decide (1 ≤ i) && decide (i ≤ 6)
  | _ => false
def betweenD (lo hi : Int) : PyData → Bool
  | .int i => decide (lo ≤ i) && decide (i ≤ hi)
  | _ => false
def timesD : PyData → Bool
  | .int i => decide (1 ≤ i)
  | _ => false
def spBetween : Sp := fun vs H Q _ => ∃ (v : V) (d : PyData) (lo hi : Int), vs = [v, .int lo, .int hi] ∧ Dx H v d ∧ Tame d ∧ ∀ H', Same H H' → Q (.bl (betweenD lo hi d)) H'
/-- an error of the class C that holds v -/
def Err (C : Addr) (E : XK) (H : Hp) (v : V) : Prop := ∀ (H' : Hp) (p : Addr), Same H H' → H' p = none → E (.ref C) (some p) (upd H' p (.xd [(("value" : Str), v)]))
theorem Err.same {C : Addr} {E : XK} {H H' : Hp} {v : V} (h : Err C E H v) (s : Same H H') : Err C E H' v := fun H2 p s2 e => h H2 p (Same.trans s s2) e
def spInit (C N : Addr) : Sp := fun vs H Q E => ∃ (x dx : Addr) (a b : V) (d e : PyData), vs = [.ref x, a, b] ∧ H x = some (.ins C dx []) ∧ Dx H a d ∧ Dx H b e ∧ Tame d ∧ Tame e ∧
  (rateD d = false → Err N E H a) ∧ (rateD d = true → rateD e = false → Err N E H b) ∧
  (∀ p q, d = .int p → e = .int q → rateD d = true → rateD e = true → ∀ H', But x H H' → H' x = some (.ins C dx [(("_p" : Str), .int p), (("_q" : Str), .int q)]) → Q .non H')
def spCheck (N : Addr) : Sp := fun vs H Q E => ∃ (v : V) (d : PyData), vs = [v] ∧ Dx H v d ∧ Tame d ∧ (timesD d = false → Err N E H v) ∧ (timesD d = true → ∀ H', Same H H' → Q .non H')
def spGetP (C : Addr) (f : Str) : Sp := getSp C f
def spSize (C : Addr) : Sp := fun vs H Q _ => ∃ (a : Addr) (p q : Int), vs = [.ref a] ∧ RatO C H a p q ∧ 1 ≤ p ∧ p ≤ 6 ∧ Q (.int (2 ^ p.toNat)) H
def fitP (p q : Int) : Prop := 1 ≤ p ∧ p ≤ 6 ∧ 1 ≤ q ∧ q ≤ 6
/-- an error TooMany -/
def ErrM (C : Addr) (E : XK) (H : Hp) : Prop := ∀ (H' : Hp) (p : Addr), Same H H' → H' p = none → E (.ref C) (some p) (upd H' p (.xd [(("limit" : Str), .int 6), (("what" : Str), .str "rate")]))
theorem ErrM.same {C : Addr} {E : XK} {H H' : Hp} (h : ErrM C E H) (s : Same H H') : ErrM C E H' := fun H2 p s2 e => h H2 p (Same.trans s s2) e
def spMul (C N M : Addr) : Sp := fun vs H Q E => ∃ (a : Addr) (p q : Int) (v : V) (d : PyData), vs = [.ref a, v] ∧ RatO C H a p q ∧ fitP p q ∧ Dx H v d ∧ Tame d ∧
  (timesD d = false → Err N E H v) ∧ (∀ i, d = .int i → 1 ≤ i → 6 < max p q * i → ErrM M E H) ∧
  (∀ i, d = .int i → 1 ≤ i → max p q * i ≤ 6 → ∀ (H' : Hp) (r : Addr), Same H H' → H r = none → RatO C H' r (p * i) (q * i) → Q (.ref r) H')
section
variable {P : Program} {w : World} {K : PySem.W.Frag} {mg : Str → Option Value} {base : Heap} {ad : Str → Addr} {fd : Str → FuncData}
theorem scIsInteger : FnScope ["value"] ["value"] (defScope sIsInteger) := ⟨rfl, rfl, rfl, by decide +kernel, rfl, by decide +kernel, by decide +kernel⟩
theorem ok_is_integer (X : Tx K mg ad fd) : FnOk P w K mg base CX0 1 (ad "is_integer") (fd "is_integer") ["value"] (spB wholeD) := by
  refine X.F_is_integer.ok scIsInteger (fun vs H Q E h => ?_) (fun cdv A outer s H vs Q E hr h => ?_)
  · obtain ⟨v, d, rfl, _⟩ := h
    rfl
  · obtain ⟨v, d, rfl, hd, ht, q⟩ := h
    refine ⟨_, (pss_one (ps_ret (by exact (pe_and (pe_callB call_isi (by rfl) X.m_isinstance (by decide +kernel) (pa_cons (pv 0) (pa_cons (pe_bltn (v := .ty "int") (by rfl) X.m_int (by decide +kernel) rfl) pa_nil))) (pe_one (pe_not (pe_callB call_isi (by rfl) X.m_isinstance (by decide +kernel) (pa_cons (pv 0) (pa_cons (pe_bltn (v := .ty "bool") (by rfl) X.m_bool (by decide +kernel) rfl) pa_nil))))))))), ?_⟩
    refine ⟨v, rfl, v, .ty "int", _, _, _, rfl, .ty _, dx_ty hd, kit_ty (kit_i d), _, rfl, ?_⟩
    have q' := q H Same.refl
    cases e : isI d with
    | false =>
      rw [show wholeD d = false by unfold wholeD; rw [e]; rfl] at q'
      exact q'
    | true =>
      refine ⟨v, rfl, v, .ty "bool", _, _, _, rfl, .ty _, dx_ty hd, kit_ty (kit_b d), _, rfl, ?_⟩
      rw [show wholeD d = !isB d by unfold wholeD; rw [e]; rfl] at q'
      exact q'
theorem scIsBetween : FnScope ["value", "low", "high"] ["value", "low", "high"] (defScope sIsBetween) := ⟨rfl, rfl, rfl, by decide +kernel, rfl, by decide +kernel, by decide +kernel⟩
theorem ok_is_between (X : Tx K mg ad fd) : FnOk P w K mg base CX0 2 (ad "is_between") (fd "is_between") ["value", "low", "high"] spBetween := by
  have G_is_integer : FnOk P w K mg base CX0 1 (ad "is_integer") (fd "is_integer") ["value"] (spB wholeD) := ok_is_integer X
  refine X.F_is_between.ok scIsBetween (fun vs H Q E h => ?_) (fun cdv A outer s H vs Q E hr h => ?_)
  · obtain ⟨v, d, lo, hi, rfl, _⟩ := h
    rfl
  · obtain ⟨v, d, lo, hi, rfl, hd, ht, q⟩ := h
    have HR_is_integer := hr
    refine ⟨_, (pss_one (ps_ret (by exact (pe_and (pe_call G_is_integer HR_is_integer (by rfl) X.g_is_integer X.F_is_integer.kp X.b_is_integer .nil pass0 (pa_cons (pv 0) pa_nil)) (pe_one (pe_chain op_le op_le (pv 1) (pv 0) (pv 2))))))), ?_⟩
    refine ⟨v, rfl, v, d, rfl, hd, ht, fun H1 s1 => ⟨_, rfl, ?_⟩⟩
    have q' := q H1 s1
    cases hd with
    | int i =>
      refine ⟨.int lo, rfl, .int i, rfl, lo, i, rfl, rfl, _, rfl, ?_⟩
      cases e : decide (lo ≤ i) with
      | true =>
        rw [show betweenD lo hi (.int i) = decide (i ≤ hi) by show (decide (lo ≤ i) && decide (i ≤ hi)) = _; rw [e]; rfl] at q'
        exact iteT ⟨.int hi, rfl, i, hi, rfl, rfl, q'⟩
      | false =>
        rw [show betweenD lo hi (.int i) = false by show (decide (lo ≤ i) && decide (i ≤ hi)) = _; rw [e]; rfl] at q'
        exact iteF q'
    | non => exact q'
    | bl b => exact q'
    | str x => exact q'
    | lst e _ => exact q'
    | tup e _ => exact q'
    | dic e _ => exact q'
theorem scCheckTimes : FnScope ["times"] ["times"] (defScope sCheckTimes) := ⟨rfl, rfl, rfl, by decide +kernel, rfl, by decide +kernel, by decide +kernel⟩
theorem ok_check_times (X : Tx K mg ad fd) {N fN : Addr} (L_InvalidNumber : ErrV K mg "InvalidNumber" N fN) : FnOk P w K mg base (L2.CX P w) 3 (ad "check_times") (fd "check_times") ["times"] (spCheck N) := by
  have G_is_integer : FnOk P w K mg base CX0 1 (ad "is_integer") (fd "is_integer") ["value"] (spB wholeD) := ok_is_integer X
  refine X.F_check_times.okX scCheckTimes (fun vs H Q E h => ?_) (fun cdv A outer s H vs Q E hr h => ?_)
  · obtain ⟨v, d, rfl, _⟩ := h
    rfl
  · obtain ⟨v, d, rfl, hd, ht, q1, q2⟩ := h
    have HRX := hr
    have HR_is_integer : Room 1 _ := hr.mono (by decide)
    refine ⟨_, (pss_one (ps_if (PW.pt (pw_or (pt_not (pt_val (pe_call G_is_integer HR_is_integer (by rfl) X.g_is_integer X.F_is_integer.kp X.b_is_integer .nil pass0 (pa_cons (pv 0) pa_nil)))) (pw_or1 (pt_cmpR op_lt (pv 0) pe_int (nomark _)))))
  (pss_one (ps_raise rfl (takes_of rfl rfl rfl rfl) (pmk_value L_InvalidNumber.T bs_value L_InvalidNumber.J L_InvalidNumber.F HRX (by rfl) L_InvalidNumber.G (by exact (pa_cons (pv 0) pa_nil)))))
  pss_nil)), ?_⟩
    refine ⟨v, rfl, v, d, rfl, hd, ht, fun H1 s1 => ⟨_, rfl, ?_⟩⟩
    have bad : timesD d = false → tSeq (fun _ σ H => tRv N (tCons (tVar 0) tNil) σ H fun cls d H' => E cls d H') tNext { nx := fun _ H' => Q .non H', rt := Q } [some v] H1 := fun e => ⟨v, rfl, v, rfl, fun p hp => (q1 e) H1 p s1 hp⟩
    have bad' : timesD d = false → ∃ x, ([some v] : L2.St)[0]? = some (some x) ∧ ∃ y, [x] = [y] ∧ ∀ d', H1 d' = none → E (.ref N) (some d') (upd H1 d' (.xd [(("value" : Str), y)])) := fun e => ⟨v, rfl, v, rfl, fun p hp => (q1 e) H1 p s1 hp⟩
    cases hd with
    | int i =>
      refine iteF ⟨.int i, rfl, i, 1, rfl, rfl, _, rfl, ?_⟩
      cases e : decide (1 ≤ i) with
      | true =>
        have h1 : 1 ≤ i := of_decide_eq_true e
        rw [decide_eq_false (show ¬ i < 1 by omega)]
        exact iteF (q2 e H1 s1)
      | false =>
        have h1 : ¬ 1 ≤ i := of_decide_eq_false e
        rw [decide_eq_true (show i < 1 by omega)]
        exact iteT (bad' e)
    | non => exact iteT (bad' rfl)
    | bl b => exact iteT (bad' rfl)
    | str x => exact iteT (bad' rfl)
    | lst e _ => exact iteT (bad' rfl)
    | tup e _ => exact iteT (bad' rfl)
    | dic e _ => exact iteT (bad' rfl)
end
end K82
end

section
set_option maxHeartbeats 4000000
/-! the class: made, read off, asked -/
namespace K82
open PySem PySem.Spec PyProof.Rows L2
section
variable {P : Program} {w : World} {K : PySem.W.Frag} {mg : Str → Option Value} {base : Heap} {ad : Str → Addr} {fd : Str → FuncData}
theorem scR_init : FnScope ["self", "p", "q", "number"] ["self", "p", "q"] (defScope sR_init) := ⟨rfl, rfl, rfl, by decide +kernel, rfl, by decide +kernel, by decide +kernel⟩
theorem But.at {p a : Addr} {H H' : Hp} {o : HO} (b : But p H H') (e : H a = some o) (n : a ≠ p) : H' a = some o := b _ _ n e
theorem between_rate (d : PyData) : betweenD 1 6 d = rateD d := by cases d <;> rfl
theorem ok_init (X : Tx K mg ad fd) (RC : RateC K mg ad fd) {N fN : Addr} (L_InvalidNumber : ErrV K mg "InvalidNumber" N fN) : FnOk P w K mg base (L2.CX P w) 4 (ad "Rate.__init__") (fd "Rate.__init__") ["self", "p", "q"] (spInit (ad "Rate") N) := by
  have G_is_between : FnOk P w K mg base CX0 2 (ad "is_between") (fd "is_between") ["value", "low", "high"] spBetween := ok_is_between X
  obtain ⟨tM, GLOB_MOST_IN_RATE⟩ := X.g_MOST_IN_RATE
  refine RC.F_init.okX scR_init (fun vs H Q E h => ?_) (fun cdv A outer s H vs Q E hr h => ?_)
  · obtain ⟨x, dx, a, b, d, e, rfl, _⟩ := h
    rfl
  · obtain ⟨x, dx, a, b, d, e, rfl, hx, ha, hb, ta, tb, q1, q2, q3⟩ := h
    have HRX := hr
    have HR_is_between : Room 2 _ := hr.mono (by decide)
    refine ⟨_, (pss_cons (ps_for (passes_of rfl) rfl (pi_tup (pe_tup (pa_cons (pv 1) (pa_cons (pv 2) pa_nil)))) (pg_name (i := 3) scR_init.nd rfl (.inl rfl))
  (pss_one (ps_if (pt_not (pt_val (pe_call G_is_between HR_is_between (by rfl) X.g_is_between X.F_is_between.kp X.b_is_between .nil pass0 (pa_cons (pv 3) (pa_cons pe_int (pa_cons (pe_glob (v := .int 6) (by rfl) GLOB_MOST_IN_RATE ⟨_, rfl⟩) pa_nil))))))
  (pss_one (ps_raise rfl (takes_of rfl rfl rfl rfl) (pmk_value L_InvalidNumber.T bs_value L_InvalidNumber.J L_InvalidNumber.F HRX (by rfl) L_InvalidNumber.G (by exact (pa_cons (pv 3) pa_nil)))))
  pss_nil)))
  (pss_cons (ps_fld (pv 0) (by exact (pv 1)) rfl)
  (pss_one (ps_fld (pv 0) (by exact (pv 2)) rfl)))), ?_⟩
    refine ⟨a, rfl, b, rfl, (by show 2 ≤ sizeLine; decide), fun t ht => ⟨t, rfl, ⟨_, SqT.of upd_same⟩, ?_⟩⟩
    refine for_tup (K := K) (a := t) (xs := [a, b]) (fun i σ H' => ∃ r, σ = [some (.ref x), some a, some b, r] ∧ Same H H' ∧ H' t = some (.tup [a, b]) ∧ (0 < i → rateD d = true) ∧ (1 < i → rateD e = true))
      ⟨none, rfl, Same.new ht, upd_same, fun z => absurd z (by decide), fun z => absurd z (by decide)⟩ (fun i σ H' _ ⟨_, _, _, et, _⟩ => SqT.of et) ?_ ?_
    · rintro i v σ H' hv ⟨r, rfl, hs, et, w0, w1⟩
      match i, hv with
      | 0, hv =>
        obtain rfl : a = v := Option.some.inj hv
        refine ⟨_, rfl, a, d, 1, 6, rfl, ha.same hs, ta, fun H1 s1 => ⟨_, rfl, ?_⟩⟩
        rw [between_rate]
        cases ew : rateD d with
        | true => exact iteF ⟨_, rfl, Same.trans hs s1, s1 _ _ et, fun _ => rfl, fun z => absurd z (by decide)⟩
        | false => exact iteT ⟨_, rfl, a, rfl, fun p hp => q1 ew H1 p (Same.trans hs s1) hp⟩
      | 1, hv =>
        obtain rfl : b = v := Option.some.inj hv
        refine ⟨_, rfl, b, e, 1, 6, rfl, hb.same hs, tb, fun H1 s1 => ⟨_, rfl, ?_⟩⟩
        have w0' := w0 (by decide)
        rw [between_rate]
        cases ew : rateD e with
        | true => exact iteF ⟨_, rfl, Same.trans hs s1, s1 _ _ et, fun _ => w0', fun _ => rfl⟩
        | false => exact iteT ⟨_, rfl, b, rfl, fun p hp => q2 w0' ew H1 p (Same.trans hs s1) hp⟩
      | i + 2, hv => cases hv
    · rintro σ H' ⟨r, rfl, hs, et, w0, w1⟩
      have e0 := w0 (show 0 < 2 by decide)
      have e1 := w1 (show 1 < 2 by decide)
      cases ha with
      | int p =>
        cases hb with
        | int q =>
          refine ⟨_, rfl, .ref x, rfl, x, ad "Rate", dx, [], rfl, hs _ _ hx, RC.cl, RC.np, by decide, ?_⟩
          refine ⟨_, rfl, .ref x, rfl, x, ad "Rate", dx, _, rfl, upd_same, RC.cl, RC.nq, (by show 1 < 1000; decide), ?_⟩
          refine q3 p q rfl rfl e0 e1 _ (fun b o n z => ?_) upd_same
          rw [upd_ne n, upd_ne n]
          exact hs _ _ z
        | _ => cases e1
      | _ => cases e0
theorem scR_p : FnScope ["self"] ["self"] (defScope sR_p) := ⟨rfl, rfl, rfl, by decide +kernel, rfl, by decide +kernel, by decide +kernel⟩
theorem scR_q : FnScope ["self"] ["self"] (defScope sR_q) := ⟨rfl, rfl, rfl, by decide +kernel, rfl, by decide +kernel, by decide +kernel⟩
theorem scR_size : FnScope ["self"] ["self"] (defScope sR_size) := ⟨rfl, rfl, rfl, by decide +kernel, rfl, by decide +kernel, by decide +kernel⟩
theorem scR_str : FnScope ["self"] ["self"] (defScope sR_str) := ⟨rfl, rfl, rfl, by decide +kernel, rfl, by decide +kernel, by decide +kernel⟩
theorem scR_repr : FnScope ["self"] ["self"] (defScope sR_repr) := ⟨rfl, rfl, rfl, by decide +kernel, rfl, by decide +kernel, by decide +kernel⟩
/-- what is told of a Rate -/
def spRat (C : Addr) (f : Int → Int → V) : Sp := fun vs H Q _ => ∃ (a : Addr) (p q : Int), vs = [.ref a] ∧ RatO C H a p q ∧ fitP p q ∧ Q (f p q) H
theorem ok_p (RC : RateC K mg ad fd) : FnOk P w K mg base CX0 1 (ad "Rate.p") (fd "Rate.p") ["self"] (spRat (ad "Rate") fun p _ => .int p) := by
  refine RC.F_p.ok scR_p (fun vs H Q E h => ?_) (fun cdv A outer s H vs Q E hr h => ?_)
  · obtain ⟨a, p, q, rfl, _⟩ := h
    rfl
  · obtain ⟨a, p, q, rfl, ⟨dx, ha⟩, fit, k⟩ := h
    refine ⟨_, (pss_one (ps_ret (by exact (pe_fld (pv 0) rfl)))), ?_⟩
    exact ⟨.ref a, rfl, a, _, dx, _, _, rfl, ha, RC.cl, RC.np, rfl, k⟩
theorem ok_q (RC : RateC K mg ad fd) : FnOk P w K mg base CX0 1 (ad "Rate.q") (fd "Rate.q") ["self"] (spRat (ad "Rate") fun _ q => .int q) := by
  refine RC.F_q.ok scR_q (fun vs H Q E h => ?_) (fun cdv A outer s H vs Q E hr h => ?_)
  · obtain ⟨a, p, q, rfl, _⟩ := h
    rfl
  · obtain ⟨a, p, q, rfl, ⟨dx, ha⟩, fit, k⟩ := h
    refine ⟨_, (pss_one (ps_ret (by exact (pe_fld (pv 0) rfl)))), ?_⟩
    exact ⟨.ref a, rfl, a, _, dx, _, _, rfl, ha, RC.cl, RC.nq, rfl, k⟩
theorem ok_size (RC : RateC K mg ad fd) : FnOk P w K mg base CX0 1 (ad "Rate.size") (fd "Rate.size") ["self"] (spRat (ad "Rate") fun p _ => .int (2 ^ p.toNat)) := by
  refine RC.F_size.ok scR_size (fun vs H Q E h => ?_) (fun cdv A outer s H vs Q E hr h => ?_)
  · obtain ⟨a, p, q, rfl, _⟩ := h
    rfl
  · obtain ⟨a, p, q, rfl, ⟨dx, ha⟩, fit, k⟩ := h
    refine ⟨_, (pss_one (ps_ret (by exact (pe_op op_shl pe_int (pe_fld (pv 0) rfl))))), ?_⟩
    refine ⟨.ref a, rfl, a, _, dx, _, _, rfl, ha, RC.cl, RC.np, rfl, 1, p, rfl, rfl, (by have h1 := fit.1; have h2 := fit.2.1; refine ⟨?_, ?_, ?_⟩ <;> first | omega | decide), ?_⟩
    show Q (.int (1 * 2 ^ p.toNat)) H
    rw [Int.one_mul]
    exact k
theorem log6 {p : Int} (h1 : 1 ≤ p) (h2 : p ≤ 6) : p.natAbs.log2 < 1920 := by
  have : p.natAbs.log2 < 3 := (Nat.log2_lt (by omega)).mpr (by omega)
  omega
def strP (p q : Int) : Str := toString p ++ ":" ++ toString q
def repP (p q : Int) : Str := "Rate(" ++ toString p ++ ", " ++ toString q ++ ")"
theorem len_int {p : Int} (h1 : 1 ≤ p) (h2 : p ≤ 6) : (toString p : Str).length = 1 := by
  have : p = 1 ∨ p = 2 ∨ p = 3 ∨ p = 4 ∨ p = 5 ∨ p = 6 := by omega
  rcases this with rfl | rfl | rfl | rfl | rfl | rfl <;> decide +kernel
theorem str_step {p q : Int} (f : fitP p q) : ((Str.empty ++ (toString p : Str)).length ≤ sizeLine ∧ ((Str.empty ++ (toString p : Str)) ++ (":" : Str)).length ≤ sizeLine ∧ (((Str.empty ++ (toString p : Str)) ++ (":" : Str)) ++ (toString q : Str)).length ≤ sizeLine) ∧ ((Str.empty ++ (toString p : Str)) ++ (":" : Str)) ++ (toString q : Str) = strP p q := by
  obtain ⟨h1, h2, h3, h4⟩ := f
  have a : p = 1 ∨ p = 2 ∨ p = 3 ∨ p = 4 ∨ p = 5 ∨ p = 6 := by omega
  have b : q = 1 ∨ q = 2 ∨ q = 3 ∨ q = 4 ∨ q = 5 ∨ q = 6 := by omega
  rcases a with rfl | rfl | rfl | rfl | rfl | rfl <;> rcases b with rfl | rfl | rfl | rfl | rfl | rfl <;> decide +kernel
theorem rep_step {p q : Int} (f : fitP p q) : ((Str.empty ++ ("Rate(" : Str)).length ≤ sizeLine ∧ ((Str.empty ++ ("Rate(" : Str)) ++ (toString p : Str)).length ≤ sizeLine ∧ (((Str.empty ++ ("Rate(" : Str)) ++ (toString p : Str)) ++ (", " : Str)).length ≤ sizeLine ∧ ((((Str.empty ++ ("Rate(" : Str)) ++ (toString p : Str)) ++ (", " : Str)) ++ (toString q : Str)).length ≤ sizeLine ∧ (((((Str.empty ++ ("Rate(" : Str)) ++ (toString p : Str)) ++ (", " : Str)) ++ (toString q : Str)) ++ (")" : Str)).length ≤ sizeLine) ∧
    ((((Str.empty ++ ("Rate(" : Str)) ++ (toString p : Str)) ++ (", " : Str)) ++ (toString q : Str)) ++ (")" : Str) = repP p q := by
  obtain ⟨h1, h2, h3, h4⟩ := f
  have a : p = 1 ∨ p = 2 ∨ p = 3 ∨ p = 4 ∨ p = 5 ∨ p = 6 := by omega
  have b : q = 1 ∨ q = 2 ∨ q = 3 ∨ q = 4 ∨ q = 5 ∨ q = 6 := by omega
  rcases a with rfl | rfl | rfl | rfl | rfl | rfl <;> rcases b with rfl | rfl | rfl | rfl | rfl | rfl <;> decide +kernel
theorem ok_str (RC : RateC K mg ad fd) : FnOk P w K mg base CX0 1 (ad "Rate.__str__") (fd "Rate.__str__") ["self"] (spRat (ad "Rate") fun p q => .str (strP p q)) := by
  refine RC.F_str.ok scR_str (fun vs H Q E h => ?_) (fun cdv A outer s H vs Q E hr h => ?_)
  · obtain ⟨a, p, q, rfl, _⟩ := h
    rfl
  · obtain ⟨a, p, q, rfl, ⟨dx, ha⟩, fit, k⟩ := h
    obtain ⟨⟨l1, l2, l3⟩, e⟩ := str_step fit
    refine ⟨_, (pss_one (ps_ret (by exact (pe_joined (.cons (pe_fmt (pe_fld (pv 0) rfl)) (.cons pe_str (.cons (pe_fmt (pe_fld (pv 0) rfl)) .nil))))))), ?_⟩
    refine ⟨.ref a, rfl, a, _, dx, _, _, rfl, ha, RC.cl, RC.np, rfl, .inr ⟨p, rfl, log6 fit.1 fit.2.1, _, rfl, l1, _, rfl, l2, .ref a, rfl, a, _, dx, _, _, rfl, ha, RC.cl, RC.nq, rfl, .inr ⟨q, rfl, log6 fit.2.2.1 fit.2.2.2, _, rfl, l3, ?_⟩⟩⟩
    show Q (.str _) H
    rw [e]
    exact k
theorem ok_repr (RC : RateC K mg ad fd) : FnOk P w K mg base CX0 1 (ad "Rate.__repr__") (fd "Rate.__repr__") ["self"] (spRat (ad "Rate") fun p q => .str (repP p q)) := by
  refine RC.F_repr.ok scR_repr (fun vs H Q E h => ?_) (fun cdv A outer s H vs Q E hr h => ?_)
  · obtain ⟨a, p, q, rfl, _⟩ := h
    rfl
  · obtain ⟨a, p, q, rfl, ⟨dx, ha⟩, fit, k⟩ := h
    obtain ⟨⟨l1, l2, l3, l4, l5⟩, e⟩ := rep_step fit
    refine ⟨_, (pss_one (ps_ret (by exact (pe_joined (.cons pe_str (.cons (pe_fmt (pe_fld (pv 0) rfl)) (.cons pe_str (.cons (pe_fmt (pe_fld (pv 0) rfl)) (.cons pe_str .nil))))))))), ?_⟩
    refine ⟨_, rfl, l1, .ref a, rfl, a, _, dx, _, _, rfl, ha, RC.cl, RC.np, rfl, .inr ⟨p, rfl, log6 fit.1 fit.2.1, _, rfl, l2, _, rfl, l3, .ref a, rfl, a, _, dx, _, _, rfl, ha, RC.cl, RC.nq, rfl, .inr ⟨q, rfl, log6 fit.2.2.1 fit.2.2.2, _, rfl, l4, _, rfl, l5, ?_⟩⟩⟩
    show Q (.str _) H
    rw [e]
    exact k
end
/-! ### rules -/
section
variable {X : Cx} {K : PySem.W.Frag} {ad : Str → Addr} {fd : Str → FuncData} {e : Expr} {ta : TE} {pos : Pos} {k : Nat}
theorem pe_prop_p (RC : RateC X.K X.mg ad fd) (hr : Room 2 X.A) (he : PE X e ta) (hab : attributeBase e "p" X.env (eval e X.env) = eval e X.env) : PE X (.Attribute e "p" pos) (tProp (ad "Rate") (spRat (ad "Rate") fun p _ => .int p) [] E0 ta) :=
  pe_prop he RC.cl RC.pp (ok_p RC) hr RC.b_p .nil pass0 hab
theorem pe_prop_q (RC : RateC X.K X.mg ad fd) (hr : Room 2 X.A) (he : PE X e ta) (hab : attributeBase e "q" X.env (eval e X.env) = eval e X.env) : PE X (.Attribute e "q" pos) (tProp (ad "Rate") (spRat (ad "Rate") fun _ q => .int q) [] E0 ta) :=
  pe_prop he RC.cl RC.pq (ok_q RC) hr RC.b_q .nil pass0 hab
theorem pe_prop_size (RC : RateC X.K X.mg ad fd) (hr : Room 2 X.A) (he : PE X e ta) (hab : attributeBase e "size" X.env (eval e X.env) = eval e X.env) : PE X (.Attribute e "size" pos) (tProp (ad "Rate") (spRat (ad "Rate") fun p _ => .int (2 ^ p.toNat)) [] E0 ta) :=
  pe_prop he RC.cl RC.ps (ok_size RC) hr RC.b_size .nil pass0 hab
end
/-- a Rate made: from data -/
theorem made {C N : Addr} {H : Hp} {a b : V} {d e : PyData} {Q : VK} {E : XK} (ha : Dx H a d) (hb : Dx H b e) (ta : Tame d) (tb : Tame e) (q1 : rateD d = false → Err N E H a) (q2 : rateD d = true → rateD e = false → Err N E H b)
    (q3 : ∀ p q, d = .int p → e = .int q → fitP p q → ∀ (H' : Hp) (r : Addr), Same H H' → H r = none → RatO C H' r p q → Q (.ref r) H') :
    ∀ x dx, H x = none → H dx = none → dx ≠ x → spInit C N ([.ref x, a, b] ++ []) (upd (upd H dx (.own x)) x (.ins C dx [])) (fun v H2 => v = .non ∧ Q (.ref x) H2) E := by
  intro x dx hx hd ne
  have s1 := Same.new hd (o := .own x)
  have hx1 : (upd H dx (.own x)) x = none := by rw [upd_ne ne.symm]; exact hx
  have s2 := Same.trans s1 (Same.new hx1 (o := .ins C dx []))
  refine ⟨x, dx, a, b, d, e, rfl, upd_same, ha.same s2, hb.same s2, ta, tb, fun z => (q1 z).same s2, fun z y => (q2 z y).same s2, fun p q ed ee wd we H' b' e' => ⟨rfl, ?_⟩⟩
  subst ed ee
  have f1 := Bool.and_eq_true_iff.mp (show (decide (1 ≤ p) && decide (p ≤ 6)) = true from wd)
  have f2 := Bool.and_eq_true_iff.mp (show (decide (1 ≤ q) && decide (q ≤ 6)) = true from we)
  refine q3 p q rfl rfl ⟨of_decide_eq_true f1.1, of_decide_eq_true f1.2, of_decide_eq_true f2.1, of_decide_eq_true f2.2⟩ H' x (fun c o z => b' c o (ne_of_none z hx) (s2 _ _ z)) hx ⟨dx, e'⟩
end K82
end

section
set_option maxHeartbeats 4000000
/-! multiples; == -/
namespace K82
open PySem PySem.Spec PyProof.Rows L2
def foT : PyData → Option Value
  | .int _ => some (.builtin "int.__mul__")
  | .bool _ => some (.builtin "int.__mul__")
  | .str _ => some (.builtin "str.__mul__")
  | .list _ => some (.builtin "list.__mul__")
  | .tuple _ => some (.builtin "tuple.__mul__")
  | _ => none
def roT : PyData → Option Value
  | .int _ => some (.builtin "int.__rmul__")
  | .bool _ => some (.builtin "int.__rmul__")
  | .str _ => some (.builtin "str.__rmul__")
  | .list _ => some (.builtin "list.__rmul__")
  | .tuple _ => some (.builtin "tuple.__rmul__")
  | _ => none
section
variable {P : Program} {w : World} {K : PySem.W.Frag} {mg : Str → Option Value} {base : Heap} {ad : Str → Addr} {fd : Str → FuncData}
theorem mulT (RC : RateC K mg ad fd) (d : PyData) : MulT K (ad "Rate") (tyN d) (foT d) (roT d) := by
  obtain ⟨_, h1, h2⟩ := RC.ty _ (tyN_mem d)
  refine ⟨?_, ?_, h2, h1⟩
  · cases d <;> kernel_rfl
  · cases d <;> kernel_rfl
theorem rmul_side (d : PyData) : (((foT d).isSome && !isSeqSlot (foT d)) || ((roT d).isSome && !isSeqSlot (roT d))) = false ∨ (isI d = true ∧ foT d = some (.builtin "int.__mul__")) := by
  cases d with
  | int i => exact .inr ⟨rfl, rfl⟩
  | bool b => exact .inr ⟨rfl, rfl⟩
  | none => exact .inl rfl
  | str x => exact .inl (show ((some (Value.builtin "str.__mul__")).isSome && !isSeqSlot (some (Value.builtin "str.__mul__")) || (some (Value.builtin "str.__rmul__")).isSome && !isSeqSlot (some (Value.builtin "str.__rmul__"))) = false by decide +kernel)
  | list x => exact .inl (show ((some (Value.builtin "list.__mul__")).isSome && !isSeqSlot (some (Value.builtin "list.__mul__")) || (some (Value.builtin "list.__rmul__")).isSome && !isSeqSlot (some (Value.builtin "list.__rmul__"))) = false by decide +kernel)
  | tuple x => exact .inl (show ((some (Value.builtin "tuple.__mul__")).isSome && !isSeqSlot (some (Value.builtin "tuple.__mul__")) || (some (Value.builtin "tuple.__rmul__")).isSome && !isSeqSlot (some (Value.builtin "tuple.__rmul__"))) = false by decide +kernel)
  | dict x => exact .inl rfl
theorem scMultiple : FnScope ["rate", "times"] ["rate", "times"] (defScope sMultiple) := ⟨rfl, rfl, rfl, by decide +kernel, rfl, by decide +kernel, by decide +kernel⟩
theorem none_of {H H' : Hp} {r : Addr} (s : Same H H') (e : H' r = none) : H r = none := by
  cases h : H r with
  | none => rfl
  | some o => rw [s _ _ h] at e; cases e
theorem max_ite (p q : Int) : (if q > p then q else p) = max p q := by omega
theorem tame_str {z : Str} (h : z.length ≤ 5000) (hc : ∀ c ∈ z.cps.toList, c < 1114112) : Tame (.str z) := by
  refine ⟨fun y e => by cases e; exact ⟨h, hc⟩, rfl, (by show PyData.depth (.str z) ≤ 10; simp only [PyData.depth]; omega), ?_⟩
  rw [PyData.shown_str]
  have := StrLaws.reprText_len z (fun c hm => Nat.lt_trans (hc c hm) (by decide))
  omega
theorem tame_int {i : Int} (h : i.natAbs < 10 ^ 32) : Tame (.int i) := by
  refine ⟨fun y e => (by cases e), ?_, (by show PyData.depth (.int i) ≤ 10; simp only [PyData.depth]; omega), ?_⟩
  · simp only [PyData.showable]
    by_cases z : i.natAbs = 0
    · rw [z]; decide
    · have := (Nat.log2_lt z (k := 110)).mpr (Nat.lt_trans h (by decide))
      exact decide_eq_true (by omega)
  · have e := int_text_length_le10 (k := 32) (by decide) h
    show (Str.ofString (toString i)).length ≤ 60000
    rw [PySem.ofString_length]; omega
theorem ok_multiple (X : Tx K mg ad fd) (RC : RateC K mg ad fd) {N fN M fM : Addr} (L_InvalidNumber : ErrV K mg "InvalidNumber" N fN) (L_TooMany : ErrW K mg "TooMany" M fM) : FnOk P w K mg base (L2.CX P w) 6 (ad "multiple") (fd "multiple") ["rate", "times"] (spMul (ad "Rate") N M) := by
  have G_check_times := ok_check_times (P := P) (w := w) (base := base) X L_InvalidNumber
  have G_init := ok_init (P := P) (w := w) (base := base) X RC L_InvalidNumber
  obtain ⟨tM, GLOB_MOST_IN_RATE⟩ := X.g_MOST_IN_RATE
  refine X.F_multiple.okX scMultiple (fun vs H Q E h => ?_) (fun cdv A outer s H vs Q E hr h => ?_)
  · obtain ⟨a, p, q, v, d, rfl, _⟩ := h
    rfl
  · obtain ⟨a, p, q, v, d, rfl, ha, fit, hd, ht, q1, q2, q3⟩ := h
    have HRX := hr
    have HR_check_times : Room 3 _ := hr.mono (by decide)
    have HR_init : Room (4 + 1) _ := hr
    have HRP : Room 2 _ := hr.mono (by decide)
    have PASS := passes_own (X := cxOf (L2.CX P w) P w K mg base ["rate", "times"] "multiple" (defScope sMultiple) (ad "multiple") cdv A outer s H E) (E := E) rfl rfl rfl rfl
    refine ⟨_, (pss_cons (ps_expr (by exact (pe_call G_check_times HR_check_times (by rfl) X.g_check_times X.F_check_times.kp X.b_check_times .nil PASS (pa_cons (pv 1) pa_nil))))
  (pss_cons (ps_if (pt_cmpR op_gt (pe_op op_mul (pe_callB (call_max2 rfl) (by rfl) X.m_max (by decide +kernel) (pa_cons (pe_prop_p RC HRP (pv 0) rfl) (pa_cons (pe_prop_q RC HRP (pv 0) rfl) pa_nil))) (pv 1)) (pe_glob (v := .int 6) (by rfl) GLOB_MOST_IN_RATE ⟨_, rfl⟩) (nomark _))
  (pss_one (ps_raise rfl (takes_of rfl rfl rfl rfl) (pmk_what L_TooMany.T bs_arith L_TooMany.J L_TooMany.F HRX (by rfl) L_TooMany.G (by exact (pa_cons pe_str (pa_cons (pe_glob (v := .int 6) (by rfl) GLOB_MOST_IN_RATE ⟨_, rfl⟩) pa_nil))))))
  pss_nil)
  (pss_one (ps_ret (by exact (pe_make RC.mks G_init HR_init (by rfl) RC.G RC.b_init .nil PASS (pa_cons (pe_op op_mul (pe_prop_p RC HRP (pv 0) rfl) (pv 1)) (pa_cons (pe_op op_mul (pe_prop_q RC HRP (pv 0) rfl) (pv 1)) pa_nil)))))))), ?_⟩
    refine ⟨_, rfl, v, d, rfl, hd, ht, q1, fun tt H1 s1 => ?_⟩
    cases hd with
    | int i =>
      have i1 : 1 ≤ i := of_decide_eq_true tt
      have f := id fit
      obtain ⟨p1, p2, r1, r2⟩ := f
      have hm : CMul (if q > p then q else p) i := by rw [max_ite]; exact .inl ⟨by omega, by omega⟩
      have h1 := ha.same s1
      obtain ⟨dx, e1⟩ := id h1
      refine ⟨.ref a, rfl, a, dx, _, rfl, e1, a, p, q, rfl, h1, fit, .ref a, rfl, a, dx, _, rfl, e1, a, p, q, rfl, h1, fit, p, q, rfl, .int i, rfl, _, i, rfl, rfl, hm, _, 6, rfl, rfl, _, rfl, ?_⟩
      rw [max_ite]
      refine ite2 (fun c => ?_) (fun c => ?_)
      · have c' : 6 < max p q * i := of_decide_eq_true c
        exact ⟨_, _, rfl, fun d hd => q2 i rfl i1 c' H1 d s1 hd⟩
      · have c' : ¬ 6 < max p q * i := fun z => c (decide_eq_true z)
        have l1 : p * i ≤ max p q * i := Int.mul_le_mul_of_nonneg_right (by omega) (by omega)
        have l2 : q * i ≤ max p q * i := Int.mul_le_mul_of_nonneg_right (by omega) (by omega)
        have g1 : 1 ≤ p * i := by have := Int.mul_pos (a := p) (b := i) (by omega) (by omega); omega
        have g2 : 1 ≤ q * i := by have := Int.mul_pos (a := q) (b := i) (by omega) (by omega); omega
        have mp : CMul p i := .inl ⟨by omega, by omega⟩
        have mq : CMul q i := .inl ⟨by omega, by omega⟩
        refine ⟨.ref a, rfl, a, dx, _, rfl, e1, a, p, q, rfl, h1, fit, .int i, rfl, p, i, rfl, rfl, mp, .ref a, rfl, a, dx, _, rfl, e1, a, p, q, rfl, h1, fit, .int i, rfl, q, i, rfl, rfl, mq, ?_⟩
        have tp : rateD (.int (p * i)) = true := by
          show (decide (1 ≤ p * i) && decide (p * i ≤ 6)) = true
          rw [decide_eq_true g1, decide_eq_true (show p * i ≤ 6 by omega)]; rfl
        have tq : rateD (.int (q * i)) = true := by
          show (decide (1 ≤ q * i) && decide (q * i ≤ 6)) = true
          rw [decide_eq_true g2, decide_eq_true (show q * i ≤ 6 by omega)]; rfl
        refine made (.int _) (.int _) (tame_int (by omega)) (tame_int (by omega)) (fun z => by rw [tp] at z; cases z) (fun _ z => by rw [tq] at z; cases z) fun p' q' e e' f' H' r s' hr' ho => ?_
        cases e
        cases e'
        exact q3 i rfl i1 (by omega) H' r (Same.trans s1 s') (none_of s1 hr') ho
    | non => cases tt
    | bl b => cases tt
    | str x => cases tt
    | lst e _ => cases tt
    | tup e _ => cases tt
    | dic e _ => cases tt
theorem scR_mul : FnScope ["self", "other"] ["self", "other"] (defScope sR_mul) := ⟨rfl, rfl, rfl, by decide +kernel, rfl, by decide +kernel, by decide +kernel⟩
theorem scR_rmul : FnScope ["self", "other"] ["self", "other"] (defScope sR_rmul) := ⟨rfl, rfl, rfl, by decide +kernel, rfl, by decide +kernel, by decide +kernel⟩
theorem scR_eq : FnScope ["self", "other"] ["self", "other"] (defScope sR_eq) := ⟨rfl, rfl, rfl, by decide +kernel, rfl, by decide +kernel, by decide +kernel⟩
theorem ok_mul (X : Tx K mg ad fd) (RC : RateC K mg ad fd) {N fN M fM : Addr} (L_InvalidNumber : ErrV K mg "InvalidNumber" N fN) (L_TooMany : ErrW K mg "TooMany" M fM) : FnOk P w K mg base (L2.CX P w) 7 (ad "Rate.__mul__") (fd "Rate.__mul__") ["self", "other"] (spMul (ad "Rate") N M) := by
  have G_multiple := ok_multiple (P := P) (w := w) (base := base) X RC L_InvalidNumber L_TooMany
  refine RC.F_mul.okX scR_mul (fun vs H Q E h => ?_) (fun cdv A outer s H vs Q E hr h => ?_)
  · obtain ⟨a, p, q, v, d, rfl, _⟩ := h
    rfl
  · obtain ⟨a, p, q, v, d, rfl, k⟩ := h
    have HR_multiple := hr
    have PASS := passes_own (X := cxOf (L2.CX P w) P w K mg base ["self", "other"] "Rate.__mul__" (defScope sR_mul) (ad "Rate.__mul__") cdv A outer s H E) (E := E) rfl rfl rfl rfl
    refine ⟨_, (pss_one (ps_ret (by exact (pe_call G_multiple HR_multiple (by rfl) X.g_multiple X.F_multiple.kp X.b_multiple .nil PASS (pa_cons (pv 0) (pa_cons (pv 1) pa_nil)))))), ?_⟩
    exact ⟨.ref a, rfl, v, rfl, a, p, q, v, d, rfl, k⟩
theorem ok_rmul (X : Tx K mg ad fd) (RC : RateC K mg ad fd) {N fN M fM : Addr} (L_InvalidNumber : ErrV K mg "InvalidNumber" N fN) (L_TooMany : ErrW K mg "TooMany" M fM) : FnOk P w K mg base (L2.CX P w) 7 (ad "Rate.__rmul__") (fd "Rate.__rmul__") ["self", "other"] (spMul (ad "Rate") N M) := by
  have G_multiple := ok_multiple (P := P) (w := w) (base := base) X RC L_InvalidNumber L_TooMany
  refine RC.F_rmul.okX scR_rmul (fun vs H Q E h => ?_) (fun cdv A outer s H vs Q E hr h => ?_)
  · obtain ⟨a, p, q, v, d, rfl, _⟩ := h
    rfl
  · obtain ⟨a, p, q, v, d, rfl, k⟩ := h
    have HR_multiple := hr
    have PASS := passes_own (X := cxOf (L2.CX P w) P w K mg base ["self", "other"] "Rate.__rmul__" (defScope sR_rmul) (ad "Rate.__rmul__") cdv A outer s H E) (E := E) rfl rfl rfl rfl
    refine ⟨_, (pss_one (ps_ret (by exact (pe_call G_multiple HR_multiple (by rfl) X.g_multiple X.F_multiple.kp X.b_multiple .nil PASS (pa_cons (pv 0) (pa_cons (pv 1) pa_nil)))))), ?_⟩
    exact ⟨.ref a, rfl, v, rfl, a, p, q, v, d, rfl, k⟩
/-- == -/
def spEqR (C : Addr) : Sp := fun vs H Q _ => ∃ (a : Addr) (p q : Int) (v : V), vs = [.ref a, v] ∧ RatO C H a p q ∧ ((∃ d, Dx H v d ∧ Q (.bl false) H) ∨ ∃ (b : Addr) (r s : Int), v = .ref b ∧ RatO C H b r s ∧ Q (.bl (decide (p = r ∧ q = s))) H)
theorem ty_rate (RC : RateC K mg ad fd) {H : Hp} {a : Addr} {p q : Int} (h : RatO (ad "Rate") H a p q) : TyX K H (.ref a) (.ref (ad "Rate")) := by
  obtain ⟨dx, e⟩ := h
  exact .base (.ins e RC.cl RC.ca RC.cn RC.ct RC.ob)
theorem ok_eq (X : Tx K mg ad fd) (RC : RateC K mg ad fd) : FnOk P w K mg base CX0 1 (ad "Rate.__eq__") (fd "Rate.__eq__") ["self", "other"] (spEqR (ad "Rate")) := by
  refine RC.F_eq.ok scR_eq (fun vs H Q E h => ?_) (fun cdv A outer s H vs Q E hr h => ?_)
  · obtain ⟨a, p, q, v, rfl, _⟩ := h
    rfl
  · obtain ⟨a, p, q, v, rfl, ⟨dx, ha⟩, k⟩ := h
    refine ⟨_, (pss_one (ps_ret (by exact (pe_and (pe_callB call_isi (by rfl) X.m_isinstance (by decide +kernel) (pa_cons (pv 1) (pa_cons (pe_glob (v := .ref (ad "Rate")) (by rfl) RC.G rfl) pa_nil))) (pe_and (pe_cmpR op_eq (pe_fld (pv 0) rfl) (pe_fld (pv 1) rfl) (nomark _)) (pe_one (pe_cmpR op_eq (pe_fld (pv 0) rfl) (pe_fld (pv 1) rfl) (nomark _)))))))), ?_⟩
    rcases k with ⟨d, hd, k⟩ | ⟨b, r, s, rfl, hb, k⟩
    · exact ⟨v, rfl, v, .ref (ad "Rate"), _, _, _, rfl, .own _, dx_ty hd, (RC.ty _ (tyN_mem d)).1, _, rfl, k⟩
    · refine ⟨.ref b, rfl, .ref b, .ref (ad "Rate"), _, _, true, rfl, .own _, ty_rate RC hb, (by unfold PySem.W.kitOne; rw [if_pos (by simp)]), true, rfl, ?_⟩
      obtain ⟨dy, hb⟩ := hb
      refine iteT ⟨.ref a, rfl, a, _, dx, _, _, rfl, ha, RC.cl, RC.np, rfl, .ref b, rfl, b, _, dy, _, _, rfl, hb, RC.cl, RC.np, rfl, ?_⟩
      refine ⟨rfl, _, rfl, ?_⟩
      by_cases c : p = r
      · rw [decide_eq_true (show V.int p = V.int r by rw [c])]
        refine iteT ⟨.ref a, rfl, a, _, dx, _, _, rfl, ha, RC.cl, RC.nq, rfl, .ref b, rfl, b, _, dy, _, _, rfl, hb, RC.cl, RC.nq, rfl, rfl, ?_⟩
        have e : decide (V.int q = V.int s) = decide (p = r ∧ q = s) := decide_eq_decide.mpr ⟨fun z => ⟨c, V.int.inj z⟩, fun z => by rw [z.2]⟩
        rw [e]
        exact k
      · rw [decide_eq_false (show ¬ V.int p = V.int r from fun z => c (V.int.inj z))]
        refine iteF ?_
        rw [decide_eq_false (show ¬ (p = r ∧ q = s) from fun z => c z.1)] at k
        exact k
end
end K82
end

section
/-! tables of code, walked -/
namespace K82
open PySem
abbrev Ch := List (List (Str × Nat))
def rowC (c : Ch) (i : Nat) : List (Str × Nat) := c.getD i []
def addN (o : List Nat) (t : Nat) : List Nat := if t ∈ o then o else o ++ [t]
def addAll (o : List Nat) (r : List (Str × Nat)) : List Nat := r.foldl (fun o e => addN o e.2) o
def goR (c : Ch) : Nat → Nat → List Nat → List Nat
  | 0, _, o => o
  | f + 1, a, o => match o[a]? with
    | some i => goR c f (a + 1) (addAll o (rowC c i))
    | none => o
def reached (c : Ch) : List Nat := goR c (c.length + 1) 0 [0]
def keptF (c : Ch) : Ch := (reached c).map fun i => (rowC c i).map fun e => (e.1, (reached c).idxOf e.2)
def WfC (c : Ch) : Prop := 0 < c.length ∧ ∀ r ∈ c, ∀ e ∈ r, e.2 < c.length
theorem rowC_lt {c : Ch} (w : WfC c) {i : Nat} {e : Str × Nat} (h : e ∈ rowC c i) : e.2 < c.length := by
  unfold rowC at h
  rw [List.getD_eq_getElem?_getD] at h
  cases k : c[i]? with
  | none => rw [k] at h; cases h
  | some r => rw [k] at h; exact w.2 r (List.mem_of_getElem? k) e h
theorem mem_addN {o : List Nat} {t x : Nat} : x ∈ addN o t ↔ x ∈ o ∨ x = t := by
  unfold addN
  split
  · constructor
    · exact .inl
    · rintro (h | h)
      · exact h
      · rw [h]; assumption
  · simp
theorem mem_addAll {r : List (Str × Nat)} : ∀ {o : List Nat} {x : Nat}, x ∈ addAll o r ↔ x ∈ o ∨ ∃ e ∈ r, x = e.2 := by
  induction r with
  | nil => intro o x; simp [addAll]
  | cons e r ih =>
    intro o x
    show x ∈ addAll (addN o e.2) r ↔ _
    rw [ih, mem_addN]
    constructor
    · rintro ((h | h) | ⟨e', h1, h2⟩)
      · exact .inl h
      · exact .inr ⟨e, List.mem_cons_self .., h⟩
      · exact .inr ⟨e', List.mem_cons_of_mem _ h1, h2⟩
    · rintro (h | ⟨e', h1, h2⟩)
      · exact .inl (.inl h)
      · rcases List.mem_cons.mp h1 with rfl | h1
        · exact .inl (.inr h2)
        · exact .inr ⟨e', h1, h2⟩
theorem addN_pre (o : List Nat) (t : Nat) : ∃ s, addN o t = o ++ s := by
  unfold addN
  split
  · exact ⟨[], (List.append_nil o).symm⟩
  · exact ⟨[t], rfl⟩
theorem addAll_pre {r : List (Str × Nat)} : ∀ (o : List Nat), ∃ s, addAll o r = o ++ s := by
  induction r with
  | nil => exact fun o => ⟨[], (List.append_nil o).symm⟩
  | cons e r ih =>
    intro o
    obtain ⟨s, h⟩ := addN_pre o e.2
    obtain ⟨s', h'⟩ := ih (addN o e.2)
    exact ⟨s ++ s', by show addAll (addN o e.2) r = _; rw [h', h, List.append_assoc]⟩
theorem nodup_addN {o : List Nat} (t : Nat) (h : o.Nodup) : (addN o t).Nodup := by
  unfold addN
  split
  · exact h
  · rename_i k
    rw [List.nodup_append]
    refine ⟨h, by simp, fun x hx y hy => ?_⟩
    rw [List.mem_singleton.mp hy]
    exact fun z => k (by rw [← z]; exact hx)
theorem nodup_addAll {r : List (Str × Nat)} : ∀ {o : List Nat}, o.Nodup → (addAll o r).Nodup := by
  induction r with
  | nil => exact fun h => h
  | cons e r ih => exact fun h => ih (nodup_addN e.2 h)
theorem nodup_len : ∀ {n : Nat} {o : List Nat}, o.Nodup → (∀ x ∈ o, x < n) → o.length ≤ n
  | 0, o, _, h => by
    cases o with
    | nil => exact Nat.le_refl _
    | cons x r => exact absurd (h x (List.mem_cons_self ..)) (Nat.not_lt_zero _)
  | n + 1, o, h1, h2 => by
    by_cases k : n ∈ o
    · have r := nodup_len (n := n) (h1.erase n) fun x hx => by
        obtain ⟨a, b⟩ := h1.mem_erase_iff.mp hx
        have := h2 x b
        omega
      have := List.length_erase_of_mem k
      have := List.length_pos_of_mem k
      omega
    · have r := nodup_len (n := n) h1 fun x hx => by
        have := h2 x hx
        have : x ≠ n := fun z => k (z ▸ hx)
        omega
      omega
/-- enough steps are enough -/
theorem goR_stop {c : Ch} (w : WfC c) : ∀ (f a : Nat) (o : List Nat), o.Nodup → (∀ x ∈ o, x < c.length) → c.length + 1 ≤ f + a → goR c (f + 1) a o = goR c f a o
  | 0, a, o, h1, h2, h3 => by
    have : o.length ≤ c.length := nodup_len h1 h2
    unfold goR
    rw [List.getElem?_eq_none (by omega)]
  | f + 1, a, o, h1, h2, h3 => by
    rw [show goR c (f + 1 + 1) a o = (match o[a]? with | some i => goR c (f + 1) (a + 1) (addAll o (rowC c i)) | none => o) from rfl, show goR c (f + 1) a o = (match o[a]? with | some i => goR c f (a + 1) (addAll o (rowC c i)) | none => o) from rfl]
    cases e : o[a]? with
    | none => rfl
    | some i => exact goR_stop w f (a + 1) _ (nodup_addAll h1) (fun x hx => (mem_addAll.mp hx).elim (h2 x) fun ⟨e, he, z⟩ => by rw [z]; exact rowC_lt w he) (by omega)
theorem goR_more {c : Ch} (w : WfC c) {f a : Nat} {o : List Nat} (h1 : o.Nodup) (h2 : ∀ x ∈ o, x < c.length) (h3 : c.length + 1 ≤ f + a) : ∀ k, goR c (f + k) a o = goR c f a o
  | 0 => rfl
  | k + 1 => (goR_stop w (f + k) a o h1 h2 (by omega)).trans (goR_more w h1 h2 h3 k)
theorem addN_map {g : Nat → Nat} {o : List Nat} {t : Nat} (inj : ∀ x ∈ o, g x = g t → x = t) : addN (o.map g) (g t) = (addN o t).map g := by
  unfold addN
  by_cases h : t ∈ o
  · rw [if_pos h, if_pos (List.mem_map_of_mem h)]
  · rw [if_neg h, if_neg]
    · rw [List.map_append]; rfl
    · intro z
      obtain ⟨x, hx, e⟩ := List.mem_map.mp z
      exact h (inj x hx e ▸ hx)
theorem addAll_map {g : Nat → Nat} {D : Nat → Prop} (inj : ∀ x y, D x → D y → g x = g y → x = y) : ∀ (r : List (Str × Nat)) (o : List Nat), (∀ x ∈ o, D x) → (∀ e ∈ r, D e.2) → addAll (o.map g) (r.map fun e => (e.1, g e.2)) = (addAll o r).map g
  | [], o, _, _ => rfl
  | e :: r, o, ho, hr => by
    show addAll (addN (o.map g) (g e.2)) (r.map fun e => (e.1, g e.2)) = (addAll (addN o e.2) r).map g
    rw [addN_map fun x hx z => inj x e.2 (ho x hx) (hr e (List.mem_cons_self ..)) z]
    exact addAll_map inj r _ (fun x hx => (mem_addN.mp hx).elim (ho x) fun z => z ▸ hr e (List.mem_cons_self ..)) fun e' h => hr e' (List.mem_cons_of_mem _ h)
/-- g takes the walk of c' to that of c -/
structure Iso (c c' : Ch) (g : Nat → Nat) (D : Nat → Prop) : Prop where
  z : g 0 = 0
  d0 : D 0
  row : ∀ i, D i → rowC c (g i) = (rowC c' i).map fun e => (e.1, g e.2)
  closed : ∀ i, D i → ∀ e ∈ rowC c' i, D e.2
  inj : ∀ x y, D x → D y → g x = g y → x = y
theorem Iso.go {c c' : Ch} {g : Nat → Nat} {D : Nat → Prop} (I : Iso c c' g D) : ∀ (f a : Nat) (o : List Nat), (∀ x ∈ o, D x) → goR c f a (o.map g) = (goR c' f a o).map g ∧ ∀ x ∈ goR c' f a o, D x
  | 0, a, o, h => ⟨rfl, h⟩
  | f + 1, a, o, h => by
    unfold goR
    rw [List.getElem?_map]
    cases e : o[a]? with
    | none => exact ⟨rfl, h⟩
    | some i =>
      have di := h i (List.mem_of_getElem? e)
      have r := I.go f (a + 1) (addAll o (rowC c' i)) fun x hx => (mem_addAll.mp hx).elim (h x) fun ⟨e, he, z⟩ => z ▸ I.closed i di e he
      refine ⟨?_, r.2⟩
      show goR c f (a + 1) (addAll (o.map g) (rowC c (g i))) = _
      rw [I.row i di, addAll_map I.inj _ _ h (I.closed i di)]
      exact r.1
theorem one_nodup : ([0] : List Nat).Nodup := by simp
theorem reached_is {c : Ch} (w : WfC c) {f : Nat} (h : c.length + 1 ≤ f) : goR c f 0 [0] = reached c := by
  obtain ⟨k, rfl⟩ := Nat.le.dest h
  exact goR_more w one_nodup (fun x hx => by rw [List.mem_singleton.mp hx]; exact w.1) (by omega) k
theorem Iso.reached {c c' : Ch} {g : Nat → Nat} {D : Nat → Prop} (I : Iso c c' g D) (w : WfC c) (w' : WfC c') : K82.reached c = (K82.reached c').map g ∧ ∀ x ∈ K82.reached c', D x := by
  obtain ⟨h1, h2⟩ := I.go (c.length + 1 + (c'.length + 1)) 0 [0] fun x hx => by rw [List.mem_singleton.mp hx]; exact I.d0
  rw [reached_is w' (by omega)] at h1 h2
  rw [show List.map g [0] = [0] by simp [I.z], reached_is w (by omega)] at h1
  exact ⟨h1, h2⟩
theorem idx_map {g : Nat → Nat} {t : Nat} : ∀ {o : List Nat}, (∀ x ∈ o, g x = g t → x = t) → (o.map g).idxOf (g t) = o.idxOf t
  | [], _ => rfl
  | x :: o, h => by
    rw [List.map_cons, List.idxOf_cons, List.idxOf_cons]
    by_cases e : x = t
    · rw [e]; simp
    · have ne : ¬ g x = g t := fun z => e (h x (List.mem_cons_self ..) z)
      rw [show (g x == g t) = false from beq_eq_false_iff_ne.mpr ne, show (x == t) = false from beq_eq_false_iff_ne.mpr e]
      simp only [cond_false]
      rw [idx_map fun y hy => h y (List.mem_cons_of_mem _ hy)]
theorem Iso.kept {c c' : Ch} {g : Nat → Nat} {D : Nat → Prop} (I : Iso c c' g D) (w : WfC c) (w' : WfC c') : keptF c = keptF c' := by
  obtain ⟨h1, h2⟩ := I.reached w w'
  unfold keptF
  rw [h1, List.map_map]
  refine List.map_congr_left fun i hi => ?_
  show (rowC c (g i)).map _ = _
  rw [I.row i (h2 i hi), List.map_map]
  refine List.map_congr_left fun e he => ?_
  show (e.1, _) = (e.1, _)
  rw [idx_map fun x hx z => I.inj x e.2 (h2 x hx) (I.closed i (h2 i hi) e he) z]
/-! the walk is closed -/
theorem goR_pre {c : Ch} : ∀ (f a : Nat) (o : List Nat), ∃ s, goR c f a o = o ++ s
  | 0, a, o => ⟨[], (List.append_nil o).symm⟩
  | f + 1, a, o => by
    unfold goR
    cases e : o[a]? with
    | none => exact ⟨[], (List.append_nil o).symm⟩
    | some i =>
      obtain ⟨s, h⟩ := addAll_pre (r := rowC c i) o
      obtain ⟨s', h'⟩ := goR_pre (c := c) f (a + 1) (addAll o (rowC c i))
      exact ⟨s ++ s', by show goR c f (a + 1) (addAll o (rowC c i)) = _; rw [h', h, List.append_assoc]⟩
/-- the first a ones have been gone through -/
def Done (c : Ch) (a : Nat) (o : List Nat) : Prop := ∀ m i, m < a → o[m]? = some i → ∀ e ∈ rowC c i, e.2 ∈ o
theorem Done.step {c : Ch} {a i : Nat} {o : List Nat} (d : Done c a o) (h : o[a]? = some i) : Done c (a + 1) (addAll o (rowC c i)) := by
  intro m j hm hj e he
  obtain ⟨s, hs⟩ := addAll_pre (r := rowC c i) o
  have la : a < o.length := (List.getElem?_eq_some_iff.mp h).1
  rw [hs, List.getElem?_append_left (by omega)] at hj
  by_cases k : m < a
  · exact mem_addAll.mpr (.inl (d m j k hj e he))
  · have : m = a := by omega
    subst this
    rw [h] at hj
    cases hj
    exact mem_addAll.mpr (.inr ⟨e, he, rfl⟩)
theorem goR_done {c : Ch} (w : WfC c) : ∀ (f a : Nat) (o : List Nat), o.Nodup → (∀ x ∈ o, x < c.length) → a ≤ o.length → c.length + 1 ≤ f + a → Done c a o →
    (goR c f a o).Nodup ∧ (∀ x ∈ goR c f a o, x < c.length) ∧ ∀ x ∈ goR c f a o, ∀ e ∈ rowC c x, e.2 ∈ goR c f a o
  | 0, a, o, h1, h2, h3, h4, d => by
    have : o.length ≤ c.length := nodup_len h1 h2
    omega
  | f + 1, a, o, h1, h2, h3, h4, d => by
    unfold goR
    cases e : o[a]? with
    | none =>
      refine ⟨h1, h2, fun x (hx : x ∈ o) e' he => ?_⟩
      obtain ⟨m, hm, em⟩ := List.mem_iff_getElem.mp hx
      have : o.length ≤ a := List.getElem?_eq_none_iff.mp e
      exact d m x (by omega) (by rw [List.getElem?_eq_getElem hm, em]) e' he
    | some i =>
      have la : a < o.length := (List.getElem?_eq_some_iff.mp e).1
      obtain ⟨s, hs⟩ := addAll_pre (r := rowC c i) o
      exact goR_done w f (a + 1) _ (nodup_addAll h1) (fun x hx => (mem_addAll.mp hx).elim (h2 x) fun ⟨e, he, z⟩ => by rw [z]; exact rowC_lt w he) (by rw [hs, List.length_append]; omega) (by omega) (d.step e)
theorem reached_ok {c : Ch} (w : WfC c) : (reached c).Nodup ∧ (∀ x ∈ reached c, x < c.length) ∧ (∀ x ∈ reached c, ∀ e ∈ rowC c x, e.2 ∈ reached c) ∧ (reached c)[0]? = some 0 := by
  obtain ⟨h1, h2, h3⟩ := goR_done w (c.length + 1) 0 [0] one_nodup (fun x hx => by rw [List.mem_singleton.mp hx]; exact w.1) (Nat.zero_le _) (Nat.le_refl _) fun m i hm => absurd hm (Nat.not_lt_zero _)
  obtain ⟨s, hs⟩ := goR_pre (c := c) (c.length + 1) 0 [0]
  refine ⟨h1, h2, h3, ?_⟩
  show (goR c (c.length + 1) 0 [0])[0]? = _
  rw [hs]
  rfl
theorem reached_pos {c : Ch} (w : WfC c) : 0 < (reached c).length := (List.getElem?_eq_some_iff.mp (reached_ok w).2.2.2).1
theorem keptF_length (c : Ch) : (keptF c).length = (reached c).length := by unfold keptF; rw [List.length_map]
theorem keptF_row {c : Ch} {i : Nat} (h : i < (reached c).length) : rowC (keptF c) i = (rowC c ((reached c)[i])).map fun e => (e.1, (reached c).idxOf e.2) := by
  unfold rowC keptF
  rw [List.getD_eq_getElem?_getD, List.getElem?_map, List.getElem?_eq_getElem h]
  rfl
theorem keptF_wf {c : Ch} (w : WfC c) : WfC (keptF c) := by
  obtain ⟨h1, h2, h3, h4⟩ := reached_ok w
  rw [WfC, keptF_length]
  refine ⟨reached_pos w, fun r hr e he => ?_⟩
  unfold keptF at hr
  obtain ⟨i, hi, rfl⟩ := List.mem_map.mp hr
  obtain ⟨e', he', rfl⟩ := List.mem_map.mp he
  exact List.idxOf_lt_length_of_mem (h3 i hi e' he')
theorem kept_kept {c : Ch} (w : WfC c) : keptF (keptF c) = keptF c := by
  obtain ⟨h1, h2, h3, h4⟩ := reached_ok w
  have I : Iso c (keptF c) (fun i => (reached c).getD i 0) (fun i => i < (reached c).length) := {
    z := by rw [List.getD_eq_getElem?_getD, h4]; rfl
    d0 := reached_pos w
    row := fun i hi => by
      rw [keptF_row hi, List.map_map, List.getD_eq_getElem?_getD, List.getElem?_eq_getElem hi]
      refine (List.map_id (rowC c (reached c)[i])).symm.trans (List.map_congr_left fun e he => ?_)
      have m := h3 _ (List.getElem_mem hi) e he
      show e = (e.1, (reached c).getD ((reached c).idxOf e.2) 0)
      rw [List.getD_eq_getElem?_getD, List.getElem?_eq_getElem (List.idxOf_lt_length_of_mem m), List.getElem_idxOf]
      rfl
    closed := fun i hi e he => by
      rw [keptF_row hi] at he
      obtain ⟨e', he', rfl⟩ := List.mem_map.mp he
      exact List.idxOf_lt_length_of_mem (h3 _ (List.getElem_mem hi) e' he')
    inj := fun x y hx hy e => by
      have e : (reached c).getD x 0 = (reached c).getD y 0 := e
      rw [List.getD_eq_getElem?_getD, List.getD_eq_getElem?_getD, List.getElem?_eq_getElem hx, List.getElem?_eq_getElem hy] at e
      exact (List.getElem_inj (h₀ := hx) (h₁ := hy) h1).mp e }
  exact (I.kept w (keptF_wf w)).symm
end K82
end

section
set_option maxHeartbeats 4000000
/-! code tables as data; kept codes -/
namespace K82
open PySem PySem.Spec PyProof.Rows L2
section
variable {X : Cx} {K : PySem.W.Frag}
theorem ps_never {st : Stmt} : PS X st (fun _ _ _ => False) := ⟨fun _ _ _ _ _ _ h => h.elim⟩
theorem ix_listK (e : X.K = K) : IxR X (rIxL K) := by
  subst e
  exact ix_list
theorem pi_listK {tg l : Expr} {tl : TE} (e : X.K = K) (hl : PE X l tl) : PI X tg l (iList K tl) := by
  subst e
  exact pi_list hl
theorem pg_tupK {es : List Expr} {k : Nat} {t : TGs} {n : Nat} {pos : Pos} (e : X.K = K) (hc : X.calm = true) (h : PGs X es t)
    (hn : (assignEach es X.env).length = n := by rfl) (hst : (assignEach es X.env).findIdx? (·.1) = none := by rfl) : PG X (.Tuple es k pos) (gTup K n t) := by
  subst e
  exact pg_tup hc h hn hst
end
def entD (e : Str × Nat) : PyData := .tuple [.str e.1, .int e.2]
def rowD (r : List (Str × Nat)) : PyData := .list (r.map entD)
def chD (c : Ch) : PyData := .list (c.map rowD)
theorem Dx.list {H : Hp} {v : V} {ds : List PyData} (h : Dx H v (.list ds)) : ∃ a vs, v = .ref a ∧ H a = some (.lst vs) ∧ DxAll H vs ds := by
  cases h with
  | lst e h => exact ⟨_, _, rfl, e, h⟩
theorem DxAll.at_ {H : Hp} : ∀ {vs : List V} {ds : List PyData} {i : Nat} {d : PyData}, DxAll H vs ds → ds[i]? = some d → ∃ v, vs[i]? = some v ∧ Dx H v d
  | _, _, _, _, .nil, h => by cases h
  | _, _, 0, _, .cons a b, h => by cases h; exact ⟨_, rfl, a⟩
  | _, _, i + 1, _, .cons a b, h => DxAll.at_ b (i := i) (by simpa using h)
theorem DxAll.from_ {H : Hp} : ∀ {vs : List V} {ds : List PyData} {i : Nat} {v : V}, DxAll H vs ds → vs[i]? = some v → ∃ d, ds[i]? = some d ∧ Dx H v d
  | _, _, _, _, .nil, h => by cases h
  | _, _, 0, _, .cons a b, h => by cases h; exact ⟨_, rfl, a⟩
  | _, _, i + 1, _, .cons a b, h => DxAll.from_ b (i := i) (by simpa using h)
/-- a row of the table at a -/
theorem chD_row {H : Hp} {v : V} {c : Ch} {i : Nat} (h : Dx H v (chD c)) (hi : i < c.length) : ∃ a vs b, v = .ref a ∧ H a = some (.lst vs) ∧ vs.length = c.length ∧ vs[i]? = some (.ref b) ∧ Dx H (.ref b) (rowD (rowC c i)) := by
  obtain ⟨a, vs, rfl, e, all⟩ := h.list
  have e2 : (c.map rowD)[i]? = some (rowD (rowC c i)) := by
    rw [List.getElem?_map, List.getElem?_eq_getElem hi]
    unfold rowC
    rw [List.getD_eq_getElem?_getD, List.getElem?_eq_getElem hi]
    rfl
  obtain ⟨u, hu, du⟩ := all.at_ e2
  obtain ⟨b, ws, rfl, _, _⟩ := du.list
  exact ⟨a, vs, b, rfl, e, by rw [all.length, List.length_map], hu, du⟩
theorem rowD_ent {H : Hp} {b : Addr} {r : List (Str × Nat)} (h : Dx H (.ref b) (rowD r)) : ∃ vs, H b = some (.lst vs) ∧ vs.length = r.length ∧ ∀ (j : Nat) (x : V), vs[j]? = some x → ∃ (t : Addr) (e : Str × Nat), r[j]? = some e ∧ x = .ref t ∧ H t = some (.tup [.str e.1, .int e.2]) := by
  obtain ⟨b', vs, eb, e, all⟩ := h.list
  cases eb
  refine ⟨vs, e, by rw [all.length, List.length_map], fun j x hx => ?_⟩
  obtain ⟨d, hd, dx⟩ := all.from_ hx
  rw [List.getElem?_map] at hd
  cases er : r[j]? with
  | none => rw [er] at hd; cases hd
  | some en =>
    rw [er] at hd
    cases hd
    cases dx with
    | tup et al =>
      cases al with
      | cons a1 r1 =>
        cases r1 with
        | cons a2 r2 =>
          cases r2
          cases a1
          cases a2
          exact ⟨_, en, rfl, rfl, et⟩
def placesK (k : Nat) (o : List Nat) : List (Key × V) := (o.zipIdx k).map fun p => ((.inl (p.1 : Int) : Key), V.int (p.2 : Int))
theorem places_val : ∀ (o : List Nat) (k t : Nat), valV (placesK k o) (.inl (t : Int)) = if t ∈ o then some (.int ((k + o.idxOf t : Nat) : Int)) else none
  | [], k, t => by simp [placesK, valV]
  | x :: o, k, t => by
    have e : placesK k (x :: o) = ((.inl (x : Int) : Key), V.int (k : Int)) :: placesK (k + 1) o := rfl
    have ih := places_val o (k + 1) t
    unfold valV at ih ⊢
    rw [e]
    by_cases h : x = t
    · subst h
      simp
    · have ne : ¬ ((.inl (x : Int) : Key) = .inl (t : Int)) := fun z => h (by have := Sum.inl.inj z; omega)
      rw [List.find?_cons_of_neg (by simpa using ne), ih]
      have hb : (x == t) = false := beq_eq_false_iff_ne.mpr h
      rw [List.idxOf_cons, hb]
      simp only [cond_false, List.mem_cons]
      by_cases m : t ∈ o
      · rw [if_pos m, if_pos (.inr m), show k + 1 + o.idxOf t = k + (o.idxOf t + 1) by omega]
      · rw [if_neg m, if_neg (by rintro (z | z); exact h z.symm; exact m z)]
theorem placesK_len (k : Nat) (o : List Nat) : (placesK k o).length = o.length := by unfold placesK; rw [List.length_map, List.length_zipIdx]
theorem places_put {o : List Nat} {t : Nat} (h : t ∉ o) : putK (placesK 0 o) (.inl (t : Int)) (.int ((o.map fun (t : Nat) => V.int (t : Int)).length : Nat)) = placesK 0 (o ++ [t]) := by
  have no : ((placesK 0 o).any fun kv => decide (kv.1 = (.inl (t : Int) : Key))) = false := by
    have := places_val o 0 t
    rw [if_neg h] at this
    unfold valV at this
    cases e : (placesK 0 o).find? fun kv => decide (kv.1 = (.inl (t : Int) : Key)) with
    | some z => rw [e] at this; cases this
    | none =>
      rw [List.any_eq_false]
      intro x hx z
      exact List.find?_eq_none.mp e x hx z
  unfold putK
  rw [no]
  unfold placesK
  rw [List.zipIdx_append, List.map_append, List.length_map]
  simp
def intsV (o : List Nat) : List V := o.map fun (t : Nat) => V.int (t : Int)
/-- a row of its own stands at l -/
def RowAt (H : Hp) (l : Addr) (r : List (Str × Nat)) : Prop := ∃ ts : List Addr, H l = some (.lst (ts.map V.ref)) ∧ ts.length = r.length ∧ ∀ (j : Nat) (t : Addr), ts[j]? = some t → ∃ e, r[j]? = some e ∧ H t = some (.tup [.str e.1, .int e.2])
theorem dxAll_of {H : Hp} : ∀ {vs : List V} {ds : List PyData}, vs.length = ds.length → (∀ (j : Nat) (v : V), vs[j]? = some v → ∃ d, ds[j]? = some d ∧ Dx H v d) → DxAll H vs ds
  | [], [], _, _ => .nil
  | [], _ :: _, h, _ => by cases h
  | _ :: _, [], h, _ => by cases h
  | v :: vs, d :: ds, h, k => by
    obtain ⟨d', e, x⟩ := k 0 v rfl
    cases e
    exact .cons x (dxAll_of (by simpa using h) fun j u hu => k (j + 1) u hu)
theorem RowAt.dx {H : Hp} {l : Addr} {r : List (Str × Nat)} (h : RowAt H l r) : Dx H (.ref l) (rowD r) := by
  obtain ⟨ts, e, hl, k⟩ := h
  refine .lst e (dxAll_of (by rw [List.length_map, List.length_map, hl]) fun j v hv => ?_)
  rw [List.getElem?_map] at hv
  cases et : ts[j]? with
  | none => rw [et] at hv; cases hv
  | some t =>
    rw [et] at hv
    cases hv
    obtain ⟨en, h1, h2⟩ := k j t et
    exact ⟨entD en, by rw [List.getElem?_map, h1]; rfl, .tup h2 (.cons (.str _) (.cons (.int _) .nil))⟩
theorem RowAt.keep {H H' : Hp} {D l : Addr} {r : List (Str × Nat)} {xs : List V} (h : RowAt H l r) (n : l ≠ D) (eD : H D = some (.lst xs)) (s : ∀ b o, b ≠ D → H b = some o → H' b = some o) : RowAt H' l r := by
  obtain ⟨ts, e, hl, k⟩ := h
  refine ⟨ts, s _ _ n e, hl, fun j t et => ?_⟩
  obtain ⟨en, h1, h2⟩ := k j t et
  exact ⟨en, h1, s _ _ (fun z => by rw [z, eD] at h2; cases h2) h2⟩
theorem yes_of {σ : L2.St} {H : Hp} {f : Bool → Hp → Prop} (h : f true H) : tYes σ H f := h
def spKeptC : Sp := fun vs H Q _ => ∃ (v : V) (c : Ch), vs = [v] ∧ Dx H v (chD c) ∧ WfC c ∧ c.length ≤ 1000 ∧ (∀ r ∈ c, r.length ≤ 1000) ∧ ∀ (l : Addr) (H' : Hp), Same H H' → H l = none → Dx H' (.ref l) (chD (keptF c)) → Q (.ref l) H'
section
variable {P : Program} {w : World} {K : PySem.W.Frag} {mg : Str → Option Value} {base : Heap} {ad : Str → Addr} {fd : Str → FuncData}
theorem scKeptCodes : FnScope ["codes", "order", "places", "at", "entries", "_", "to", "old", "block", "further"] ["codes"] (defScope sKeptCodes) := ⟨rfl, rfl, rfl, by decide +kernel, rfl, by decide +kernel, by decide +kernel⟩
theorem ok_kept_codes (X : Tx K mg ad fd) : FnOk P w K mg base CX0 1 (ad "kept_codes") (fd "kept_codes") ["codes"] spKeptC := by
  refine X.F_kept_codes.ok scKeptCodes (fun vs H Q E h => ?_) (fun cdv A outer s H vs Q E hr h => ?_)
  · obtain ⟨v, c, rfl, _⟩ := h
    rfl
  · obtain ⟨v, c, rfl, hc, wf, l1, l2, k⟩ := h
    have hu := hr.units
    have hu1 := Nat.lt_of_le_of_lt (Nat.add_le_add_left (show 1 ≤ 64 by decide) _) hu
    refine ⟨_, (pss_cons (ps_set (i := 1) scKeptCodes.nd rfl (.inl rfl) (by exact (pe_lst (pa_cons pe_int pa_nil))))
  (pss_cons (ps_set (i := 2) scKeptCodes.nd rfl (.inr rfl) (by exact (pe_disp (pps_cons pe_int pe_int pps_nil) rfl rfl (fun z => nomatch z) (by show 1 ≤ 15; decide))))
  (pss_cons (ps_set (i := 3) scKeptCodes.nd rfl (.inl rfl) (by exact pe_int))
  (pss_cons (ps_while PassesOwn.never (pt_cmpR op_lt (pv 3) (pe_callB call_len (by rfl) X.m_len (by decide +kernel) (pa_cons (pv 1) pa_nil)) (nomark _))
  (pss_cons (ps_set (i := 4) scKeptCodes.nd rfl (.inl rfl) (by exact (pe_ix ix_list (pv 0) (pe_ix ix_list (pv 1) (pv 3) (fun _ _ => rfl)) (fun _ _ => rfl))))
  (pss_cons (ps_aug (i := 3) scKeptCodes.nd rfl (.inl rfl) pe_int ip_add)
  (pss_one (ps_for PassesOwn.never rfl (pi_list (pv 4)) (pg_tup rfl (pgs_cons (pg_name (i := 5) scKeptCodes.nd rfl (.inl rfl)) (pgs_cons (pg_name (i := 6) scKeptCodes.nd rfl (.inl rfl)) pgs_nil)))
  (pss_one (ps_if (pt_cmp (pc_dnotin hu1 (pv 6) (pv 2)))
  (pss_cons (ps_dput hu1 (pv 2) (pv 6) (pe_callB call_len (by rfl) X.m_len (by decide +kernel) (pa_cons (pv 1) pa_nil)) (by rfl))
  (pss_one (ps_expr (by exact (pe_bm PySem.F.plainAttrs_list PySem.F.slot_list_append PySem.F.type_list_append mt_append (pv 1) (pa_cons (pv 6) pa_nil))))))
  pss_nil)))))))
  (pss_one (ps_ret (by exact (pe_lc (own := [("old", 7)]) (g := gName 7) rfl scKeptCodes.nd (pi_list (pv 1)) (blkOk_by (own := [("old", 7)]) (N := ["codes", "order", "places", "at", "entries", "_", "to", "old", "block", "further"]) (sc := defScope sKeptCodes) (by decide +kernel)) (fun _ _ _ _ _ => pg_name (i := 7) scKeptCodes.nd rfl (Or.inl rfl)) (fun _ _ _ _ _ => pts_nil) (fun _ _ _ _ _ => (pe_lc (own := [("block", 8), ("further", 9)]) (g := gTup K 2 (gCons (gName 8) (gCons (gName 9) (gNil)))) rfl scKeptCodes.nd (pi_listK (K := K) rfl (pe_ix (ix_listK (K := K) rfl) (pv 0) (pv 7) (fun _ _ => rfl))) (blkOk_by (own := [("block", 8), ("further", 9)]) (N := ["codes", "order", "places", "at", "entries", "_", "to", "old", "block", "further"]) (by kernel_rfl)) (fun _ _ _ _ _ => pg_tupK (K := K) rfl rfl (pgs_cons (pg_name (i := 8) scKeptCodes.nd rfl (Or.inl rfl)) (pgs_cons (pg_name (i := 9) scKeptCodes.nd rfl (Or.inl rfl)) (pgs_nil)))) (fun _ _ _ _ _ => pts_nil) (fun _ _ _ _ _ => (pe_tup (pa_cons (pv 8) (pa_cons (pe_dget hu1 (pv 2) (pv 9) (fun _ _ => rfl)) pa_nil)))))))))))))), ?_⟩
    obtain ⟨a, cv, ra, ea, all⟩ := hc.list
    subst ra
    refine ⟨(by show 1 ≤ sizeLine; decide), fun O hO R hR => ⟨upd_same, [(.inl 0, .int 0)], rfl, (by show 1 ≤ 15; decide), ?_⟩⟩
    have nOR : O ≠ R := ne_of_none upd_same hR
    have S0 : Same H (upd (upd (upd H O (.lst [.int 0])) R (.dK [])) R (.dK (mergeK [] [(.inl 0, .int 0)]))) := fun b o e => by
      rw [upd_ne (ne_of_none (Same.new hO _ _ e) hR), upd_ne (ne_of_none (Same.new hO _ _ e) hR)]
      exact Same.new hO _ _ e
    refine ⟨fun m σ H' => ∃ (n : Nat) (o : List Nat) (r4 r5 r6 : Option V), σ = [some (.ref a), some (.ref O), some (.ref R), some (.int (n : Int)), r4, r5, r6, none, none, none] ∧ m = c.length + 1 - n ∧ n ≤ o.length ∧ n ≤ c.length ∧ Same H H' ∧ H' O = some (.lst (intsV o)) ∧ H' R = some (.dK (placesK 0 o)) ∧ o.Nodup ∧ (∀ x ∈ o, x < c.length) ∧
      goR c (c.length + 1 - n) n o = reached c, ⟨_, 0, [0], _, _, _, rfl, rfl, Nat.zero_le _, Nat.zero_le _, S0, ((upd_ne nOR).trans ((upd_ne nOR).trans upd_same) : _ = some (.lst [V.int 0])), upd_same, one_nodup, (fun x hx => by rw [List.mem_singleton.mp hx]; exact wf.1), rfl⟩, ?_⟩
    rintro m σ H1 ⟨n, o, r4, r5, r6, rfl, rfl, hn, hn2, S1, eO, eR, nd, lt, go⟩
    have lo : (intsV o).length = o.length := by unfold intsV; rw [List.length_map]
    refine ⟨.int (n : Int), rfl, .ref O, rfl, .ref O, _, rfl, .inl ⟨_, SqL.of eO, rfl⟩, _, _, rfl, rfl, _, rfl, ?_⟩
    rw [lo]
    by_cases hlt : n < o.length
    · rw [decide_eq_true (show (n : Int) < (o.length : Int) by omega)]
      have nlt : n < c.length := Nat.lt_of_lt_of_le hlt (nodup_len nd lt)
      refine iteT ⟨fun σ' H' => ∃ m', m' < c.length + 1 - n ∧ ∃ (n : Nat) (o : List Nat) (r4 r5 r6 : Option V), σ' = [some (.ref a), some (.ref O), some (.ref R), some (.int (n : Int)), r4, r5, r6, none, none, none] ∧ m' = c.length + 1 - n ∧ n ≤ o.length ∧ n ≤ c.length ∧ Same H H' ∧ H' O = some (.lst (intsV o)) ∧ H' R = some (.dK (placesK 0 o)) ∧ o.Nodup ∧ (∀ x ∈ o, x < c.length) ∧
        goR c (c.length + 1 - n) n o = reached c, fun _ _ z => z, ?_⟩
      obtain ⟨t, et⟩ : ∃ t, o[n]? = some t := ⟨_, List.getElem?_eq_getElem hlt⟩
      have tl := lt t (List.mem_of_getElem? et)
      have eot : (intsV o)[n]? = some (.int (t : Int)) := by unfold intsV; rw [List.getElem?_map, et]; rfl
      obtain ⟨a', vs, b, ea', ev, lv, hb, db⟩ := chD_row hc tl
      cases ea'
      obtain ⟨ws, ew0, lw, ents⟩ := rowD_ent db
      have ew := S1 _ _ ew0
      replace ev := S1 _ _ ev
      refine ⟨.ref a, rfl, .ref O, rfl, .int (n : Int), rfl, O, _, (n : Int), .int (t : Int), rfl, rfl, SqL.of eO, atI_nat eot, a, _, (t : Int), .ref b, rfl, rfl, SqL.of ev, atI_nat hb, ?_⟩
      refine ⟨.int (n : Int), rfl, (n : Int), 1, rfl, rfl, .ref b, rfl, b, rfl, ⟨_, SqL.of ew⟩, ?_⟩
      have nbO : b ≠ O := ne_of_none ew0 hO
      have nbR : b ≠ R := ne_of_none (Same.new hO _ _ ew0) hR
      refine for_list (K := K) (a := b) (xs := ws) (fun j σ H' => ∃ r5 r6, σ = [some (.ref a), some (.ref O), some (.ref R), some (.int ((n : Int) + 1)), some (.ref b), r5, r6, none, none, none] ∧ Same H H' ∧ H' b = some (.lst ws) ∧ (∀ t o, H1 t = some (.tup o) → H' t = some (.tup o)) ∧
        H' O = some (.lst (intsV (addAll o ((rowC c t).take j)))) ∧ H' R = some (.dK (placesK 0 (addAll o ((rowC c t).take j))))) ⟨_, _, rfl, S1, ew, fun _ _ z => z, eO, eR⟩ (fun j σ H' _ ⟨_, _, _, _, eb, _⟩ => SqL.of eb) ?_ ?_
      · rintro j x σ H2 hx ⟨r5, r6, rfl, S2, eb2, tk, eO2, eR2⟩
        obtain ⟨tt, en, he, rfl, htt⟩ := ents j x hx
        have ht2 := S2 _ _ htt
        have tj : (rowC c t).take (j + 1) = (rowC c t).take j ++ [en] := by
          rw [List.take_add_one, he]; rfl
        have aj : addAll o ((rowC c t).take (j + 1)) = addN (addAll o ((rowC c t).take j)) en.2 := by
          rw [tj]
          unfold addAll
          rw [List.foldl_append]
          rfl
        rw [aj]
        have nd2 : (addAll o ((rowC c t).take j)).Nodup := nodup_addAll nd
        have lt2 : ∀ x ∈ addAll o ((rowC c t).take j), x < c.length := fun x hx => (mem_addAll.mp hx).elim (lt x) fun ⟨e, he, z⟩ => by rw [z]; exact rowC_lt wf (List.mem_of_mem_take he)
        have len2 := nodup_len nd2 lt2
        generalize addAll o ((rowC c t).take j) = o2 at eO2 eR2 nd2 lt2 len2 ⊢
        refine ⟨tt, [.str en.1, .int (en.2 : Int)], rfl, SqT.of ht2, rfl, .str en.1, _, rfl, .int (en.2 : Int), _, rfl, rfl, ?_⟩
        refine ⟨.int (en.2 : Int), rfl, .ref R, rfl, R, _, rfl, DGet.k (k := .inl (en.2 : Int)) eR2, _, rfl, ?_⟩
        rw [places_val]
        unfold addN
        by_cases hin : en.2 ∈ o2
        · rw [if_pos hin, if_pos hin]
          exact iteF ⟨_, _, rfl, S2, eb2, tk, eO2, eR2⟩
        · rw [if_neg hin, if_neg hin]
          have lo2 : (intsV o2).length = o2.length := by unfold intsV; rw [List.length_map]
          refine iteT ⟨.ref O, rfl, .ref O, _, rfl, .inl ⟨_, SqL.of eO2, rfl⟩, .ref R, rfl, .int (en.2 : Int), rfl, R, _, rfl, DPut.k (k := .inl (en.2 : Int)) eR2 (by rw [placesK_len, sizeLine_eq]; omega), ?_⟩
          have eO3 : (upd H2 R (.dK (putK (placesK 0 o2) (.inl (en.2 : Int)) (.int ((intsV o2).length : Nat))))) O = some (.lst (intsV o2)) := (upd_ne nOR).trans eO2
          refine ⟨.ref O, rfl, .inl ⟨rfl, _, SqL.of eO3⟩, .int (en.2 : Int), rfl, O, _, _, rfl, rfl, eO3, by rw [lo2, sizeLine_eq]; omega, ?_⟩
          refine ⟨_, _, rfl, fun b' u eb' => ?_, ?_, fun t' u z => ?_, ?_, ?_⟩
          · rw [upd_ne (ne_of_none eb' hO), upd_ne (ne_of_none (Same.new hO _ _ eb') hR)]
            exact S2 _ _ eb'
          · rw [upd_ne nbO, upd_ne nbR]
            exact eb2
          · rw [upd_ne (fun y => by rw [y, eO] at z; cases z), upd_ne (fun y => by rw [y, eR] at z; cases z)]
            exact tk _ _ z
          · rw [upd_same]
            unfold intsV
            rw [List.map_append]
            rfl
          · rw [upd_ne nOR.symm, upd_same]
            exact congrArg (fun z => some (HO.dK z)) (places_put hin)
      · rintro σ H2 ⟨r5, r6, rfl, S2, eb2, tk, eO2, eR2⟩
        have lj : ws.length = (rowC c t).length := lw
        rw [lj, List.take_length] at eO2 eR2
        refine ⟨c.length + 1 - (n + 1), by omega, n + 1, addAll o (rowC c t), _, _, _, rfl, rfl, ?_, nlt, S2, eO2, eR2, nodup_addAll nd, fun x hx => (mem_addAll.mp hx).elim (lt x) fun ⟨e, he, z⟩ => by rw [z]; exact rowC_lt wf he, ?_⟩
        · obtain ⟨s', hs'⟩ := addAll_pre (r := rowC c t) o
          rw [hs', List.length_append]
          omega
        · rw [← go, show c.length + 1 - n = (c.length + 1 - (n + 1)) + 1 by omega]
          show _ = (match o[n]? with | some i => goR c (c.length + 1 - (n + 1)) (n + 1) (addAll o (rowC c i)) | none => o)
          rw [et]
    · rw [decide_eq_false (show ¬ (n : Int) < (o.length : Int) by omega)]
      refine iteF ?_
      have ro : reached c = o := by
        rw [← go, show c.length + 1 - n = (c.length - n) + 1 by omega]
        show (match o[n]? with | some i => goR c (c.length - n) (n + 1) (addAll o (rowC c i)) | none => o) = o
        rw [List.getElem?_eq_none (by omega)]
      refine ⟨.ref O, rfl, O, rfl, ⟨_, SqL.of eO⟩, fun D hD => ?_⟩
      have nDO : D ≠ O := (ne_of_none eO hD).symm
      have nDR : D ≠ R := (ne_of_none eR hD).symm
      refine lc_it (w := walk_list (K := K) (a := O) (xs := intsV o)) (g := gName 7) (tt := tYes) (fun i H' => ∃ ls : List Addr, H' D = some (.lst (ls.map V.ref)) ∧ ls.length = i ∧ Same H1 H' ∧ ∀ (m : Nat) (l : Addr), ls[m]? = some l → l ≠ D ∧ ∃ t, o[m]? = some t ∧ RowAt H' l ((rowC c t).map fun e => (e.1, o.idxOf e.2)))
        ⟨[], upd_same, rfl, Same.new hD, fun m l z => by cases z⟩ (fun i H' hi ⟨_, _, _, s, _⟩ => SqL.of (s _ _ eO)) (fun i x H' H'' hi hP hy => ?_) (fun H' hP => ?_)
      · obtain ⟨ls, eD, ll, s1, rows⟩ := hP
        obtain ⟨rfl, hx⟩ := hy
        refine ⟨rfl, yes_of (iteT ?_)⟩
        obtain ⟨t, et, rfl⟩ : ∃ t, o[i]? = some t ∧ x = .int (t : Int) := by
          unfold intsV at hx
          rw [List.getElem?_map] at hx
          cases z : o[i]? with
          | none => rw [z] at hx; cases hx
          | some t => rw [z] at hx; cases hx; exact ⟨t, rfl, rfl⟩
        have tm := List.mem_of_getElem? et
        have tl := lt t tm
        obtain ⟨a', vs, b, ea', ev, lv, hb, db⟩ := chD_row hc tl
        cases ea'
        obtain ⟨ws, ew0, lw, ents⟩ := rowD_ent db
        have S2 := Same.trans S1 s1
        have clo : ∀ e ∈ rowC c t, e.2 ∈ o := by
          have := (reached_ok wf).2.2.1
          rw [ro] at this
          exact this t tm
        have eR2 := s1 _ _ eR
        refine ⟨.ref a, rfl, .int (t : Int), rfl, a, _, (t : Int), .ref b, rfl, rfl, SqL.of (S2 _ _ ev), atI_nat hb, b, rfl, ⟨_, SqL.of (S2 _ _ ew0)⟩, fun D2 hD2 => ?_⟩
        refine lc_it (w := walk_list (K := K) (a := b) (xs := ws)) (g := gTup K 2 (gCons (gName 8) (gCons (gName 9) gNil))) (tt := tYes) (fun j G => ∃ ts : List Addr, G D2 = some (.lst (ts.map V.ref)) ∧ ts.length = j ∧ Same H'' G ∧ ∀ (m : Nat) (t' : Addr), ts[m]? = some t' → ∃ e, (rowC c t)[m]? = some e ∧ G t' = some (.tup [.str e.1, .int ((o.idxOf e.2 : Nat) : Int)]))
          ⟨[], upd_same, rfl, Same.new hD2, fun m l z => by cases z⟩ (fun j G hj ⟨_, _, _, s, _⟩ => SqL.of (s _ _ (S2 _ _ ew0))) (fun j y G G' hj hP2 hy => ?_) (fun G hP2 => ?_)
        · obtain ⟨ts, e2, lt2, s2, ok2⟩ := hP2
          obtain ⟨rfl, hy⟩ := hy
          obtain ⟨tt, en, he, rfl, htt⟩ := ents j y hy
          have hin := clo en (List.mem_of_getElem? he)
          have dg := DGet.k (k := .inl (en.2 : Int)) (s2 _ _ eR2)
          rw [places_val, if_pos hin, Nat.zero_add] at dg
          have ej : j < (rowC c t).length := (List.getElem?_eq_some_iff.mp he).1
          refine ⟨tt, [.str en.1, .int (en.2 : Int)], rfl, SqT.of (s2 _ _ (S2 _ _ htt)), rfl, .str en.1, _, rfl, .int (en.2 : Int), _, rfl, rfl, rfl, yes_of (iteT ?_)⟩
          have lrow : (rowC c t).length ≤ 1000 := by
            unfold rowC
            rw [List.getD_eq_getElem?_getD, List.getElem?_eq_getElem tl]
            exact l2 _ (List.getElem_mem tl)
          refine ⟨.str en.1, rfl, .ref R, rfl, .int (en.2 : Int), rfl, R, _, rfl, dg, (by show 2 ≤ sizeLine; decide), fun t2 ht2 => ?_⟩
          have n2 : D2 ≠ t2 := ne_of_none e2 ht2
          have St := Same.new ht2 (o := .tup [V.str en.1, .int ((o.idxOf en.2 : Nat) : Int)])
          refine ⟨_, St _ _ e2, by rw [List.length_map, lt2, sizeLine_eq]; omega, ts ++ [t2], by rw [upd_same, List.map_append]; rfl, by rw [List.length_append, lt2]; rfl, fun b' u eb' => ?_, fun m t' hm => ?_⟩
          · rw [upd_ne (ne_of_none eb' hD2)]
            exact St _ _ (s2 _ _ eb')
          · by_cases hlt2 : m < ts.length
            · rw [List.getElem?_append_left hlt2] at hm
              obtain ⟨e', h1, h2⟩ := ok2 m t' hm
              refine ⟨e', h1, ?_⟩
              rw [upd_ne (fun z => by rw [z, e2] at h2; cases h2)]
              exact St _ _ h2
            · rw [List.getElem?_append_right (by omega)] at hm
              have z : m - ts.length = 0 := by
                by_cases q : m - ts.length = 0
                · exact q
                · rw [List.getElem?_eq_none (by simp; omega)] at hm
                  cases hm
              rw [z] at hm
              cases hm
              have mj : m = j := by omega
              subst mj
              exact ⟨en, he, by rw [upd_ne n2.symm]; exact upd_same⟩
        · obtain ⟨ts, e2, lt2, s2, ok2⟩ := hP2
          have eD4 := s2 _ _ eD
          have nDD : D2 ≠ D := (ne_of_none eD hD2).symm
          have row : RowAt G D2 ((rowC c t).map fun e => (e.1, o.idxOf e.2)) := ⟨ts, e2, by rw [List.length_map, lt2, lw], fun m t' hm => by
            obtain ⟨e', h1, h2⟩ := ok2 m t' hm
            exact ⟨_, by rw [List.getElem?_map, h1]; rfl, h2⟩⟩
          refine ⟨_, eD4, by rw [List.length_map, ll, sizeLine_eq]; have := nodup_len nd lt; omega, ls ++ [D2], by rw [upd_same, List.map_append]; rfl, by rw [List.length_append, ll]; rfl, fun b' u eb' => ?_, fun m l hm => ?_⟩
          · rw [upd_ne (ne_of_none eb' hD)]
            exact s2 _ _ (s1 _ _ eb')
          · by_cases hlt2 : m < ls.length
            · rw [List.getElem?_append_left hlt2] at hm
              obtain ⟨nl, t', h1, h2⟩ := rows m l hm
              exact ⟨nl, t', h1, h2.keep nl eD fun b' u nb eb' => by rw [upd_ne nb]; exact s2 _ _ eb'⟩
            · rw [List.getElem?_append_right (by omega)] at hm
              have z : m - ls.length = 0 := by
                by_cases q : m - ls.length = 0
                · exact q
                · rw [List.getElem?_eq_none (by simp; omega)] at hm
                  cases hm
              rw [z] at hm
              cases hm
              have mj : m = i := by omega
              subst mj
              exact ⟨nDD, t, et, row.keep nDD eD4 fun b' u nb eb' => by rw [upd_ne nb]; exact eb'⟩
      · obtain ⟨ls, eD, ll, s1, rows⟩ := hP
        refine k D H' (Same.trans S1 s1) (none_of S1 hD) ?_
        refine .lst eD (dxAll_of (by rw [List.length_map, List.length_map, ll, lo, keptF_length, ro]) fun j v hv => ?_)
        rw [List.getElem?_map] at hv
        cases el : ls[j]? with
        | none => rw [el] at hv; cases hv
        | some l =>
          rw [el] at hv
          cases hv
          obtain ⟨_, t, et, ra⟩ := rows j l el
          refine ⟨_, ?_, ra.dx⟩
          unfold keptF
          rw [ro, List.getElem?_map, List.getElem?_map, et]
          rfl
end
end K82
end

section
set_option maxHeartbeats 4000000
/-! what is passed is looked at -/
namespace K82
open PySem PySem.Spec PyProof.Rows L2
theorem call_lenK {X : Cx} {K : PySem.W.Frag} (e : X.K = K) : CallR X (.builtin "len") (fun xs H Q => ∃ x n, xs = [x] ∧ LenV K x H n ∧ Q (.int n) H) := by
  subst e
  exact call_len
/-- a comprehension over a list of which each thing gives the same bool -/
theorem lc_bools {K : PySem.W.Frag} {a : Addr} {xs : List V} {j : Nat} {te : TE} {vs : List Nat} {σ : L2.St} {H1 : Hp} {D : Addr} {Qd : Hp → Prop} (b : Bool) (hn : H1 D = none) (hl : H1 a = some (.lst xs)) (hsz : xs.length ≤ 1000)
    (hw : ∀ x, wipe ((wipe σ vs).set j (some x)) vs = wipe σ vs) (hstep : ∀ x ∈ xs, ∀ H', Same H1 H' → ∀ Q : VK, (∀ H2, Same H' H2 → Q (.bl b) H2) → te ((wipe σ vs).set j (some x)) H' Q)
    (hend : ∀ H', Same H1 H' → H' D = some (.lst ((List.replicate xs.length b).map V.bl)) → Qd H') :
    ∃ W : Nat → Nat → Hp → Prop, (∃ m, W 0 m (upd H1 D (.lst []))) ∧ ∀ i m H, W i m H →
      ((Itl K a).stop i H ∧ Qd H) ∨ ((Itl K a).go i H ∧ ∃ Nx : Hp → Prop, (∀ H', Nx H' → ∃ m', m' < m ∧ W (i + 1) m' H') ∧ ∀ x H', (Itl K a).yld i H x H' → gName j x (wipe σ vs) H' fun σ2 H2 => wipe σ2 vs = wipe σ vs ∧ tYes σ2 H2 fun b H3 =>
        if b = true then te σ2 H3 fun y H4 => ∃ acc, H4 D = some (.lst acc) ∧ acc.length < sizeLine ∧ Nx (upd H4 D (.lst (acc ++ [y]))) else Nx H3) := by
  refine lc_it (w := walk_list (K := K) (a := a) (xs := xs)) (g := gName j) (tt := tYes) (fun i H' => i ≤ xs.length ∧ Same H1 H' ∧ H' D = some (.lst ((List.replicate i b).map V.bl))) ⟨Nat.zero_le _, Same.new hn, upd_same⟩ (fun i H hi hP => SqL.of (hP.2.1 _ _ hl)) (fun i x H' H2 hi hP hy => ?_) (fun H' hP => hend H' hP.2.1 hP.2.2)
  obtain ⟨hi', s, eD⟩ := hP
  obtain ⟨rfl, hx⟩ := hy
  refine ⟨hw x, ?_⟩
  show te _ _ _
  refine hstep x (List.mem_of_getElem? hx) _ s _ fun H3 s3 => ⟨_, s3 _ _ eD, ?_, hi, ?_, ?_⟩
  · rw [List.length_map, List.length_replicate, sizeLine_eq]; omega
  · intro c o e
    rw [upd_ne (ne_of_none e hn)]
    exact s3 _ _ (s _ _ e)
  · rw [upd_same, List.replicate_succ', List.map_append]; rfl
def okRow (z : Str) : Prop := wordD (.str z) = true ∧ z.length ≤ 2000
theorem okRow.tame {z : Str} (h : okRow z) : Tame (.str z) := tame_str (Nat.le_trans h.2 (by decide)) fun c hc => by
  have := List.all_eq_true.mp h.1 c hc
  have e : ∀ c ∈ (PySem.Str.ofString "abcd").cps.toList, c < 1114112 := by decide +kernel
  exact e c (of_decide_eq_true this)
def spRow : Sp := fun vs H Q _ => ∃ z : Str, vs = [.str z] ∧ okRow z ∧ ∀ H', Same H H' → Q (.bl true) H'
def spCheckRow : Sp := fun vs H Q _ => ∃ z : Str, vs = [.str z] ∧ okRow z ∧ ∀ H', Same H H' → Q .non H'
def spIsL : Sp := fun vs H Q _ => ∃ (v : V) (ds : List PyData), vs = [v] ∧ Dx H v (.list ds) ∧ ∀ H', Same H H' → Q (.bl true) H'
def spIn : Sp := fun vs H Q _ => ∃ s n : Int, vs = [.int s, .int n] ∧ 0 ≤ s ∧ s < n ∧ n < 10 ^ 30 ∧ ∀ H', Same H H' → Q .non H'
def spCheckRate (C : Addr) : Sp := fun vs H Q _ => ∃ (a : Addr) (p q : Int), vs = [.ref a] ∧ RatO C H a p q ∧ ∀ H', Same H H' → Q .non H'
/-- a def with defaults -/
abbrev FunV (K : PySem.W.Frag) (x qual : Str) (st : Stmt) (dvs : List V) (f : Addr) (fd : FuncData) : Prop := FunD K x qual (defArgs st) (defBody st) (defScope st) dvs [] f fd
theorem FunV.okV {P : Program} {w : World} {K : PySem.W.Frag} {mg : Str → Option Value} {base : Heap} {x qual : Str} {st : Stmt} {dvs : List V} {f : Addr} {fd : FuncData} {N ps : List Str} {k : Nat} {sp : Sp} (F : FunV K x qual st dvs f fd) (S : FnScope N ps (defScope st)) (len : ∀ vs H Q E, sp vs H Q E → vs.length = ps.length)
    (hbody : ∀ (cdv : Value) (A : Around) (outer : List Env) (s : Shared) (H : Hp) (vs : List V) (Q : VK) (E : XK), Room k (A.deeper (envOfC qual (defScope st) s.heap.objs.size f cdv)) → sp vs H Q E →
      ∃ t, PSs (cxOf CX0 P w K mg base N qual (defScope st) f cdv A outer s H E).nox (defBody st) t ∧ t { nx := fun _ H' => Q .non H', rt := Q } (L2.start N vs) H) : FnOk P w K mg base CX0 (k + 1) f fd ps sp :=
  F.ok S len fun cdv A outer s H vs Q E hr hs => let ⟨t, h, q⟩ := hbody cdv A outer s H vs Q E hr hs; ⟨t, h.nox, q⟩
def spText : Sp := fun vs H Q _ => ∃ (v : V) (ws : List Nat) (n : Int), vs = [v, .int n, .int 0, .int 200] ∧ Dx H v (.list (ws.map fun (w : Nat) => .int (w : Int))) ∧ ws.length ≤ 200 ∧ (∀ w ∈ ws, (w : Int) < n) ∧ n < 10 ^ 30 ∧ ∀ H', Same H H' → Q .non H'
def spEntry : Sp := fun vs H Q _ => ∃ (t : Addr) (z : Str) (n : Nat) (q s : Int), vs = [.ref t, .int q, .int s] ∧ H t = some (.tup [.str z, .int (n : Int)]) ∧ okRow z ∧ (z.length : Int) = q ∧ (n : Int) < s ∧ s < 10 ^ 30 ∧ ∀ H', Same H H' → Q (.bl true) H'
section
variable {P : Program} {w : World} {K : PySem.W.Frag} {mg : Str → Option Value} {base : Heap} {ad : Str → Addr} {fd : Str → FuncData}
theorem scIsList : FnScope ["value"] ["value"] (defScope sIsList) := ⟨rfl, rfl, rfl, by decide +kernel, rfl, by decide +kernel, by decide +kernel⟩
theorem ok_is_list (X : Tx K mg ad fd) : FnOk P w K mg base CX0 1 (ad "is_list") (fd "is_list") ["value"] spIsL := by
  refine X.F_is_list.ok scIsList (fun vs H Q E h => ?_) (fun cdv A outer s H vs Q E hr h => ?_)
  · obtain ⟨v, ds, rfl, _⟩ := h
    rfl
  · obtain ⟨v, ds, rfl, hd, k⟩ := h
    refine ⟨_, (pss_one (ps_ret (by exact (pe_callB call_isiT (by rfl) X.m_isinstance (by decide +kernel) (pa_cons (pv 0) (pa_cons (pe_tup (pa_cons (pe_bltn (v := .ty "list") (by rfl) X.m_list (by decide +kernel) rfl) (pa_cons (pe_bltn (v := .ty "tuple") (by rfl) X.m_tuple (by decide +kernel) rfl) pa_nil))) pa_nil)))))), ?_⟩
    refine ⟨v, rfl, (by show 2 ≤ sizeLine; decide), fun t ht => ⟨v, t, _, _, _, _, rfl, upd_same, .cons (.ty _) (.cons (.ty _) .nil), dx_ty (hd.same (Same.new ht)), ?_, k _ (Same.new ht)⟩⟩
    have e : kitB "list" "list" = some true := by decide +kernel
    show PySem.W.kitAny K (.type "list") [.type "list", .type "tuple"] = some true
    unfold PySem.W.kitAny
    rw [kit_ty (K := K) e]
theorem scIsRow : FnScope ["value", "sign"] ["value"] (defScope sIsRow) := ⟨rfl, rfl, rfl, by decide +kernel, rfl, by decide +kernel, by decide +kernel⟩
theorem ok_is_row (X : Tx K mg ad fd) : FnOk P w K mg base CX0 1 (ad "is_row") (fd "is_row") ["value"] spRow := by
  obtain ⟨tA, GLOB_ALL_SIGNS⟩ := X.g_ALL_SIGNS
  refine X.F_is_row.ok scIsRow (fun vs H Q E h => ?_) (fun cdv A outer s H vs Q E hr h => ?_)
  · obtain ⟨z, rfl, _⟩ := h
    rfl
  · obtain ⟨z, rfl, hz, k⟩ := h
    refine ⟨_, (pss_one (ps_ret (by exact (pe_and (pe_callB call_isi (by rfl) X.m_isinstance (by decide +kernel) (pa_cons (pv 0) (pa_cons (pe_bltn (v := .ty "str") (by rfl) X.m_str (by decide +kernel) rfl) pa_nil))) (pe_one (pe_callB (cr_all rfl) (by rfl) X.m_all (by decide +kernel) (pa_cons (pe_lc (own := [("sign", 1)]) (g := gName 1) rfl scIsRow.nd (pi_str (pv 0)) (blkOk_by (own := [("sign", 1)]) (N := ["value", "sign"]) (sc := defScope sIsRow) (by decide +kernel)) (fun _ _ _ _ _ => pg_name (i := 1) scIsRow.nd rfl (Or.inl rfl)) (fun _ _ _ _ _ => pts_nil) (fun _ _ _ _ _ => (pe_cmpR op_in_sign (pv 1) (pe_glob (v := .str "abcd") (by rfl) GLOB_ALL_SIGNS ⟨_, rfl⟩) rfl))) pa_nil))))))), ?_⟩
    refine ⟨.str z, rfl, .str z, .ty "str", _, _, _, rfl, .ty _, dx_ty (.str z), kit_ty (kit_s (.str z)), _, rfl, .str z, rfl, z, rfl, fun D hD => ?_⟩
    refine lc_it (w := walk_str (z := z)) (g := gName 1) (tt := tYes) (fun i H' => Same H H' ∧ H' D = some (.lst (((z.cps.toList.take i).map sgn).map V.bl))) ⟨Same.new hD, upd_same⟩ (fun _ _ _ _ => True.intro) (fun i x H' H2 hi hP hy => ?_) (fun H' hP => ?_)
    · obtain ⟨hs, eD⟩ := hP
      obtain ⟨rfl, c, hc, rfl⟩ := hy
      have hc' : z.cps.toList[i]? = some c := by rw [Array.getElem?_toList]; exact hc
      have lz : z.cps.size ≤ 2000 := hz.2
      refine ⟨rfl, .str ⟨#[c]⟩, rfl, c, "abcd", rfl, rfl, _, eD, ?_, ?_, ?_⟩
      · rw [List.length_map, List.length_map, List.length_take, sizeLine_eq]
        omega
      · intro b o e
        rw [upd_ne (ne_of_none e hD)]
        exact hs b o e
      · rw [upd_same, take_snoc hc', List.map_append, List.map_append]
        rfl
    · obtain ⟨hs, eD⟩ := hP
      refine ⟨D, (z.cps.toList.take z.cps.size).map sgn, rfl, SqL.of eD, ?_⟩
      rw [show z.cps.toList.take z.cps.size = z.cps.toList from List.take_of_length_le (by simp)]
      have q' := k H' hs
      have e : (z.cps.toList.map sgn).all id = true := by
        rw [List.all_map]
        exact hz.1
      rw [e]
      exact q'
theorem scIsShortRow : FnScope ["value"] ["value"] (defScope sIsShortRow) := ⟨rfl, rfl, rfl, by decide +kernel, rfl, by decide +kernel, by decide +kernel⟩
theorem ok_is_short_row (X : Tx K mg ad fd) : FnOk P w K mg base CX0 2 (ad "is_short_row") (fd "is_short_row") ["value"] spRow := by
  have G_is_row := ok_is_row (P := P) (w := w) (base := base) X
  obtain ⟨tA, GLOB_MOST_IN_ROW⟩ := X.g_MOST_IN_ROW
  refine X.F_is_short_row.ok scIsShortRow (fun vs H Q E h => ?_) (fun cdv A outer s H vs Q E hr h => ?_)
  · obtain ⟨z, rfl, _⟩ := h
    rfl
  · obtain ⟨z, rfl, hz, k⟩ := h
    have HR_is_row := hr
    refine ⟨_, (pss_one (ps_ret (by exact (pe_and (pe_call G_is_row HR_is_row (by rfl) X.g_is_row X.F_is_row.kp X.b_is_row .nil pass0 (pa_cons (pv 0) pa_nil)) (pe_one (pe_cmpR op_le (pe_callB call_len (by rfl) X.m_len (by decide +kernel) (pa_cons (pv 0) pa_nil)) (pe_glob (v := .int 2000) (by rfl) GLOB_MOST_IN_ROW ⟨_, rfl⟩) (nomark _))))))), ?_⟩
    refine ⟨.str z, rfl, z, rfl, hz, fun H1 s1 => ⟨_, rfl, .str z, rfl, .str z, z.length, rfl, ⟨by rw [sizeLine_eq]; have := hz.2; omega, rfl⟩, _, _, rfl, rfl, ?_⟩⟩
    show Q (.bl (decide ((z.length : Int) ≤ 2000))) H1
    rw [decide_eq_true (show (z.length : Int) ≤ 2000 by have := hz.2; omega)]
    exact k _ s1
theorem scCheckRow : FnScope ["row"] ["row"] (defScope sCheckRow) := ⟨rfl, rfl, rfl, by decide +kernel, rfl, by decide +kernel, by decide +kernel⟩
theorem ok_check_row (X : Tx K mg ad fd) : FnOk P w K mg base CX0 3 (ad "check_row") (fd "check_row") ["row"] spCheckRow := by
  have G_is_short_row := ok_is_short_row (P := P) (w := w) (base := base) X
  refine X.F_check_row.ok scCheckRow (fun vs H Q E h => ?_) (fun cdv A outer s H vs Q E hr h => ?_)
  · obtain ⟨z, rfl, _⟩ := h
    rfl
  · obtain ⟨z, rfl, hz, k⟩ := h
    have HR_is_short_row := hr
    refine ⟨_, (pss_one (ps_if (pt_not (pt_val (pe_call G_is_short_row HR_is_short_row (by rfl) X.g_is_short_row X.F_is_short_row.kp X.b_is_short_row .nil pass0 (pa_cons (pv 0) pa_nil))))
  (pss_one ps_never)
  pss_nil)), ?_⟩
    exact ⟨.str z, rfl, z, rfl, hz, fun H1 s1 => ⟨_, rfl, iteF (k _ s1)⟩⟩
theorem scCheckState : FnScope ["state", "size"] ["state", "size"] (defScope sCheckState) := ⟨rfl, rfl, rfl, by decide +kernel, rfl, by decide +kernel, by decide +kernel⟩
theorem ok_check_state (X : Tx K mg ad fd) : FnOk P w K mg base CX0 3 (ad "check_state") (fd "check_state") ["state", "size"] spIn := by
  have G_is_between := ok_is_between (P := P) (w := w) (base := base) X
  refine X.F_check_state.ok scCheckState (fun vs H Q E h => ?_) (fun cdv A outer s H vs Q E hr h => ?_)
  · obtain ⟨z, n, rfl, _⟩ := h
    rfl
  · obtain ⟨z, n, rfl, z0, zn, nl, k⟩ := h
    have HR_is_between := hr
    refine ⟨_, (pss_one (ps_if (pt_not (pt_val (pe_call G_is_between HR_is_between (by rfl) X.g_is_between X.F_is_between.kp X.b_is_between .nil pass0 (pa_cons (pv 0) (pa_cons pe_int (pa_cons (pe_op op_sub (pv 1) pe_int) pa_nil))))))
  (pss_one ps_never)
  pss_nil)), ?_⟩
    refine ⟨.int z, rfl, .int n, rfl, n, 1, rfl, rfl, .int z, .int z, 0, n - 1, rfl, .int z, tame_int (by omega), fun H1 s1 => ⟨_, rfl, ?_⟩⟩
    rw [show betweenD 0 (n - 1) (.int z) = true from by
      show (decide (0 ≤ z) && decide (z ≤ n - 1)) = true
      rw [decide_eq_true z0, decide_eq_true (by omega)]; rfl]
    exact iteF (k _ s1)
theorem scCheckWord : FnScope ["word", "size"] ["word", "size"] (defScope sCheckWord) := ⟨rfl, rfl, rfl, by decide +kernel, rfl, by decide +kernel, by decide +kernel⟩
theorem ok_check_word (X : Tx K mg ad fd) : FnOk P w K mg base CX0 3 (ad "check_word") (fd "check_word") ["word", "size"] spIn := by
  have G_is_between := ok_is_between (P := P) (w := w) (base := base) X
  refine X.F_check_word.ok scCheckWord (fun vs H Q E h => ?_) (fun cdv A outer s H vs Q E hr h => ?_)
  · obtain ⟨z, n, rfl, _⟩ := h
    rfl
  · obtain ⟨z, n, rfl, z0, zn, nl, k⟩ := h
    have HR_is_between := hr
    refine ⟨_, (pss_one (ps_if (pt_not (pt_val (pe_call G_is_between HR_is_between (by rfl) X.g_is_between X.F_is_between.kp X.b_is_between .nil pass0 (pa_cons (pv 0) (pa_cons pe_int (pa_cons (pe_op op_sub (pv 1) pe_int) pa_nil))))))
  (pss_one ps_never)
  pss_nil)), ?_⟩
    refine ⟨.int z, rfl, .int n, rfl, n, 1, rfl, rfl, .int z, .int z, 0, n - 1, rfl, .int z, tame_int (by omega), fun H1 s1 => ⟨_, rfl, ?_⟩⟩
    rw [show betweenD 0 (n - 1) (.int z) = true from by
      show (decide (0 ≤ z) && decide (z ≤ n - 1)) = true
      rw [decide_eq_true z0, decide_eq_true (by omega)]; rfl]
    exact iteF (k _ s1)
theorem scCheckRate : FnScope ["rate"] ["rate"] (defScope sCheckRate) := ⟨rfl, rfl, rfl, by decide +kernel, rfl, by decide +kernel, by decide +kernel⟩
theorem ok_check_rate (X : Tx K mg ad fd) (RC : RateC K mg ad fd) : FnOk P w K mg base CX0 1 (ad "check_rate") (fd "check_rate") ["rate"] (spCheckRate (ad "Rate")) := by
  refine X.F_check_rate.ok scCheckRate (fun vs H Q E h => ?_) (fun cdv A outer s H vs Q E hr h => ?_)
  · obtain ⟨a, p, q, rfl, _⟩ := h
    rfl
  · obtain ⟨a, p, q, rfl, ho, k⟩ := h
    refine ⟨_, (pss_one (ps_if (pt_not (pt_val (pe_callB call_isi (by rfl) X.m_isinstance (by decide +kernel) (pa_cons (pv 0) (pa_cons (pe_glob (v := .ref (ad "Rate")) (by rfl) RC.G rfl) pa_nil)))))
  (pss_one ps_never)
  pss_nil)), ?_⟩
    exact ⟨.ref a, rfl, .ref a, .ref (ad "Rate"), _, _, true, rfl, .own _, ty_rate RC ho, (by unfold PySem.W.kitOne; rw [if_pos (by simp)]), true, rfl, iteF (k _ Same.refl)⟩
theorem b_check_text (X : Tx K mg ad fd) : ∃ ds, Vals [.int 0, .int 200] ds ∧ Binds K (fd "check_text") ["text", "size", "least", "most"] ds := X.F_check_text.binds1 2 0 (by decide) rfl fun T kV doc pm an cdv ct us its hl hi => by
  match us, its, hl, hi with
  | [_, _], [_, _], _, _ => first | exact ⟨_, rfl, rfl⟩ | exact ⟨_, by with_unfolding_all rfl, rfl⟩
theorem scCheckText : FnScope ["text", "size", "least", "most", "position", "word"] ["text", "size", "least", "most"] (defScope sCheckText) := ⟨rfl, rfl, rfl, by decide +kernel, rfl, by decide +kernel, by decide +kernel⟩
theorem ok_check_text (X : Tx K mg ad fd) : FnOk P w K mg base CX0 3 (ad "check_text") (fd "check_text") ["text", "size", "least", "most"] spText := by
  have G_is_between := ok_is_between (P := P) (w := w) (base := base) X
  have G_is_list := ok_is_list (P := P) (w := w) (base := base) X
  refine FunV.okV X.F_check_text scCheckText (fun vs H Q E h => ?_) (fun cdv A outer s H vs Q E hr h => ?_)
  · obtain ⟨v, ws, n, rfl, _⟩ := h
    rfl
  · obtain ⟨v, ws, n, rfl, hd, l, lt, nl, k⟩ := h
    have HR_is_between := hr
    have HR_is_list : Room 1 _ := hr.mono (by decide)
    refine ⟨_, (pss_cons (ps_if (PW.pt (pw_or (pt_not (pt_val (pe_call G_is_list HR_is_list (by rfl) X.g_is_list X.F_is_list.kp X.b_is_list .nil pass0 (pa_cons (pv 0) pa_nil)))) (pw_or1 (pt_not (pt_chain op_le op_le (pv 2) (pe_callB call_len (by rfl) X.m_len (by decide +kernel) (pa_cons (pv 0) pa_nil)) (pv 3))))))
  (pss_one ps_never)
  pss_nil)
  (pss_one (ps_for PassesOwn.never rfl (pi_enum (by rfl) X.m_enumerate (pa_cons (pv 0) pa_nil)) (pg_tup rfl (pgs_cons (pg_name (i := 4) scCheckText.nd rfl (.inl rfl)) (pgs_cons (pg_name (i := 5) scCheckText.nd rfl (.inl rfl)) pgs_nil)))
  (pss_one (ps_if (pt_not (pt_val (pe_call G_is_between HR_is_between (by rfl) X.g_is_between X.F_is_between.kp X.b_is_between .nil pass0 (pa_cons (pv 5) (pa_cons pe_int (pa_cons (pe_op op_sub (pv 1) pe_int) pa_nil))))))
  (pss_one ps_never)
  pss_nil))))), ?_⟩
    refine ⟨v, rfl, v, _, rfl, hd, fun H1 s1 => ⟨_, rfl, iteF ?_⟩⟩
    obtain ⟨a, xs, rfl, e, all⟩ := (hd.same s1).list
    have lx : xs.length = ws.length := by rw [all.length, List.length_map]
    refine ⟨.int 0, rfl, .ref a, rfl, .ref a, _, rfl, .inl ⟨_, SqL.of e, rfl⟩, 0, _, rfl, rfl, _, rfl, ?_⟩
    rw [decide_eq_true (show (0 : Int) ≤ (xs.length : Int) by omega)]
    refine iteT ⟨.int 200, rfl, _, 200, rfl, rfl, _, rfl, ?_⟩
    rw [decide_eq_true (show (xs.length : Int) ≤ 200 by omega)]
    refine iteF ⟨.ref a, rfl, a, xs, rfl, SqL.of e, ?_⟩
    refine for_it (w := walk_enum (K := K) (a := a) (xs := xs)) (fun i σ H' => ∃ r2 r3, σ = [some (.ref a), some (.int n), some (.int 0), some (.int 200), r2, r3] ∧ Same H1 H') ⟨_, _, rfl, Same.refl⟩ (fun i σ H' hi ⟨_, _, _, s⟩ => SqL.of (s _ _ e)) ?_ ?_
    · rintro i x σ H2 H3 hi ⟨r2, r3, rfl, s2⟩ ⟨T, u1, u2, rfl, hT, rfl, e1, e2⟩
      cases e1
      obtain ⟨d, hd2, dx⟩ := all.from_ e2
      rw [List.getElem?_map] at hd2
      cases ew : ws[i]? with
      | none => rw [ew] at hd2; cases hd2
      | some wv =>
        rw [ew] at hd2
        cases hd2
        cases dx
        have lw := lt wv (List.mem_of_getElem? ew)
        have sT := Same.new hT (o := .tup [V.int (i : Int), .int (wv : Int)])
        refine ⟨T, _, rfl, SqT.of upd_same, rfl, _, _, rfl, _, _, rfl, rfl, ?_⟩
        refine ⟨.int (wv : Int), rfl, .int n, rfl, n, 1, rfl, rfl, .int (wv : Int), .int (wv : Int), 0, n - 1, rfl, .int _, tame_int (by omega), fun H4 s4 => ⟨_, rfl, ?_⟩⟩
        rw [show betweenD 0 (n - 1) (.int (wv : Int)) = true from by
          show (decide (0 ≤ (wv : Int)) && decide ((wv : Int) ≤ n - 1)) = true
          rw [decide_eq_true (by omega), decide_eq_true (by omega)]; rfl]
        exact iteF ⟨_, _, rfl, Same.trans s2 (Same.trans sT s4)⟩
    · rintro σ H2 ⟨r2, r3, rfl, s2⟩
      exact k _ (Same.trans s1 s2)
theorem scIsBlock : FnScope ["value", "length"] ["value", "length"] (defScope sIsBlock) := ⟨rfl, rfl, rfl, by decide +kernel, rfl, by decide +kernel, by decide +kernel⟩
def spBlock : Sp := fun vs H Q _ => ∃ (z : Str) (q : Int), vs = [.str z, .int q] ∧ okRow z ∧ (z.length : Int) = q ∧ ∀ H', Same H H' → Q (.bl true) H'
theorem ok_is_block (X : Tx K mg ad fd) : FnOk P w K mg base CX0 2 (ad "is_block") (fd "is_block") ["value", "length"] spBlock := by
  have G_is_row := ok_is_row (P := P) (w := w) (base := base) X
  refine X.F_is_block.ok scIsBlock (fun vs H Q E h => ?_) (fun cdv A outer s H vs Q E hr h => ?_)
  · obtain ⟨z, q, rfl, _⟩ := h
    rfl
  · obtain ⟨z, q, rfl, hz, zq, k⟩ := h
    have HR_is_row := hr
    refine ⟨_, (pss_one (ps_ret (by exact (pe_and (pe_call G_is_row HR_is_row (by rfl) X.g_is_row X.F_is_row.kp X.b_is_row .nil pass0 (pa_cons (pv 0) pa_nil)) (pe_one (pe_cmpR op_eq (pe_callB call_len (by rfl) X.m_len (by decide +kernel) (pa_cons (pv 0) pa_nil)) (pv 1) (nomark _))))))), ?_⟩
    refine ⟨.str z, rfl, z, rfl, hz, fun H1 s1 => ⟨_, rfl, ?_⟩⟩
    subst zq
    have zl : z.length ≤ sizeLine := by rw [sizeLine_eq]; have := hz.2; omega
    refine iteT ⟨.str z, rfl, .str z, z.length, rfl, ⟨zl, rfl⟩, .int _, rfl, rfl, ?_⟩
    rw [decide_eq_true rfl]
    exact k _ s1
theorem scIsEntry : FnScope ["value", "length", "size"] ["value", "length", "size"] (defScope sIsEntry) := ⟨rfl, rfl, rfl, by decide +kernel, rfl, by decide +kernel, by decide +kernel⟩
theorem ok_is_entry (X : Tx K mg ad fd) : FnOk P w K mg base CX0 3 (ad "is_entry") (fd "is_entry") ["value", "length", "size"] spEntry := by
  have G_is_between := ok_is_between (P := P) (w := w) (base := base) X
  have G_is_block := ok_is_block (P := P) (w := w) (base := base) X
  refine X.F_is_entry.ok scIsEntry (fun vs H Q E h => ?_) (fun cdv A outer s H vs Q E hr h => ?_)
  · obtain ⟨t, z, n, q, s', rfl, _⟩ := h
    rfl
  · obtain ⟨t, z, n, q, s', rfl, et, hz, zq, ns, sl, k⟩ := h
    have HR_is_between := hr
    have HR_is_block : Room 2 _ := hr
    refine ⟨_, (pss_cons (ps_if (PW.pt (pw_or (pt_not (pt_val (pe_callB call_isi (by rfl) X.m_isinstance (by decide +kernel) (pa_cons (pv 0) (pa_cons (pe_bltn (v := .ty "tuple") (by rfl) X.m_tuple (by decide +kernel) rfl) pa_nil))))) (pw_or1 (pt_cmpR op_ne (pe_callB call_len (by rfl) X.m_len (by decide +kernel) (pa_cons (pv 0) pa_nil)) pe_int (nomark _)))))
  (pss_one (ps_ret (by exact pe_bl)))
  pss_nil)
  (pss_one (ps_ret (by exact (pe_and (pe_call G_is_block HR_is_block (by rfl) X.g_is_block X.F_is_block.kp X.b_is_block .nil pass0 (pa_cons (pe_ix ix_tup (pv 0) pe_int (fun _ _ => rfl)) (pa_cons (pv 1) pa_nil))) (pe_one (pe_call G_is_between HR_is_between (by rfl) X.g_is_between X.F_is_between.kp X.b_is_between .nil pass0 (pa_cons (pe_ix ix_tup (pv 0) pe_int (fun _ _ => rfl)) (pa_cons pe_int (pa_cons (pe_op op_sub (pv 2) pe_int) pa_nil)))))))))), ?_⟩
    have te : TyX K H (.ref t) (.type "tuple") := .base (.tup et)
    have k1 : kitB "tuple" "tuple" = some true := by decide +kernel
    refine ⟨.ref t, rfl, .ref t, .ty "tuple", _, _, _, rfl, .ty _, te, kit_ty k1, _, rfl, iteF ?_⟩
    refine ⟨.ref t, rfl, .ref t, 2, rfl, .inr ⟨_, SqT.of et, rfl⟩, rfl, _, rfl, iteF ?_⟩
    refine ⟨.ref t, rfl, t, _, 0, .str z, rfl, rfl, SqT.of et, atI_nat (j := 0) rfl, .int q, rfl, z, q, rfl, hz, zq, fun H1 s1 => ⟨_, rfl, ?_⟩⟩
    have e1 := s1 _ _ et
    refine iteT ⟨.ref t, rfl, t, _, 1, .int (n : Int), rfl, rfl, SqT.of e1, atI_nat (j := 1) rfl, .int s', rfl, s', 1, rfl, rfl, .int (n : Int), .int (n : Int), 0, s' - 1, rfl, .int _, tame_int (by omega), fun H2 s2 => ?_⟩
    rw [show betweenD 0 (s' - 1) (.int (n : Int)) = true from by
      show (decide (0 ≤ (n : Int)) && decide ((n : Int) ≤ s' - 1)) = true
      rw [decide_eq_true (by omega), decide_eq_true (by omega)]; rfl]
    exact k _ (Same.trans s1 s2)
/-- a table that is taken at a rate -/
structure okCh (p q : Int) (c : Ch) : Prop where
  wf : WfC c
  rows : ∀ r ∈ c, (r.length : Int) = 2 ^ p.toNat
  blocks : ∀ r ∈ c, ∀ e ∈ r, wordD (.str e.1) = true ∧ (e.1.length : Int) = q
  most : (c.length : Int) * 2 ^ p.toNat ≤ 2000
def spCheckCodes (C : Addr) : Sp := fun vs H Q _ => ∃ (v : V) (c : Ch) (a : Addr) (p q : Int), vs = [v, .ref a] ∧ Dx H v (chD c) ∧ RatO C H a p q ∧ fitP p q ∧ okCh p q c ∧ ∀ H', Same H H' → Q .non H'
theorem scCheckCodes : FnScope ["codes", "rate", "position", "entries", "entry"] ["codes", "rate"] (defScope sCheckCodes) := ⟨rfl, rfl, rfl, by decide +kernel, rfl, by decide +kernel, by decide +kernel⟩
theorem ok_check_codes (X : Tx K mg ad fd) (RC : RateC K mg ad fd) : FnOk P w K mg base CX0 4 (ad "check_codes") (fd "check_codes") ["codes", "rate"] (spCheckCodes (ad "Rate")) := by
  have G_is_list := ok_is_list (P := P) (w := w) (base := base) X
  have G_is_entry := ok_is_entry (P := P) (w := w) (base := base) X
  refine X.F_check_codes.ok scCheckCodes (fun vs H Q E h => ?_) (fun cdv A outer s H vs Q E hr h => ?_)
  · obtain ⟨v, c, a, p, q, rfl, _⟩ := h
    rfl
  · obtain ⟨v, c, a, p, q, rfl, hd, ho, fit, oc, k⟩ := h
    have HR_is_entry := hr
    have HR_is_list : Room 1 _ := hr.mono (by decide)
    have HRP : Room 2 _ := hr.mono (by decide)
    refine ⟨_, (pss_cons (ps_if (PW.pt (pw_or (pt_not (pt_val (pe_call G_is_list HR_is_list (by rfl) X.g_is_list X.F_is_list.kp X.b_is_list .nil pass0 (pa_cons (pv 0) pa_nil)))) (pw_or1 (pt_cmpR op_eq (pe_callB call_len (by rfl) X.m_len (by decide +kernel) (pa_cons (pv 0) pa_nil)) pe_int (nomark _)))))
  (pss_one ps_never)
  pss_nil)
  (pss_one (ps_for PassesOwn.never rfl (pi_enum (by rfl) X.m_enumerate (pa_cons (pv 0) pa_nil)) (pg_tup rfl (pgs_cons (pg_name (i := 2) scCheckCodes.nd rfl (.inl rfl)) (pgs_cons (pg_name (i := 3) scCheckCodes.nd rfl (.inl rfl)) pgs_nil)))
  (pss_cons (ps_if (PW.pt (pw_or (pt_not (pt_val (pe_call G_is_list HR_is_list (by rfl) X.g_is_list X.F_is_list.kp X.b_is_list .nil pass0 (pa_cons (pv 3) pa_nil)))) (pw_or1 (pt_cmpR op_ne (pe_callB call_len (by rfl) X.m_len (by decide +kernel) (pa_cons (pv 3) pa_nil)) (pe_prop_size RC HRP (pv 1) rfl) (nomark _)))))
  (pss_one ps_never)
  pss_nil)
  (pss_one (ps_if (pt_not (pt_val (pe_callB (cr_all rfl) (by rfl) X.m_all (by decide +kernel) (pa_cons (pe_lc (own := [("entry", 4)]) (g := gName 4) rfl scCheckCodes.nd (pi_list (pv 3)) (blkOk_by (own := [("entry", 4)]) (N := ["codes", "rate", "position", "entries", "entry"]) (sc := defScope sCheckCodes) (by decide +kernel)) (fun _ _ _ _ _ => pg_name (i := 4) scCheckCodes.nd rfl (Or.inl rfl)) (fun _ _ _ _ _ => pts_nil) (fun _ _ _ _ _ => (pe_call G_is_entry HR_is_entry (by rfl) X.g_is_entry X.F_is_entry.kp X.b_is_entry .nil pass0 (pa_cons (pv 4) (pa_cons (pe_prop_q RC HRP (pv 1) rfl) (pa_cons (pe_callB (call_lenK (K := K) rfl) (by rfl) X.m_len (by decide +kernel) (pa_cons (pv 0) pa_nil)) pa_nil)))))) pa_nil))))
  (pss_one ps_never)
  pss_nil)))))), ?_⟩
    obtain ⟨a', xs, rfl, e, all⟩ := hd.list
    have lx : xs.length = c.length := by rw [all.length, List.length_map]
    have pw : (1 : Int) ≤ 2 ^ p.toNat := by
      have : 0 < (2 : Int) ^ p.toNat := Int.pow_pos (by decide)
      omega
    have cl : (c.length : Int) ≤ 2000 := by
      have h1 := oc.most
      have h2 : (c.length : Int) * 1 ≤ (c.length : Int) * 2 ^ p.toNat := Int.mul_le_mul_of_nonneg_left pw (by omega)
      omega
    refine ⟨.ref a', rfl, .ref a', _, rfl, hd, fun H1 s1 => ⟨_, rfl, iteF ⟨.ref a', rfl, .ref a', _, rfl, .inl ⟨_, SqL.of (s1 _ _ e), rfl⟩, rfl, _, rfl, ?_⟩⟩⟩
    rw [decide_eq_false (show ¬ V.int (xs.length : Int) = V.int 0 from fun z => by
      have h1 := V.int.inj z
      have h2 := oc.wf.1
      omega)]
    refine iteF ⟨.ref a', rfl, a', xs, rfl, SqL.of (s1 _ _ e), ?_⟩
    refine for_it (w := walk_enum (K := K) (a := a') (xs := xs)) (fun i σ H' => ∃ r2 r3, σ = [some (.ref a'), some (.ref a), r2, r3, none] ∧ Same H H') ⟨_, _, rfl, s1⟩ (fun i σ H' hi ⟨_, _, _, s⟩ => SqL.of (s _ _ e)) ?_ ?_
    · rintro i x σ H2 H3 hi ⟨r2, r3, rfl, s2⟩ ⟨T, u1, u2, rfl, hT, rfl, e1, e2⟩
      cases e1
      obtain ⟨d, hd2, dx⟩ := all.from_ e2
      rw [List.getElem?_map] at hd2
      cases ew : c[i]? with
      | none => rw [ew] at hd2; cases hd2
      | some r =>
        rw [ew] at hd2
        cases hd2
        have rm := List.mem_of_getElem? ew
        obtain ⟨b, ws, rfl, eb, _⟩ := id dx.list
        obtain ⟨ws', eb', lw, ents⟩ := rowD_ent dx
        rw [eb] at eb'
        cases eb'
        have sT := Same.trans s2 (Same.new hT (o := .tup [V.int (i : Int), .ref b]))
        refine ⟨T, _, rfl, SqT.of upd_same, rfl, _, _, rfl, _, _, rfl, rfl, ?_⟩
        refine ⟨.ref b, rfl, .ref b, _, rfl, dx.same sT, fun H4 s4 => ⟨_, rfl, iteF ?_⟩⟩
        have S4 := Same.trans sT s4
        have ho4 := ho.same S4
        obtain ⟨dq, ea⟩ := id ho4
        refine ⟨.ref b, rfl, .ref b, _, rfl, .inl ⟨_, SqL.of (S4 _ _ eb), rfl⟩, .ref a, rfl, a, dq, _, rfl, ea, a, p, q, rfl, ho4, fit, rfl, _, rfl, ?_⟩
        rw [decide_eq_true (show V.int (ws.length : Int) = V.int (2 ^ p.toNat) by rw [lw, oc.rows r rm])]
        refine iteF ⟨.ref b, rfl, b, rfl, ⟨_, SqL.of (S4 _ _ eb)⟩, fun D hD => ?_⟩
        have rl : r.length ≤ 1000 := by
          have h1 := oc.rows r rm
          have h2 : ∀ k : Nat, k ≤ 6 → (2 : Int) ^ k ≤ 64 := by decide
          have h3 := h2 p.toNat (by have := fit.2.1; omega)
          omega
        refine lc_bools true hD (S4 _ _ eb) (by rw [lw]; exact rl) (fun _ => rfl) (fun x hx H' s' Q' q' => ?_) (fun H7 s7 eD => ?_)
        · obtain ⟨j, hj, ej⟩ := List.mem_iff_getElem.mp hx
          obtain ⟨t, en, he, rfl, et⟩ := ents j x (by rw [List.getElem?_eq_getElem hj, ej])
          obtain ⟨w1, w2⟩ := oc.blocks r rm en (List.mem_of_getElem? he)
          have S5 := Same.trans S4 s'
          have ho5 := ho.same S5
          obtain ⟨dq', ea'⟩ := id ho5
          have q6 := fit.2.2.2
          exact ⟨.ref t, rfl, .ref a, rfl, a, dq', _, rfl, ea', a, p, q, rfl, ho5, fit, .ref a', rfl, .ref a', _, rfl, .inl ⟨_, SqL.of (S5 _ _ e), rfl⟩, t, en.1, en.2, q, (xs.length : Int), rfl, S5 _ _ et, ⟨w1, by omega⟩, w2, by have := oc.wf.2 r rm en (List.mem_of_getElem? he); omega, by omega, fun H6 s6 => q' _ s6⟩
        · refine ⟨D, List.replicate ws.length true, rfl, SqL.of eD, _, rfl, ?_⟩
          rw [show (List.replicate ws.length true).all id = true by simp]
          exact iteF ⟨_, _, rfl, Same.trans S4 s7⟩
    · rintro σ H2 ⟨r2, r3, rfl, s2⟩
      exact k _ s2
end
end K82
end

section
set_option maxHeartbeats 4000000
/-! coders made -/
namespace K82
open PySem PySem.Spec PyProof.Rows L2
/-- what the top has written of the class Coder -/
structure CoderC (K : PySem.W.Frag) (mg : Str → Option Value) (ad : Str → Addr) (fd : Str → FuncData) : Prop where
  G : mg "Coder" = some (.ref (ad "Coder"))
  cl : Cls K (ad "Coder")
  mks : Mk K (ad "Coder") (ad "Coder.__init__")
  nr : NoAttr K (ad "Coder") "_rate"
  nl : NoAttr K (ad "Coder") "_lead"
  nc : NoAttr K (ad "Coder") "_codes"
  most : ∃ u, Con K (ad "Coder") "MOST_ENTRIES" (.int 2000) u
  F_init : FunV K "__init__" "Coder.__init__" sC_init [.str ""] (ad "Coder.__init__") (fd "Coder.__init__")
  b_init : Binds K (fd "Coder.__init__") ["self", "rate", "codes", "lead"] []
/-- a Coder stands at a: its rate at r, its kept codes at l -/
def CodO (C R : Addr) (H : Hp) (a : Addr) (p q : Int) (c : Ch) (lead : Str) : Prop :=
  ∃ dx r l, H a = some (.ins C dx [(("_rate" : Str), .ref r), (("_lead" : Str), .str lead), (("_codes" : Str), .ref l)]) ∧ RatO R H r p q ∧ Dx H (.ref l) (chD c)
theorem CodO.same {C R : Addr} {H H' : Hp} {a : Addr} {p q : Int} {c : Ch} {lead : Str} (h : CodO C R H a p q c lead) (s : Same H H') : CodO C R H' a p q c lead := by
  obtain ⟨dx, r, l, e, hr, hd⟩ := h
  exact ⟨dx, r, l, s _ _ e, hr.same s, hd.same s⟩
mutual
theorem Dx.butI {x : Addr} {H H' : Hp} (n : ∀ b o, b ≠ x → H b = some o → H' b = some o) (hx : ∃ C dx fs, H x = some (.ins C dx fs)) : ∀ {v : V} {d : PyData}, Dx H v d → Dx H' v d
  | _, _, .non => .non
  | _, _, .bl b => .bl b
  | _, _, .int i => .int i
  | _, _, .str x => .str x
  | _, _, .lst e h => .lst (n _ _ (fun z => by obtain ⟨C, dx, fs, q⟩ := hx; rw [z, q] at e; cases e) e) (DxAll.butI n hx h)
  | _, _, .tup e h => .tup (n _ _ (fun z => by obtain ⟨C, dx, fs, q⟩ := hx; rw [z, q] at e; cases e) e) (DxAll.butI n hx h)
  | _, _, .dic e h => .dic (n _ _ (fun z => by obtain ⟨C, dx, fs, q⟩ := hx; rw [z, q] at e; cases e) e) (DxAll.butI n hx h)
theorem DxAll.butI {x : Addr} {H H' : Hp} (n : ∀ b o, b ≠ x → H b = some o → H' b = some o) (hx : ∃ C dx fs, H x = some (.ins C dx fs)) : ∀ {vs : List V} {ds : List PyData}, DxAll H vs ds → DxAll H' vs ds
  | _, _, .nil => .nil
  | _, _, .cons a b => .cons (Dx.butI n hx a) (DxAll.butI n hx b)
end
def spCInit (C R : Addr) : Sp := fun vs H Q _ => ∃ (x dx r : Addr) (v : V) (c : Ch) (lead : Str) (p q : Int), vs = [.ref x, .ref r, v, .str lead] ∧ H x = some (.ins C dx []) ∧ RatO R H r p q ∧ fitP p q ∧ Dx H v (chD c) ∧ okCh p q c ∧ okRow lead ∧
  ∀ (H' : Hp) (l : Addr), But x H H' → H' x = some (.ins C dx [(("_rate" : Str), .ref r), (("_lead" : Str), .str lead), (("_codes" : Str), .ref l)]) → RatO R H' r p q → Dx H' (.ref l) (chD (keptF c)) → Q .non H'
section
variable {P : Program} {w : World} {K : PySem.W.Frag} {mg : Str → Option Value} {base : Heap} {ad : Str → Addr} {fd : Str → FuncData}
theorem scC_init : FnScope ["self", "rate", "codes", "lead"] ["self", "rate", "codes", "lead"] (defScope sC_init) := ⟨rfl, rfl, rfl, by decide +kernel, rfl, by decide +kernel, by decide +kernel⟩
theorem ok_cinit (X : Tx K mg ad fd) (RC : RateC K mg ad fd) (CC : CoderC K mg ad fd) : FnOk P w K mg base CX0 5 (ad "Coder.__init__") (fd "Coder.__init__") ["self", "rate", "codes", "lead"] (spCInit (ad "Coder") (ad "Rate")) := by
  have G_check_rate := ok_check_rate (P := P) (w := w) (base := base) X RC
  have G_check_codes := ok_check_codes (P := P) (w := w) (base := base) X RC
  have G_check_row := ok_check_row (P := P) (w := w) (base := base) X
  have G_kept_codes := ok_kept_codes (P := P) (w := w) (base := base) X
  obtain ⟨um, cm⟩ := CC.most
  refine FunV.okV CC.F_init scC_init (fun vs H Q E h => ?_) (fun cdv A outer s H vs Q E hr h => ?_)
  · obtain ⟨x, dx, r, v, c, lead, p, q, rfl, _⟩ := h
    rfl
  · obtain ⟨x, dx, r, v, c, lead, p, q, rfl, hx, hr', fit, hd, oc, ol, k⟩ := h
    have HR_check_codes : Room 4 _ := hr
    have HR_check_rate : Room 1 _ := hr.mono (by decide)
    have HR_check_row : Room 3 _ := hr.mono (by decide)
    have HR_kept_codes : Room 1 _ := hr.mono (by decide)
    have HRP : Room 2 _ := hr.mono (by decide)
    refine ⟨_, (pss_cons (ps_expr (by exact (pe_call G_check_rate HR_check_rate (by rfl) X.g_check_rate X.F_check_rate.kp X.b_check_rate .nil pass0 (pa_cons (pv 1) pa_nil))))
  (pss_cons (ps_expr (by exact (pe_call G_check_codes HR_check_codes (by rfl) X.g_check_codes X.F_check_codes.kp X.b_check_codes .nil pass0 (pa_cons (pv 2) (pa_cons (pv 1) pa_nil)))))
  (pss_cons (ps_expr (by exact (pe_call G_check_row HR_check_row (by rfl) X.g_check_row X.F_check_row.kp X.b_check_row .nil pass0 (pa_cons (pv 3) pa_nil))))
  (pss_cons (ps_if (pt_cmpR op_gt (pe_op op_mul (pe_callB call_len (by rfl) X.m_len (by decide +kernel) (pa_cons (pv 2) pa_nil)) (pe_prop_size RC HRP (pv 1) rfl)) (pe_con (pv 0) rfl) (nomark _))
  (pss_one ps_never)
  pss_nil)
  (pss_cons (ps_fld (pv 0) (by exact (pv 1)) rfl)
  (pss_cons (ps_fld (pv 0) (by exact (pv 3)) rfl)
  (pss_one (ps_fld (pv 0) (by exact (pe_call G_kept_codes HR_kept_codes (by rfl) X.g_kept_codes X.F_kept_codes.kp X.b_kept_codes .nil pass0 (pa_cons (pv 2) pa_nil))) rfl)))))))), ?_⟩
    have CX := hx
    refine ⟨.ref r, rfl, r, p, q, rfl, hr', fun H1 s1 => ?_⟩
    refine ⟨v, rfl, .ref r, rfl, v, c, r, p, q, rfl, hd.same s1, hr'.same s1, fit, oc, fun H2 s2 => ?_⟩
    have S2 := Same.trans s1 s2
    refine ⟨.str lead, rfl, lead, rfl, ol, fun H3 s3 => ?_⟩
    have S3 := Same.trans S2 s3
    obtain ⟨a', xs, rv, e, all⟩ := (hd.same S3).list
    subst rv
    have lx : xs.length = c.length := by rw [all.length, List.length_map]
    have hr3 := hr'.same S3
    obtain ⟨dr, er⟩ := id hr3
    have pw : (2 : Int) ^ p.toNat ≤ 64 := by
      have h2 : ∀ k : Nat, k ≤ 6 → (2 : Int) ^ k ≤ 64 := by decide
      exact h2 _ (by have := fit.2.1; omega)
    have pp : (1 : Int) ≤ 2 ^ p.toNat := by
      have : 0 < (2 : Int) ^ p.toNat := Int.pow_pos (by decide)
      omega
    have cl : (c.length : Int) ≤ 2000 := by
      have h1 := oc.most
      have h2 : (c.length : Int) * 1 ≤ (c.length : Int) * 2 ^ p.toNat := Int.mul_le_mul_of_nonneg_left pp (by omega)
      omega
    refine ⟨.ref a', rfl, .ref a', _, rfl, .inl ⟨_, SqL.of e, rfl⟩, .ref r, rfl, r, dr, _, rfl, er, r, p, q, rfl, hr3, fit, _, _, rfl, rfl, .inl ⟨by omega, by omega⟩, .ref x, rfl, x, ad "Coder", dx, [], .int 2000, um, rfl, S3 _ _ hx, CC.cl, cm, rfl, ?_⟩
    refine ⟨_, 2000, rfl, rfl, _, rfl, ?_⟩
    rw [decide_eq_false (show ¬ (2000 : Int) < (xs.length : Int) * 2 ^ p.toNat by rw [lx]; have := oc.most; omega)]
    have p2 : (2 : Int) ≤ 2 ^ p.toNat := by
      have h2 : ∀ k : Nat, k ≤ 6 → 1 ≤ k → (2 : Int) ≤ 2 ^ k := by decide
      exact h2 _ (by have := fit.2.1; omega) (by have := fit.1; omega)
    have c1 : c.length ≤ 1000 := by
      have h1 := oc.most
      have h2 : (c.length : Int) * 2 ≤ (c.length : Int) * 2 ^ p.toNat := Int.mul_le_mul_of_nonneg_left p2 (by omega)
      omega
    have c2 : ∀ r ∈ c, r.length ≤ 1000 := fun r hr => by
      have := oc.rows r hr
      omega
    have hx3 := S3 _ _ hx
    refine iteF ⟨.ref r, rfl, .ref x, rfl, x, ad "Coder", dx, [], rfl, hx3, CC.cl, CC.nr, by decide, ?_⟩
    refine ⟨.str lead, rfl, .ref x, rfl, x, ad "Coder", dx, _, rfl, upd_same, CC.cl, CC.nl, (by show 1 < 1000; decide), ?_⟩
    refine ⟨.ref a', rfl, .ref a', c, rfl, ?_, oc.wf, c1, c2, fun l H5 s5 hl dl => ?_⟩
    · refine (hd.same S3).butI (x := x) (fun b o nb eb => ?_) ⟨_, _, _, hx3⟩
      rw [upd_ne nb, upd_ne nb]
      exact eb
    · have nlx : l ≠ x := fun z => by
        rw [z, upd_same] at hl
        cases hl
      have e5 := s5 _ _ (upd_same (H := upd _ x _) (a := x))
      refine ⟨.ref x, rfl, x, ad "Coder", dx, _, rfl, e5, CC.cl, CC.nc, (by show 2 < 1000; decide), ?_⟩
      refine k _ l (fun b o nb eb => ?_) upd_same ?_ ?_
      · rw [upd_ne nb]
        refine s5 _ _ ?_
        rw [upd_ne nb, upd_ne nb]
        exact S3 _ _ eb
      · refine hr3.imp fun d z => ?_
        have nrx : r ≠ x := fun y => by
          rw [y, hx3] at z
          exact nomatch (HO.ins.inj (Option.some.inj z)).2.2
        rw [upd_ne nrx]
        refine s5 _ _ ?_
        rw [upd_ne nrx, upd_ne nrx]
        exact z
      · exact dl.butI (x := x) (fun b o nb eb => (upd_ne nb).trans eb) ⟨_, _, _, e5⟩
end
end K82
end

section
set_option maxHeartbeats 4000000
/-! coders asked -/
namespace K82
open PySem PySem.Spec PyProof.Rows L2
theorem call_list_ofK {X : Cx} {K : PySem.W.Frag} (e : X.K = K) : CallR X (.type "list") (fun xs H Q => ∃ p ys, xs = [.ref p] ∧ (SqL K H p ys ∨ SqT K H p ys) ∧ ∀ l, H l = none → Q (.ref l) (upd H l (.lst ys))) := by
  subst e
  exact call_list_of
theorem refs_of {vs : List V} (h : ∀ (j : Nat) (x : V), vs[j]? = some x → ∃ t : Addr, x = .ref t) : ∃ ts : List Addr, vs = ts.map V.ref := by
  induction vs with
  | nil => exact ⟨[], rfl⟩
  | cons v vs ih =>
    obtain ⟨t, rfl⟩ := h 0 v rfl
    obtain ⟨ts, rfl⟩ := ih fun j x hx => h (j + 1) x (by simpa using hx)
    exact ⟨t :: ts, rfl⟩
theorem rowAt_of {H : Hp} {b : Addr} {r : List (Str × Nat)} (h : Dx H (.ref b) (rowD r)) : RowAt H b r := by
  obtain ⟨vs, e, l, k⟩ := rowD_ent h
  obtain ⟨ts, rfl⟩ := refs_of fun j x hx => let ⟨t, _, _, z, _⟩ := k j x hx; ⟨t, z⟩
  refine ⟨ts, e, by rw [← l, List.length_map], fun j t ht => ?_⟩
  obtain ⟨t', en, h1, h2, h3⟩ := k j (.ref t) (by rw [List.getElem?_map, ht]; rfl)
  cases h2
  exact ⟨en, h1, h3⟩
theorem chD_of {H : Hp} {D : Addr} {ls : List Addr} {c : Ch} (e : H D = some (.lst (ls.map V.ref))) (l : ls.length = c.length) (k : ∀ (m : Nat) (l' : Addr), ls[m]? = some l' → ∃ r, c[m]? = some r ∧ RowAt H l' r) : Dx H (.ref D) (chD c) := by
  refine .lst e (dxAll_of (by rw [List.length_map, List.length_map, l]) fun j v hv => ?_)
  rw [List.getElem?_map] at hv
  cases el : ls[j]? with
  | none => rw [el] at hv; cases hv
  | some l' =>
    rw [el] at hv
    cases hv
    obtain ⟨r, h1, h2⟩ := k j l' el
    exact ⟨rowD r, by rw [List.getElem?_map, h1]; rfl, h2.dx⟩
/-- more of the class Coder -/
structure CoderM (K : PySem.W.Frag) (mg : Str → Option Value) (ad : Str → Addr) (fd : Str → FuncData) : Prop where
  F_rate : Fun K "rate" "Coder.rate" sC_rate (ad "Coder.rate") (fd "Coder.rate")
  b_rate : Binds K (fd "Coder.rate") ["self"] []
  F_lead : Fun K "lead" "Coder.lead" sC_lead (ad "Coder.lead") (fd "Coder.lead")
  b_lead : Binds K (fd "Coder.lead") ["self"] []
  F_codes : Fun K "codes" "Coder.codes" sC_codes (ad "Coder.codes") (fd "Coder.codes")
  b_codes : Binds K (fd "Coder.codes") ["self"] []
  F_follow : Fun K "follow" "Coder.follow" sC_follow (ad "Coder.follow") (fd "Coder.follow")
  b_follow : Binds K (fd "Coder.follow") ["self", "text", "state"] []
  F_len : Fun K "__len__" "Coder.__len__" sC_len (ad "Coder.__len__") (fd "Coder.__len__")
  b_len : Binds K (fd "Coder.__len__") ["self"] []
def spCRate (C R : Addr) : Sp := fun vs H Q _ => ∃ (a : Addr) (p q : Int) (c : Ch) (lead : Str), vs = [.ref a] ∧ CodO C R H a p q c lead ∧ ∀ r, RatO R H r p q → Q (.ref r) H
def spCLead (C R : Addr) : Sp := fun vs H Q _ => ∃ (a : Addr) (p q : Int) (c : Ch) (lead : Str), vs = [.ref a] ∧ CodO C R H a p q c lead ∧ Q (.str lead) H
def spCCodes (C R : Addr) : Sp := fun vs H Q _ => ∃ (a : Addr) (p q : Int) (c : Ch) (lead : Str), vs = [.ref a] ∧ CodO C R H a p q c lead ∧ c.length ≤ 1000 ∧ ∀ (l : Addr) (H' : Hp), Same H H' → H l = none → Dx H' (.ref l) (chD c) → Q (.ref l) H'
def spCLen (C R : Addr) : Sp := fun vs H Q _ => ∃ (a : Addr) (p q : Int) (c : Ch) (lead : Str), vs = [.ref a] ∧ CodO C R H a p q c lead ∧ Q (.int (c.length : Int)) H
/-- the blocks of a text, the state behind it -/
def wayF (c : Ch) : List Nat → Nat → List Str × Nat
  | [], s => ([], s)
  | w :: ws, s => let e := (rowC c s).getD w ("", 0); ((e.1 :: (wayF c ws e.2).1), (wayF c ws e.2).2)
theorem wayF_snoc (c : Ch) (w : Nat) : ∀ (ws : List Nat) (s : Nat), wayF c (ws ++ [w]) s = ((wayF c ws s).1 ++ [((rowC c (wayF c ws s).2).getD w ("", 0)).1], ((rowC c (wayF c ws s).2).getD w ("", 0)).2)
  | [], s => rfl
  | x :: ws, s => by
    show (((rowC c s).getD x ("", 0)).1 :: (wayF c (ws ++ [w]) ((rowC c s).getD x ("", 0)).2).1, (wayF c (ws ++ [w]) ((rowC c s).getD x ("", 0)).2).2) = _
    rw [wayF_snoc c w ws]
    rfl
theorem wayF_len (c : Ch) : ∀ (ws : List Nat) (s : Nat), (wayF c ws s).1.length = ws.length
  | [], s => rfl
  | x :: ws, s => by
    show (((rowC c s).getD x ("", 0)).1 :: (wayF c ws ((rowC c s).getD x ("", 0)).2).1).length = _
    rw [List.length_cons, wayF_len c ws]
    rfl
def spFollow (C R : Addr) : Sp := fun vs H Q _ => ∃ (a : Addr) (p q : Int) (c : Ch) (lead : Str) (v : V) (ws : List Nat) (s : Nat), vs = [.ref a, v, .int (s : Int)] ∧ CodO C R H a p q c lead ∧ WfC c ∧ (∀ r ∈ c, (r.length : Int) = 2 ^ p.toNat) ∧ s < c.length ∧
  Dx H v (.list (ws.map fun (w : Nat) => .int (w : Int))) ∧ ws.length ≤ 200 ∧ (∀ w ∈ ws, (w : Int) < 2 ^ p.toNat) ∧
  ∀ (t l : Addr) (H' : Hp), Same H H' → H' t = some (.tup [.ref l, .int ((wayF c ws s).2 : Int)]) → H' l = some (.lst ((wayF c ws s).1.map V.str)) → Q (.ref t) H'
section
variable {P : Program} {w : World} {K : PySem.W.Frag} {mg : Str → Option Value} {base : Heap} {ad : Str → Addr} {fd : Str → FuncData}
theorem scC_rate : FnScope ["self"] ["self"] (defScope sC_rate) := ⟨rfl, rfl, rfl, by decide +kernel, rfl, by decide +kernel, by decide +kernel⟩
theorem ok_crate (CC : CoderC K mg ad fd) (CM : CoderM K mg ad fd) : FnOk P w K mg base CX0 1 (ad "Coder.rate") (fd "Coder.rate") ["self"] (spCRate (ad "Coder") (ad "Rate")) := by
  refine CM.F_rate.ok scC_rate (fun vs H Q E h => ?_) (fun cdv A outer s H vs Q E hr h => ?_)
  · obtain ⟨a, p, q, c, lead, rfl, _⟩ := h
    rfl
  · obtain ⟨a, p, q, c, lead, rfl, ⟨dx, r, l, e, ho, hd⟩, k⟩ := h
    refine ⟨_, (pss_one (ps_ret (by exact (pe_fld (pv 0) rfl)))), ?_⟩
    exact ⟨.ref a, rfl, a, _, dx, _, _, rfl, e, CC.cl, CC.nr, rfl, k r ho⟩
theorem scC_lead : FnScope ["self"] ["self"] (defScope sC_lead) := ⟨rfl, rfl, rfl, by decide +kernel, rfl, by decide +kernel, by decide +kernel⟩
theorem ok_clead (CC : CoderC K mg ad fd) (CM : CoderM K mg ad fd) : FnOk P w K mg base CX0 1 (ad "Coder.lead") (fd "Coder.lead") ["self"] (spCLead (ad "Coder") (ad "Rate")) := by
  refine CM.F_lead.ok scC_lead (fun vs H Q E h => ?_) (fun cdv A outer s H vs Q E hr h => ?_)
  · obtain ⟨a, p, q, c, lead, rfl, _⟩ := h
    rfl
  · obtain ⟨a, p, q, c, lead, rfl, ⟨dx, r, l, e, ho, hd⟩, k⟩ := h
    refine ⟨_, (pss_one (ps_ret (by exact (pe_fld (pv 0) rfl)))), ?_⟩
    exact ⟨.ref a, rfl, a, _, dx, _, _, rfl, e, CC.cl, CC.nl, rfl, k⟩
theorem scC_len : FnScope ["self"] ["self"] (defScope sC_len) := ⟨rfl, rfl, rfl, by decide +kernel, rfl, by decide +kernel, by decide +kernel⟩
theorem ok_clen (X : Tx K mg ad fd) (CC : CoderC K mg ad fd) (CM : CoderM K mg ad fd) : FnOk P w K mg base CX0 1 (ad "Coder.__len__") (fd "Coder.__len__") ["self"] (spCLen (ad "Coder") (ad "Rate")) := by
  refine CM.F_len.ok scC_len (fun vs H Q E h => ?_) (fun cdv A outer s H vs Q E hr h => ?_)
  · obtain ⟨a, p, q, c, lead, rfl, _⟩ := h
    rfl
  · obtain ⟨a, p, q, c, lead, rfl, ⟨dx, r, l, e, ho, hd⟩, k⟩ := h
    obtain ⟨l', xs, el, ex, all⟩ := hd.list
    cases el
    have lx : xs.length = c.length := by rw [all.length, List.length_map]
    refine ⟨_, (pss_one (ps_ret (by exact (pe_callB call_len (by rfl) X.m_len (by decide +kernel) (pa_cons (pe_fld (pv 0) rfl) pa_nil))))), ?_⟩
    refine ⟨.ref a, rfl, a, _, dx, _, _, rfl, e, CC.cl, CC.nc, rfl, .ref l, _, rfl, .inl ⟨_, SqL.of ex, rfl⟩, ?_⟩
    rw [lx]
    exact k
theorem scC_codes : FnScope ["self", "entries"] ["self"] (defScope sC_codes) := ⟨rfl, rfl, rfl, by decide +kernel, rfl, by decide +kernel, by decide +kernel⟩
theorem ok_ccodes (X : Tx K mg ad fd) (CC : CoderC K mg ad fd) (CM : CoderM K mg ad fd) : FnOk P w K mg base CX0 1 (ad "Coder.codes") (fd "Coder.codes") ["self"] (spCCodes (ad "Coder") (ad "Rate")) := by
  refine CM.F_codes.ok scC_codes (fun vs H Q E h => ?_) (fun cdv A outer s H vs Q E hr h => ?_)
  · obtain ⟨a, p, q, c, lead, rfl, _⟩ := h
    rfl
  · obtain ⟨a, p, q, c, lead, rfl, ⟨dx, r, l, e, ho, hd⟩, cl, k⟩ := h
    obtain ⟨l', xs, el, ex, all⟩ := hd.list
    cases el
    have lx : xs.length = c.length := by rw [all.length, List.length_map]
    refine ⟨_, (pss_one (ps_ret (by exact (pe_lc (own := [("entries", 1)]) (g := gName 1) rfl scC_codes.nd (pi_list (pe_fld (pv 0) rfl)) (blkOk_by (own := [("entries", 1)]) (N := ["self", "entries"]) (sc := defScope sC_codes) (by decide +kernel)) (fun _ _ _ _ _ => pg_name (i := 1) scC_codes.nd rfl (Or.inl rfl)) (fun _ _ _ _ _ => pts_nil) (fun _ _ _ _ _ => (pe_callTy (call_list_ofK (K := K) rfl) (by rfl) X.m_list (by decide +kernel) (pa_cons (pv 1) pa_nil))))))), ?_⟩
    refine ⟨.ref a, rfl, a, _, dx, _, _, rfl, e, CC.cl, CC.nc, rfl, l, rfl, ⟨_, SqL.of ex⟩, fun D hD => ?_⟩
    refine lc_it (w := walk_list (K := K) (a := l) (xs := xs)) (g := gName 1) (tt := tYes) (fun i H' => ∃ ls : List Addr, H' D = some (.lst (ls.map V.ref)) ∧ ls.length = i ∧ Same H H' ∧ ∀ (m : Nat) (l' : Addr), ls[m]? = some l' → l' ≠ D ∧ ∃ r, c[m]? = some r ∧ RowAt H' l' r)
      ⟨[], upd_same, rfl, Same.new hD, fun m l z => by cases z⟩ (fun i H' hi ⟨_, _, _, s, _⟩ => SqL.of (s _ _ ex)) (fun i x H' H'' hi hP hy => ?_) (fun H' hP => ?_)
    · obtain ⟨ls, eD, ll, s1, rows⟩ := hP
      obtain ⟨rfl, hx⟩ := hy
      obtain ⟨d, hd2, dx2⟩ := all.from_ hx
      rw [List.getElem?_map] at hd2
      cases ew : c[i]? with
      | none => rw [ew] at hd2; cases hd2
      | some r' =>
        rw [ew] at hd2
        cases hd2
        obtain ⟨b, ws, rfl, eb, _⟩ := id dx2.list
        obtain ⟨ts, et, lt, kt⟩ := (rowAt_of dx2)
        refine ⟨rfl, yes_of (iteT ?_)⟩
        refine ⟨.ref b, rfl, b, _, rfl, .inl (SqL.of (s1 _ _ et)), fun n hn => ?_⟩
        have Sn := Same.new hn (o := .lst (ts.map V.ref))
        have eD2 := Sn _ _ eD
        have nDn : n ≠ D := (ne_of_none eD hn).symm
        have row : RowAt (upd H'' n (.lst (ts.map V.ref))) n r' := ⟨ts, upd_same, lt, fun j t ht => by
          obtain ⟨en, h1, h2⟩ := kt j t ht
          exact ⟨en, h1, Sn _ _ (s1 _ _ h2)⟩⟩
        refine ⟨_, eD2, by rw [List.length_map, ll, sizeLine_eq]; omega, ls ++ [n], by rw [upd_same, List.map_append]; rfl, by rw [List.length_append, ll]; rfl, fun b' u eb' => ?_, fun m l' hm => ?_⟩
        · rw [upd_ne (ne_of_none eb' hD)]
          exact Sn _ _ (s1 _ _ eb')
        · by_cases hlt2 : m < ls.length
          · rw [List.getElem?_append_left hlt2] at hm
            obtain ⟨nl, r2, h1, h2⟩ := rows m l' hm
            exact ⟨nl, r2, h1, h2.keep nl eD fun b' u nb eb' => by rw [upd_ne nb]; exact Sn _ _ eb'⟩
          · rw [List.getElem?_append_right (by omega)] at hm
            have z : m - ls.length = 0 := by
              by_cases q : m - ls.length = 0
              · exact q
              · rw [List.getElem?_eq_none (by simp; omega)] at hm
                cases hm
            rw [z] at hm
            cases hm
            have mj : m = i := by omega
            subst mj
            exact ⟨nDn, r', ew, row.keep nDn eD2 fun b' u nb eb' => by rw [upd_ne nb]; exact eb'⟩
    · obtain ⟨ls, eD, ll, s1, rows⟩ := hP
      exact k D H' s1 hD (chD_of eD (by rw [ll, lx]) fun m l' hm => (rows m l' hm).2)
theorem scC_follow : FnScope ["self", "text", "state", "blocks", "word", "block"] ["self", "text", "state"] (defScope sC_follow) := ⟨rfl, rfl, rfl, by decide +kernel, rfl, by decide +kernel, by decide +kernel⟩
theorem ok_follow (X : Tx K mg ad fd) (CC : CoderC K mg ad fd) (CM : CoderM K mg ad fd) : FnOk P w K mg base CX0 1 (ad "Coder.follow") (fd "Coder.follow") ["self", "text", "state"] (spFollow (ad "Coder") (ad "Rate")) := by
  refine CM.F_follow.ok scC_follow (fun vs H Q E h => ?_) (fun cdv A outer s H vs Q E hr h => ?_)
  · obtain ⟨a, p, q, c, lead, v, ws, st, rfl, _⟩ := h
    rfl
  · obtain ⟨a, p, q, c, lead, v, ws, st, rfl, ⟨dx, r, l, e, ho, hd⟩, wf, rows, sl, hv, lw, lt, k⟩ := h
    refine ⟨_, (pss_cons (ps_set (i := 3) scC_follow.nd rfl (.inl rfl) (by exact (pe_lst pa_nil)))
  (pss_cons (ps_for PassesOwn.never rfl (pi_list (pv 1)) (pg_name (i := 4) scC_follow.nd rfl (.inl rfl))
  (pss_cons (ps_asg (by exact (pe_ix ix_list (pe_ix ix_list (pe_fld (pv 0) rfl) (pv 2) (fun _ _ => rfl)) (pv 4) (fun _ _ => rfl))) (pg_tup rfl (pgs_cons (pg_name (i := 5) scC_follow.nd rfl (.inl rfl)) (pgs_cons (pg_name (i := 2) scC_follow.nd rfl (.inl rfl)) pgs_nil))))
  (pss_one (ps_expr (by exact (pe_bm PySem.F.plainAttrs_list PySem.F.slot_list_append PySem.F.type_list_append mt_append (pv 3) (pa_cons (pv 5) pa_nil)))))))
  (pss_one (ps_ret (by exact (pe_tup (pa_cons (pv 3) (pa_cons (pv 2) pa_nil)))))))), ?_⟩
    obtain ⟨tx, xs, rfl, ex, all⟩ := hv.list
    have lx : xs.length = ws.length := by rw [all.length, List.length_map]
    refine ⟨Nat.zero_le _, fun B hB => ?_⟩
    have eB0 : (upd H B (.lst [])) B = some (.lst []) := upd_same
    have S0 := Same.new hB (o := .lst [])
    generalize (upd H B (.lst [])) = H0 at eB0 S0 ⊢
    refine ⟨.ref tx, rfl, tx, rfl, ⟨_, SqL.of (S0 _ _ ex)⟩, ?_⟩
    refine for_list (K := K) (a := tx) (xs := xs) (fun i σ H' => ∃ r4 r5, σ = [some (.ref a), some (.ref tx), some (.int (((wayF c (ws.take i) st).2 : Nat) : Int)), some (.ref B), r4, r5] ∧ Same H H' ∧ H' B = some (.lst ((wayF c (ws.take i) st).1.map V.str)) ∧ (wayF c (ws.take i) st).2 < c.length ∧ H' tx = some (.lst xs))
      ⟨_, _, rfl, S0, eB0, sl, S0 _ _ ex⟩ (fun i σ H' _ ⟨_, _, _, _, _, _, s⟩ => SqL.of s) ?_ ?_
    · rintro i x σ H1 hx ⟨r4, r5, rfl, s1, eB, sl1, etx⟩
      obtain ⟨d, hd2, dx2⟩ := all.from_ hx
      rw [List.getElem?_map] at hd2
      cases ew : ws[i]? with
      | none => rw [ew] at hd2; cases hd2
      | some wv =>
        rw [ew] at hd2
        cases hd2
        cases dx2
        have tj : ws.take (i + 1) = ws.take i ++ [wv] := by rw [List.take_add_one, ew]; rfl
        rw [tj, wayF_snoc]
        have lB := wayF_len c (ws.take i) st
        have li : (ws.take i).length ≤ 200 := by rw [List.length_take]; omega
        generalize wayF c (ws.take i) st = y at eB sl1 lB ⊢
        obtain ⟨bl, s⟩ := y
        replace sl1 : s < c.length := sl1
        replace lB : bl.length = (ws.take i).length := lB
        have e1 := s1 _ _ e
        obtain ⟨l', vs, b, el, ev, lv, hb, db⟩ := chD_row (hd.same s1) sl1
        cases el
        obtain ⟨ts, et, lts, kt⟩ := rowAt_of db
        have wl : wv < (rowC c s).length := by
          have h1 := lt wv (List.mem_of_getElem? ew)
          have h2 : (rowC c s) ∈ c := by
            unfold rowC
            rw [List.getD_eq_getElem?_getD, List.getElem?_eq_getElem sl1]
            exact List.getElem_mem sl1
          have h3 := rows _ h2
          omega
        obtain ⟨t, htt⟩ : ∃ t, ts[wv]? = some t := ⟨_, List.getElem?_eq_getElem (by omega)⟩
        obtain ⟨en, hen, het⟩ := kt wv t htt
        have hg : (rowC c s).getD wv ("", 0) = en := by rw [List.getD_eq_getElem?_getD, hen]; rfl
        rw [hg]
        have en2 : en.2 < c.length := rowC_lt wf (List.mem_of_getElem? hen)
        refine ⟨.ref a, rfl, a, _, dx, _, _, rfl, e1, CC.cl, CC.nc, rfl, .int (s : Int), rfl, l, _, (s : Int), .ref b, rfl, rfl, SqL.of ev, atI_nat hb, .int (wv : Int), rfl, b, _, (wv : Int), .ref t, rfl, rfl, SqL.of et, atI_nat (by rw [List.getElem?_map, htt]; rfl), ?_⟩
        refine ⟨t, [.str en.1, .int (en.2 : Int)], rfl, SqT.of het, rfl, .str en.1, _, rfl, .int (en.2 : Int), _, rfl, rfl, ?_⟩
        have nBx : B ≠ tx := (ne_of_none ex hB).symm
        refine ⟨.ref B, rfl, .inl ⟨rfl, _, SqL.of eB⟩, .str en.1, rfl, B, _, _, rfl, rfl, eB, by rw [List.length_map, lB, sizeLine_eq]; omega, ?_⟩
        refine ⟨_, _, rfl, fun b' u eb' => ?_, ?_, en2, ?_⟩
        · rw [upd_ne (ne_of_none eb' hB)]
          exact s1 _ _ eb'
        · rw [upd_same, List.map_append]; rfl
        · rw [upd_ne nBx.symm]
          exact etx
    · rintro σ H1 ⟨r4, r5, rfl, s1, eB, sl1, etx⟩
      rw [show ws.take xs.length = ws from List.take_of_length_le (by omega)] at eB ⊢
      refine ⟨.ref B, rfl, .int _, rfl, (by show 2 ≤ sizeLine; decide), fun t ht => ?_⟩
      have St := Same.new ht (o := .tup [V.ref B, .int (((wayF c ws st).2 : Nat) : Int)])
      exact k t B _ (Same.trans s1 St) upd_same (St _ _ eB)
end
end K82
end

section
set_option maxHeartbeats 4000000
/-! d.setdefault(k, v) as a call; sum(d.values()) -/
namespace K82
open PySem PySem.Spec PyProof.Rows L2
section
variable {X : Cx}
theorem mt_setdefault : MtR X "dict.setdefault" rSetd := by
  intro pins s σ H x vs v us Q I rx rv h
  obtain ⟨a, kvs, k, d, rfl, rfl, ea, hl, there, new⟩ := h
  obtain rfl : v = Value.ref a := rx
  obtain ⟨u1, u2, rfl, ry, rd⟩ := vals2 rv
  obtain ⟨z, hd, vs0, rel, dd⟩ := dk_of I.hok ea
  have hz : vs0.length ≤ sizeLine := by rw [← rel.length]; exact z
  have rr := rel.val k
  refine call_meetsIn PySem.F.slot_dict_setdefault dd.typeIs PySem.F.entry_dict_setdefault (PySem.F.args_dict_setdefault_3 _ _ _) (kt_meets_setdefault (mixKind X.prog X.w) a (kV_is ry) hd u2) ⟨vs0, dd, hz, fun u hu => ?_, fun hn h' dd' hs => ?_⟩
  · rw [hu] at rr
    cases hv : valV kvs k with
    | none =>
      rw [hv] at rr
      exact rr.elim
    | some x =>
      rw [hv] at rr
      exact ⟨x, H, I.tok _, rr, there x hv⟩
  · rw [hn] at rr
    cases hv : valV kvs k with
    | some x =>
      rw [hv] at rr
      exact rr.elim
    | none =>
      have few := length_putK kvs k d
      have J := d_write (t' := s.toks + 1) I (by rw [ea]; exact True.intro) hs (let ⟨q, _, _, hq, _⟩ := dd'; ⟨q, hq⟩) (dk_new (by omega) hd (rel.put k rd) dd')
      exact ⟨d, _, J, rd, new hv⟩
/-- sum(o.values()), a dict of ints -/
def tSumVals (td : TE) : TE := fun σ H Q => td σ H fun x H1 => ∃ (a : Addr) (kvs : List (Key × V)) (is : List Int), x = V.ref a ∧ H1 a = some (.dK kvs) ∧ kvs.map (·.2) = is.map V.int ∧ Q (.int is.sum) H1
theorem preSum_take (is : List Int) : ∀ n, preSum (fun i => is.getD i 0) n = (is.take n).sum
  | 0 => by simp [preSum]
  | n + 1 => by
    rw [preSum, preSum_take is n]
    by_cases h : n < is.length
    · rw [List.take_add_one, List.getElem?_eq_getElem h, List.getD_eq_getElem?_getD, List.getElem?_eq_getElem h, List.sum_append]
      simp
    · rw [List.getD_eq_getElem?_getD, List.getElem?_eq_none (by omega), List.take_of_length_le (by omega), List.take_of_length_le (by omega)]
      simp
variable {o : Expr} {p pos apos mpos : Pos} {td : TE}
theorem pe_sumVals (hc : X.calm = true) (hg : Gl X "sum") (hm : X.mg "sum" = none) (hd : PE X o td) (hbase : attributeBase o "values" X.env (eval o X.env) = eval o X.env := by rfl) (hline : (apos.endLine == mpos.line) = true := by rfl)
    (hse : starEach [Expr.Call (.Attribute o "values" apos) [] [] mpos] X.env = [(false, eval (Expr.Call (.Attribute o "values" apos) [] [] mpos) X.env)] := by rfl) :
    PE X (.Call (.Name "sum" p) [.Call (.Attribute o "values" apos) [] [] mpos] [] pos) (tSumVals td) := by
  refine ⟨fun pins s σ H Q I h => ?_⟩
  refine wpAny_Call_Name_kw (ld_blt I hg hm (u := .builtin "sum") (by first | rfl | decide +kernel) ?_ (by first | decide +kernel | decide) (by first | decide +kernel | decide))
  rw [hse]
  refine PySem.callWith_builtin1 (wpAny_Call_method0_late hbase hline (thn (hd.run pins s σ H _ I h) fun v s1 ⟨x, H1, I1, r1, a, kvs, is, ex, ha, hv, q⟩ => ?_))
  subst ex
  obtain rfl : v = Value.ref a := r1
  obtain ⟨_, hsys, vs, rel, dof⟩ := dk_of I1.hok ha
  obtain ⟨ep, dat⟩ := dof.dictAt
  obtain ⟨ob, es, ho, ex, _⟩ := id dat
  refine ⟨"dict", "dict.values", F.plainAttrs_dict, F.slot_dict_values, F.type_dict_values, ⟨ob, ho, ex.1⟩, fun b e => ?_, Calls.callWith_builtin rfl (PySem.evalArgs_none ?_)⟩
  · cases e
    exact ⟨ob, ho, ex.2.1⟩
  refine call_meetsIn F.slot_dict_values ⟨ob, ho, ex.1⟩ F.entry_dict_values (F.args_dict_values_1 _) (meets_dict_values (mixKind X.prog X.w) a hsys) ⟨⟨vs, dof⟩, ?_⟩
  obtain ⟨hp1, e1⟩ : ∃ hp1, hp1 = s1.heap.push { cls := .type "dict_values", data := .fields #[.ref a] } := ⟨_, rfl⟩
  have k1 : ∀ b u, s1.heap.get? b = some u → hp1.get? b = some u := fun b u e => by rw [e1]; exact Heap.get?_push_of_some _ e
  have g1 : hp1.get? s1.heap.objs.size = some { cls := .type "dict_values", data := .fields #[.ref a] } := by rw [e1]; exact Heap.get?_push_size _ rfl
  have sz : hp1.objs.size = s1.heap.objs.size + 1 := by rw [e1]; exact Heap.size_push _ _
  rw [← e1]
  have dat1 : hp1.DictAt (mixKind X.prog X.w) a vs ep := dat.keep k1
  have hlv : vs.length = is.length := by
    have e2 := congrArg List.length hv
    rw [List.length_map, List.length_map] at e2
    rw [← e2]
    exact (KV.length rel).symm
  have hval : ∀ (i : Nat) (v : Value), (∃ k, vs[i]? = some (k, v)) → ∃ t, v = Value.int (is.getD i 0) t := fun i v ⟨k, hk⟩ => by
    obtain ⟨x, h1, h2⟩ := KV.at' rel hk
    have e2 : (kvs.map (·.2))[i]? = some x := by rw [List.getElem?_map, h1]; rfl
    rw [hv, List.getElem?_map] at e2
    obtain ⟨j, hj, e3⟩ := Option.map_eq_some_iff.mp e2
    subst e3
    obtain ⟨t, e4⟩ := h2
    refine ⟨t, ?_⟩
    rw [e4, List.getD_eq_getElem?_getD, hj]
    rfl
  have hlt : a < s1.heap.objs.size := Heap.lt_size ho
  refine call_sum_walkG (wpAny_pyIter_values (v := s1.heap.objs.size) (d := a) ⟨_, g1, rfl, rfl⟩ dat1 ?_)
  refine ⟨_, _, _, _, _, _, fun i => is.getD i 0, rfl, Walks.dictValues (knd := mixKind X.prog X.w) (A := X.A.in1) (I.ok.hd hc) hp1.objs.size a (by rw [sz]; exact Nat.ne_of_lt (Nat.lt_succ_of_lt hlt)) vs ep, ⟨⟨_, Heap.get?_push_size _ rfl, rfl, rfl⟩, dat1.keep fun b u e => Heap.get?_push_of_some _ e⟩, fun b hb => ?_, hval, fun h' tk t' hk => ?_⟩
  · show b < (hp1.push _).objs.size
    rw [Heap.size_push]
    rcases List.mem_cons.mp hb with e | hb
    · rw [e]
      exact Nat.lt_succ_self _
    · have e : b = a := List.mem_singleton.mp hb
      rw [e, sz]
      exact Nat.lt_succ_of_lt (Nat.lt_succ_of_lt hlt)
  · refine ⟨.int _, H1, I1.kept (t' := tk) fun b u e => hk b u (fun hmem => ?_) (Heap.get?_push_of_some _ (k1 b u e)), ⟨t', rfl⟩, ?_⟩
    · have e2 : b = hp1.objs.size := List.mem_singleton.mp hmem
      have e3 := Heap.lt_size e
      rw [e2, sz] at e3
      exact absurd e3 (Nat.not_lt.mpr (Nat.le_succ _))
    · rw [preSum_take, hlv, List.take_of_length_le (Nat.le_refl _)]
      exact q
end
end K82
end

section
set_option maxHeartbeats 4000000
/-! groups of a row: which words have a block and lead on; as they stand in the heap -/
namespace K82
open PySem PySem.Spec PyProof.Rows L2
theorem intsV_length (l : List Nat) : (intsV l).length = l.length := List.length_map ..
def wordsOf (row : List (Str × Nat)) (b : Str) (t j : Nat) : List Nat := (List.range j).filter fun w => decide (row[w]? = some (b, t))
theorem mem_words {row : List (Str × Nat)} {b : Str} {t j w : Nat} : w ∈ wordsOf row b t j ↔ w < j ∧ row[w]? = some (b, t) := by
  unfold wordsOf
  rw [List.mem_filter, List.mem_range, decide_eq_true_eq]
theorem words_succ (row : List (Str × Nat)) (b : Str) (t j : Nat) : wordsOf row b t (j + 1) = if row[j]? = some (b, t) then wordsOf row b t j ++ [j] else wordsOf row b t j := by
  unfold wordsOf
  rw [List.range_succ, List.filter_append]
  by_cases h : row[j]? = some (b, t)
  · rw [if_pos h, List.filter_cons_of_pos (by simpa using h)]
    rfl
  · rw [if_neg h, List.filter_cons_of_neg (by simpa using h)]
    simp
def hasB (row : List (Str × Nat)) (b : Str) (j : Nat) : Prop := ∃ w t, w < j ∧ row[w]? = some (b, t)
theorem hasB_succ {row : List (Str × Nat)} {b b' : Str} {t j : Nat} (h : row[j]? = some (b, t)) : hasB row b' (j + 1) ↔ hasB row b' j ∨ b' = b := by
  constructor
  · rintro ⟨w, t', hw, e⟩
    by_cases z : w < j
    · exact .inl ⟨w, t', z, e⟩
    · have : w = j := by omega
      subst this
      rw [h] at e
      cases e
      exact .inr rfl
  · rintro (⟨w, t', hw, e⟩ | rfl)
    · exact ⟨w, t', by omega, e⟩
    · exact ⟨j, t, by omega, h⟩
theorem hasB_words {row : List (Str × Nat)} {b : Str} {j : Nat} (h : hasB row b j) : ∃ t, wordsOf row b t j ≠ [] := by
  obtain ⟨w, t, hw, e⟩ := h
  exact ⟨t, List.ne_nil_of_mem (mem_words.mpr ⟨hw, e⟩)⟩
theorem words_hasB {row : List (Str × Nat)} {b : Str} {t j : Nat} (h : wordsOf row b t j ≠ []) : hasB row b j := by
  obtain ⟨w, hw⟩ := List.exists_mem_of_ne_nil _ h
  obtain ⟨h1, h2⟩ := mem_words.mp hw
  exact ⟨w, t, h1, h2⟩
theorem intsV_inj : ∀ {l m : List Nat}, intsV l = intsV m → l = m
  | [], [], _ => rfl
  | [], _ :: _, h => by cases h
  | _ :: _, [], h => by cases h
  | x :: l, y :: m, h => by
    have h' : V.int (x : Int) :: intsV l = V.int (y : Int) :: intsV m := h
    injection h' with h1 h2
    injection h1 with h3
    rw [intsV_inj h2, Int.ofNat.inj h3]
theorem words_inj {row : List (Str × Nat)} {b b' : Str} {t t' j : Nat} (n : wordsOf row b t j ≠ []) (h : wordsOf row b t j = wordsOf row b' t' j) : b = b' ∧ t = t' := by
  obtain ⟨w, hw⟩ := List.exists_mem_of_ne_nil _ n
  have e1 := (mem_words.mp hw).2
  rw [h] at hw
  have e2 := (mem_words.mp hw).2
  rw [e1] at e2
  cases e2
  exact ⟨rfl, rfl⟩
/-- whole numbers as keys, each once -/
def IntKeys (hk : List (Key × V)) : Prop := (hk.map (·.1)).Nodup ∧ ∀ k ∈ hk.map (·.1), ∃ t : Nat, k = .inl (t : Int)
theorem IntKeys.nil : IntKeys [] := ⟨by simp, fun k h => by cases h⟩
theorem IntKeys.put {hk : List (Key × V)} (h : IntKeys hk) (t : Nat) (v : V) : IntKeys (putK hk (.inl (t : Int)) v) := by
  unfold putK
  split
  · rename_i z
    have e : (hk.map fun kv => if kv.1 = .inl (t : Int) then (kv.1, v) else kv).map (·.1) = hk.map (·.1) := by
      rw [List.map_map]
      refine List.map_congr_left fun kv _ => ?_
      show (if kv.1 = .inl (t : Int) then (kv.1, v) else kv).1 = kv.1
      split <;> rfl
    unfold IntKeys
    rw [e]
    exact h
  · rename_i z
    rw [valV_any] at z
    have nv : valV hk (.inl (t : Int)) = none := by
      cases e : valV hk (.inl (t : Int)) with
      | none => rfl
      | some u => rw [e] at z; exact absurd rfl z
    have ni := valV_not nv
    refine ⟨?_, fun k hm => ?_⟩
    · rw [List.map_append, List.nodup_append]
      refine ⟨h.1, by simp, fun a ha b hb => ?_⟩
      have eb : b = .inl (t : Int) := by simpa using hb
      intro ab
      rw [ab, eb] at ha
      exact ni ha
    · rw [List.map_append] at hm
      rcases List.mem_append.mp hm with z | z
      · exact h.2 k z
      · exact ⟨t, by simpa using z⟩
/-- the words of a block, by the states to which they lead; H0: where nothing of it stood yet -/
def SubJ (H0 H : Hp) (h : Addr) (row : List (Str × Nat)) (b : Str) (j : Nat) : Prop := H0 h = none ∧ ∃ hk : List (Key × V), H h = some (.dK hk) ∧ hk.length ≤ j ∧ IntKeys hk ∧
  ∀ t : Nat, (wordsOf row b t j = [] → valV hk (.inl (t : Int)) = none) ∧ (wordsOf row b t j ≠ [] → ∃ l, H0 l = none ∧ valV hk (.inl (t : Int)) = some (.ref l) ∧ H l = some (.lst (intsV (wordsOf row b t j))))
/-- texts as keys, each once -/
def StrKeys (hk : List (Key × V)) : Prop := (hk.map (·.1)).Nodup ∧ ∀ k ∈ hk.map (·.1), ∃ b : Str, k = .inr b
theorem StrKeys.nil : StrKeys [] := ⟨by simp, fun k h => by cases h⟩
theorem StrKeys.put {hk : List (Key × V)} (h : StrKeys hk) (b : Str) (v : V) : StrKeys (putK hk (.inr b) v) := by
  unfold putK
  split
  · rename_i z
    have e : (hk.map fun kv => if kv.1 = .inr b then (kv.1, v) else kv).map (·.1) = hk.map (·.1) := by
      rw [List.map_map]
      refine List.map_congr_left fun kv _ => ?_
      show (if kv.1 = .inr b then (kv.1, v) else kv).1 = kv.1
      split <;> rfl
    unfold StrKeys
    rw [e]
    exact h
  · rename_i z
    rw [valV_any] at z
    have nv : valV hk (.inr b) = none := by
      cases e : valV hk (.inr b) with
      | none => rfl
      | some u => rw [e] at z; exact absurd rfl z
    have ni := valV_not nv
    refine ⟨?_, fun k hm => ?_⟩
    · rw [List.map_append, List.nodup_append]
      refine ⟨h.1, by simp, fun a ha b' hb => ?_⟩
      have eb : b' = .inr b := by simpa using hb
      intro ab
      rw [ab, eb] at ha
      exact ni ha
    · rw [List.map_append] at hm
      rcases List.mem_append.mp hm with z | z
      · exact h.2 k z
      · exact ⟨b, by simpa using z⟩
def GL (kvs : List (Key × V)) (j : Nat) : Prop := kvs.length ≤ j ∧ StrKeys kvs
theorem GL.zero : GL [] 0 := ⟨Nat.le_refl _, StrKeys.nil⟩
theorem GL.up {kvs : List (Key × V)} {j : Nat} (h : GL kvs j) : GL kvs (j + 1) := ⟨Nat.le_succ_of_le h.1, h.2⟩
theorem GL.put {kvs : List (Key × V)} {j : Nat} (h : GL kvs j) (b : Str) (v : V) : GL (putK kvs (.inr b) v) (j + 1) := ⟨by have := h.1; have := length_putK kvs (.inr b) v; omega, h.2.put b v⟩
def GrpJ (H0 H : Hp) (g : Addr) (row : List (Str × Nat)) (j : Nat) : Prop := H0 g = none ∧ ∃ kvs : List (Key × V), H g = some (.dK kvs) ∧ GL kvs j ∧
  ∀ b : Str, (¬ hasB row b j → valV kvs (.inr b) = none) ∧ (hasB row b j → ∃ h, valV kvs (.inr b) = some (.ref h) ∧ SubJ H0 H h row b j)
theorem GrpJ.zero {H0 H : Hp} {g : Addr} {row : List (Str × Nat)} (n : H0 g = none) (e : H g = some (.dK [])) : GrpJ H0 H g row 0 :=
  ⟨n, [], e, GL.zero, fun b => ⟨fun _ => rfl, fun ⟨w, t, hw, _⟩ => absurd hw (Nat.not_lt_zero _)⟩⟩
section
variable {H0 H : Hp} {g h h' l l' : Addr} {row : List (Str × Nat)} {b b' : Str} {t t' j : Nat} {kvs hk hk' : List (Key × V)}
/-- a block's dict is not the group's -/
theorem sub_ne_grp (eg : H g = some (.dK kvs)) (v : valV kvs (.inr b) = some (.ref h)) (S : SubJ H0 H h' row b' j) : h' ≠ g := fun z => by
  obtain ⟨_, hk, e, _, ik, _⟩ := S
  rw [z, eg] at e
  cases e
  obtain ⟨t, et⟩ := ik.2 _ (valV_in v)
  cases et
/-- lists of different words are different lists -/
theorem list_ne (n : wordsOf row b t j ≠ []) (e : H l = some (.lst (intsV (wordsOf row b t j)))) (e' : H l' = some (.lst (intsV (wordsOf row b' t' j)))) (d : ¬ (b = b' ∧ t = t')) : l ≠ l' := fun z => by
  rw [z, e'] at e
  have e2 := intsV_inj (HO.lst.inj (Option.some.inj e))
  exact d (words_inj n e2.symm)
/-- dicts of different blocks are different dicts -/
theorem sub_ne (S : SubJ H0 H h row b j) (S' : SubJ H0 H h' row b' j) (hb : hasB row b j) (d : b ≠ b') : h ≠ h' := fun z => by
  obtain ⟨_, hk, e, _, _, k⟩ := S
  obtain ⟨_, hk', e', _, _, k'⟩ := S'
  rw [z, e'] at e
  cases e
  obtain ⟨t, nt⟩ := hasB_words hb
  obtain ⟨l, _, v, el⟩ := (k t).2 nt
  by_cases n' : wordsOf row b' t j = []
  · rw [(k' t).1 n'] at v
    cases v
  · obtain ⟨l', _, v', el'⟩ := (k' t).2 n'
    rw [v] at v'
    cases v'
    exact list_ne nt el el' (fun y => d y.1) rfl
/-- a block's dict where other things changed -/
theorem SubJ.keep {H' : Hp} (S : SubJ H0 H h row b j) (eh : ∀ u, H h = some u → H' h = some u) (el : ∀ l t, wordsOf row b t j ≠ [] → H l = some (.lst (intsV (wordsOf row b t j))) → H' l = some (.lst (intsV (wordsOf row b t j)))) : SubJ H0 H' h row b j := by
  obtain ⟨n, hk, e, ln, ik, k⟩ := S
  exact ⟨n, hk, eh _ e, ln, ik, fun t => ⟨(k t).1, fun nt => let ⟨l, n0, v, e2⟩ := (k t).2 nt; ⟨l, n0, v, el l t nt e2⟩⟩⟩
theorem words_other (hj : row[j]? = some (b, t)) (d : ¬ (b' = b ∧ t' = t)) : wordsOf row b' t' (j + 1) = wordsOf row b' t' j := by
  rw [words_succ, if_neg (fun z => d (by rw [hj] at z; cases z; exact ⟨rfl, rfl⟩))]
theorem words_this (hj : row[j]? = some (b, t)) : wordsOf row b t (j + 1) = wordsOf row b t j ++ [j] := by rw [words_succ, if_pos hj]
/-- a block's dict of another block: one word more -/
theorem SubJ.other (S : SubJ H0 H h row b' j) (hj : row[j]? = some (b, t)) (d : b' ≠ b) : SubJ H0 H h row b' (j + 1) := by
  obtain ⟨n, hk, e, ln, ik, k⟩ := S
  refine ⟨n, hk, e, by omega, ik, fun t' => ?_⟩
  rw [words_other hj (fun y => d y.1)]
  exact k t'
theorem intsV_snoc (l : List Nat) (x : Nat) : intsV (l ++ [x]) = intsV l ++ [V.int (x : Nat)] := by simp [intsV]
/-- the block's own dict, the list there -/
theorem SubJ.more {H' : Hp} (S : SubJ H0 H h row b j) (hj : row[j]? = some (b, t)) {l : Addr} (v : ∀ hk, H h = some (.dK hk) → valV hk (.inl (t : Int)) = some (.ref l)) (nw : wordsOf row b t j ≠ []) (eh : ∀ u, H h = some u → H' h = some u)
    (el : H' l = some (.lst (intsV (wordsOf row b t j ++ [j])))) (eo : ∀ l' t', t' ≠ t → wordsOf row b t' j ≠ [] → H l' = some (.lst (intsV (wordsOf row b t' j))) → H' l' = some (.lst (intsV (wordsOf row b t' j)))) : SubJ H0 H' h row b (j + 1) := by
  obtain ⟨n, hk, e, ln, ik, k⟩ := S
  refine ⟨n, hk, eh _ e, by omega, ik, fun t' => ?_⟩
  by_cases z : t' = t
  · subst z
    rw [words_this hj]
    obtain ⟨l0, n0, v0, _⟩ := (k t').2 nw
    have v' := v hk e
    rw [v0] at v'
    cases v'
    exact ⟨fun y => absurd y (by simp), fun _ => ⟨l, n0, v0, el⟩⟩
  · rw [words_other hj (fun y => z y.2)]
    exact ⟨(k t').1, fun nt => let ⟨l', n0, v0, e2⟩ := (k t').2 nt; ⟨l', n0, v0, eo l' t' z nt e2⟩⟩
/-- the block's own dict (which may be new), a new list there -/
theorem SubJ.fresh {H' : Hp} (n : H0 h = none) (ln : hk.length ≤ j) (ik : IntKeys hk) (k : ∀ t : Nat, (wordsOf row b t j = [] → valV hk (.inl (t : Int)) = none) ∧ (wordsOf row b t j ≠ [] → ∃ l, H0 l = none ∧ valV hk (.inl (t : Int)) = some (.ref l) ∧ H l = some (.lst (intsV (wordsOf row b t j)))))
    (hj : row[j]? = some (b, t)) (nw : wordsOf row b t j = []) (nl : H0 l = none) (eh : H' h = some (.dK (putK hk (.inl (t : Int)) (.ref l)))) (el : H' l = some (.lst [V.int (j : Nat)]))
    (eo : ∀ l' t', t' ≠ t → wordsOf row b t' j ≠ [] → H l' = some (.lst (intsV (wordsOf row b t' j))) → H' l' = some (.lst (intsV (wordsOf row b t' j)))) : SubJ H0 H' h row b (j + 1) := by
  refine ⟨n, _, eh, by have := length_putK hk (.inl (t : Int)) (.ref l); omega, ik.put t _, fun t' => ?_⟩
  rw [valV_put]
  by_cases z : t' = t
  · subst z
    rw [words_this hj, nw, if_pos rfl]
    exact ⟨(fun y => by cases y), fun _ => ⟨l, nl, rfl, el⟩⟩
  · have z2 : ¬ ((.inl (t' : Int) : Key) = .inl (t : Int)) := fun y => z (by have := Sum.inl.inj y; omega)
    rw [words_other hj (fun y => z y.2), if_neg z2]
    exact ⟨(k t').1, fun nt => let ⟨l', n0, v0, e2⟩ := (k t').2 nt; ⟨l', n0, v0, eo l' t' z nt e2⟩⟩
end
end K82
end

section
set_option maxHeartbeats 4000000
/-! one word is put into the groups -/
namespace K82
open PySem PySem.Spec PyProof.Rows L2
/-- behind the first setdefault: the block's dict stands at h -/
structure MidA (H0 H : Hp) (g h : Addr) (row : List (Str × Nat)) (b : Str) (j : Nat) (kvs hk : List (Key × V)) : Prop where
  ng : H0 g = none
  nh : H0 h = none
  eg : H g = some (.dK kvs)
  eh : H h = some (.dK hk)
  lg : GL kvs (j + 1)
  lh : hk.length ≤ j
  vb : valV kvs (.inr b) = some (.ref h)
  ik : IntKeys hk
  own : ∀ t : Nat, (wordsOf row b t j = [] → valV hk (.inl (t : Int)) = none) ∧ (wordsOf row b t j ≠ [] → ∃ l, H0 l = none ∧ valV hk (.inl (t : Int)) = some (.ref l) ∧ H l = some (.lst (intsV (wordsOf row b t j))))
  oth : ∀ b' : Str, b' ≠ b → (¬ hasB row b' j → valV kvs (.inr b') = none) ∧ (hasB row b' j → ∃ h', valV kvs (.inr b') = some (.ref h') ∧ h' ≠ h ∧ h' ≠ g ∧ SubJ H0 H h' row b' j)
  same : Same H0 H
  hg : h ≠ g
section
variable {H0 H : Hp} {g h l : Addr} {row : List (Str × Nat)} {b : Str} {t j : Nat} {kvs hk : List (Key × V)}
theorem SubJ.up {a : Addr} {o : HO} (S : SubJ H0 H h row b j) (na : h ≠ a) (nl : ∀ l t, wordsOf row b t j ≠ [] → H l = some (.lst (intsV (wordsOf row b t j))) → l ≠ a) : SubJ H0 (upd H a o) h row b j :=
  S.keep (fun u e => by rw [upd_ne na]; exact e) fun l t n e => by rw [upd_ne (nl l t n e)]; exact e
/-- the block is known -/
theorem GrpJ.mid_known (G : GrpJ H0 H g row j) (s : Same H0 H) (hb : hasB row b j) {e : Addr} (he : H e = none) {kvs : List (Key × V)} (ek : H g = some (.dK kvs)) :
    ∃ h hk, valV kvs (.inr b) = some (.ref h) ∧ MidA H0 (upd H e (.dK [])) g h row b j kvs hk := by
  obtain ⟨ng, kvs', eg, lg, k⟩ := G
  rw [ek] at eg
  cases eg
  obtain ⟨h, vb, S⟩ := (k b).2 hb
  have hg := sub_ne_grp ek vb S
  obtain ⟨nh, hk, eh, lh, ik, own⟩ := id S
  have Se := Same.new he (o := .dK [])
  refine ⟨h, hk, vb, ⟨ng, nh, Se _ _ ek, Se _ _ eh, lg.up, lh, vb, ik, fun t => ⟨(own t).1, fun n => ?_⟩, fun b' d => ⟨(k b').1, fun hb' => ?_⟩, Same.trans s Se, hg⟩⟩
  · obtain ⟨l, n0, v, el⟩ := (own t).2 n
    exact ⟨l, n0, v, Se _ _ el⟩
  · obtain ⟨h', v', S'⟩ := (k b').2 hb'
    exact ⟨h', v', sub_ne S' S hb' d, sub_ne_grp ek v' S', S'.keep (fun u e => Se _ _ e) fun l t n e => Se _ _ e⟩
/-- the block is new -/
theorem GrpJ.mid_new (G : GrpJ H0 H g row j) (s : Same H0 H) (hb : ¬ hasB row b j) {e : Addr} (he : H e = none) {kvs : List (Key × V)} (ek : H g = some (.dK kvs)) :
    valV kvs (.inr b) = none ∧ MidA H0 (upd (upd H e (.dK [])) g (.dK (putK kvs (.inr b) (.ref e)))) g e row b j (putK kvs (.inr b) (.ref e)) [] := by
  obtain ⟨ng, kvs', eg, lg, k⟩ := G
  rw [ek] at eg
  cases eg
  have vb := (k b).1 hb
  have Se := Same.new he (o := .dK [])
  have neg : e ≠ g := (ne_of_none ek he).symm
  have ne0 : H0 e = none := by
    cases z : H0 e with
    | none => rfl
    | some u => rw [s _ _ z] at he; cases he
  have nw : ∀ t, wordsOf row b t j = [] := fun t => by
    by_cases z : wordsOf row b t j = []
    · exact z
    · exact absurd (words_hasB z) hb
  have up : ∀ a u, a ≠ g → H a = some u → (upd (upd H e (.dK [])) g (.dK (putK kvs (.inr b) (.ref e)))) a = some u := fun a u n z => by rw [upd_ne n]; exact Se _ _ z
  refine ⟨vb, ⟨ng, ne0, upd_same, by rw [upd_ne neg, upd_same], lg.put b _, Nat.zero_le _, by rw [valV_put, if_pos rfl], IntKeys.nil, fun t => ⟨fun _ => rfl, fun n => absurd (nw t) n⟩, fun b' d => ?_, fun a u z => ?_, neg⟩⟩
  · have d2 : ¬ ((.inr b' : Key) = .inr b) := fun z => d (Sum.inr.inj z)
    rw [valV_put, if_neg d2]
    refine ⟨(k b').1, fun hb' => ?_⟩
    obtain ⟨h', v', S'⟩ := (k b').2 hb'
    have ng' := sub_ne_grp ek v' S'
    obtain ⟨_, hk', eh', _⟩ := id S'
    refine ⟨h', v', ne_of_none eh' he, ng', S'.keep (fun u z => up _ _ ng' z) fun l t n z => up _ _ (fun y => ?_) z⟩
    rw [y, ek] at z
    cases z
  · rw [upd_ne (ne_of_none z ng)]
    exact Se _ _ (s _ _ z)
theorem none_back (s : Same H0 H) {a : Addr} (e : H a = none) : H0 a = none := by
  cases z : H0 a with
  | none => rfl
  | some u => rw [s _ _ z] at e; cases e
/-- behind the second setdefault and append: the list was there -/
theorem MidA.more (M : MidA H0 H g h row b j kvs hk) (hj : row[j]? = some (b, t)) (nw : wordsOf row b t j ≠ []) (hl : H l = none) :
    ∃ l0, valV hk (.inl (t : Int)) = some (.ref l0) ∧ (upd H l (.lst [])) l0 = some (.lst (intsV (wordsOf row b t j))) ∧
      GrpJ H0 (upd (upd H l (.lst [])) l0 (.lst (intsV (wordsOf row b t j) ++ [V.int (j : Nat)]))) g row (j + 1) ∧ Same H0 (upd (upd H l (.lst [])) l0 (.lst (intsV (wordsOf row b t j) ++ [V.int (j : Nat)]))) := by
  obtain ⟨l0, n0, v0, el0⟩ := (M.own t).2 nw
  have Sl := Same.new hl (o := .lst [])
  have up : ∀ a u, a ≠ l0 → H a = some u → (upd (upd H l (.lst [])) l0 (.lst (intsV (wordsOf row b t j) ++ [V.int (j : Nat)]))) a = some u := fun a u n z => by rw [upd_ne n]; exact Sl _ _ z
  have gl : g ≠ l0 := fun z => by rw [← z, M.eg] at el0; cases el0
  have hl0 : h ≠ l0 := fun z => by rw [← z, M.eh] at el0; cases el0
  have S : SubJ H0 H h row b j := ⟨M.nh, hk, M.eh, M.lh, M.ik, M.own⟩
  have S2 : SubJ H0 (upd (upd H l (.lst [])) l0 (.lst (intsV (wordsOf row b t j) ++ [V.int (j : Nat)]))) h row b (j + 1) := by
    refine S.more hj (l := l0) (fun hk' e => ?_) nw (fun u z => up _ _ hl0 z) (by rw [upd_same, intsV_snoc]) fun l' t' d n e => up _ _ (list_ne n e el0 fun z => d z.2) e
    rw [M.eh] at e
    cases e
    exact v0
  refine ⟨l0, v0, Sl _ _ el0, ⟨M.ng, kvs, up _ _ gl M.eg, M.lg, fun b' => ?_⟩, fun a u z => ?_⟩
  · rw [hasB_succ hj]
    by_cases d : b' = b
    · subst d
      exact ⟨fun z => absurd (.inr rfl) z, fun _ => ⟨h, M.vb, S2⟩⟩
    · obtain ⟨o1, o2⟩ := M.oth b' d
      refine ⟨fun z => o1 (fun y => z (.inl y)), fun z => ?_⟩
      obtain ⟨h', v', nh', ng', S'⟩ := o2 (z.resolve_right d)
      obtain ⟨_, _, eh', _⟩ := id S'
      exact ⟨h', v', (S'.keep (fun u z => up _ _ (fun y => by rw [y, el0] at eh'; cases eh') z) fun l' t' n e => up _ _ (list_ne n e el0 fun y => d y.1) e).other hj d⟩
  · rw [upd_ne (ne_of_none z n0)]
    exact Sl _ _ (M.same _ _ z)
/-- .. the list is new -/
theorem MidA.less (M : MidA H0 H g h row b j kvs hk) (hj : row[j]? = some (b, t)) (nw : wordsOf row b t j = []) (hl : H l = none) :
    valV hk (.inl (t : Int)) = none ∧ (upd (upd H l (.lst [])) h (.dK (putK hk (.inl (t : Int)) (.ref l)))) l = some (.lst []) ∧
      GrpJ H0 (upd (upd (upd H l (.lst [])) h (.dK (putK hk (.inl (t : Int)) (.ref l)))) l (.lst ([] ++ [V.int (j : Nat)]))) g row (j + 1) ∧
      Same H0 (upd (upd (upd H l (.lst [])) h (.dK (putK hk (.inl (t : Int)) (.ref l)))) l (.lst ([] ++ [V.int (j : Nat)]))) := by
  have Sl := Same.new hl (o := .lst [])
  have nlh : h ≠ l := ne_of_none M.eh hl
  have n0 := none_back M.same hl
  have up : ∀ a u, a ≠ h → H a = some u → (upd (upd (upd H l (.lst [])) h (.dK (putK hk (.inl (t : Int)) (.ref l)))) l (.lst ([] ++ [V.int (j : Nat)]))) a = some u := fun a u n z => by
    rw [upd_ne (ne_of_none z hl), upd_ne n]
    exact Sl _ _ z
  have lst_h : ∀ l' xs, H l' = some (.lst xs) → l' ≠ h := fun l' xs e z => by rw [z, M.eh] at e; cases e
  have S2 : SubJ H0 (upd (upd (upd H l (.lst [])) h (.dK (putK hk (.inl (t : Int)) (.ref l)))) l (.lst ([] ++ [V.int (j : Nat)]))) h row b (j + 1) :=
    SubJ.fresh (H := H) (hk := hk) (l := l) M.nh M.lh M.ik M.own hj nw n0 (by rw [upd_ne nlh, upd_same]) upd_same fun l' t' _ n e => up _ _ (lst_h _ _ e) e
  refine ⟨(M.own t).1 nw, by rw [upd_ne nlh.symm, upd_same], ⟨M.ng, kvs, up _ _ M.hg.symm M.eg, M.lg, fun b' => ?_⟩, fun a u z => ?_⟩
  · rw [hasB_succ hj]
    by_cases d : b' = b
    · subst d
      exact ⟨fun z => absurd (.inr rfl) z, fun _ => ⟨h, M.vb, S2⟩⟩
    · obtain ⟨o1, o2⟩ := M.oth b' d
      refine ⟨fun z => o1 (fun y => z (.inl y)), fun z => ?_⟩
      obtain ⟨h', v', nh', ng', S'⟩ := o2 (z.resolve_right d)
      exact ⟨h', v', (S'.keep (fun u z => up _ _ nh' z) fun l' t' n e => up _ _ (lst_h _ _ e) e).other hj d⟩
  · rw [upd_ne (ne_of_none z n0), upd_ne (ne_of_none z M.nh)]
    exact Sl _ _ (M.same _ _ z)
end
end K82
end

section
set_option maxHeartbeats 4000000
/-! the groups of a coder -/
namespace K82
open PySem PySem.Spec PyProof.Rows L2
structure CoderP (K : PySem.W.Frag) (mg : Str → Option Value) (ad : Str → Addr) (fd : Str → FuncData) : Prop where
  pr : PropOf K (ad "Coder") "rate" (ad "Coder.rate!") (ad "Coder.rate")
  pl : PropOf K (ad "Coder") "lead" (ad "Coder.lead!") (ad "Coder.lead")
  m_codes : Meth K (ad "Coder") "codes" (ad "Coder.codes")
def GroupsAt (Hs H : Hp) (l : Addr) (c : Ch) : Prop := ∃ gs : List Addr, H l = some (.lst (gs.map V.ref)) ∧ gs.length = c.length ∧ ∀ (i : Nat) (g : Addr), gs[i]? = some g → ∃ r H0, Same Hs H0 ∧ c[i]? = some r ∧ GrpJ H0 H g r r.length
def spGroups (C R : Addr) : Sp := fun vs H Q _ => ∃ (a : Addr) (p q : Int) (c : Ch) (lead : Str), vs = [.ref a] ∧ CodO C R H a p q c lead ∧ c.length ≤ 1000 ∧ (∀ r ∈ c, 0 < r.length ∧ r.length ≤ 1000) ∧ ∀ (l : Addr) (H' : Hp), Same H H' → H l = none → GroupsAt H H' l c → Q (.ref l) H'
theorem tN {σ : L2.St} {H : Hp} {Q : List V → Hp → Prop} (h : Q [] H) : tNil σ H Q := h
theorem GrpJ.keepD {H0 H H' : Hp} {g D : Addr} {r : List (Str × Nat)} {j : Nat} {gs : List Addr} (G : GrpJ H0 H g r j) (eD : H D = some (.lst (gs.map V.ref))) (s : ∀ b o, b ≠ D → H b = some o → H' b = some o) : GrpJ H0 H' g r j := by
  obtain ⟨n, kvs, eg, lg, k⟩ := G
  have dk : ∀ a hk, H a = some (.dK hk) → a ≠ D := fun a hk e z => by rw [z, eD] at e; cases e
  refine ⟨n, kvs, s _ _ (dk _ _ eg) eg, lg, fun b => ⟨(k b).1, fun hb => ?_⟩⟩
  obtain ⟨h, v, S⟩ := (k b).2 hb
  obtain ⟨_, hk, eh, _⟩ := id S
  refine ⟨h, v, S.keep (fun u e => s _ _ (dk _ _ eh) e) fun l t nw e => s _ _ (fun z => ?_) e⟩
  rw [z, eD] at e
  have e2 := HO.lst.inj (Option.some.inj e)
  cases ew : wordsOf r b t j with
  | nil => exact nw ew
  | cons x xs =>
    rw [ew] at e2
    cases gs with
    | nil => cases e2
    | cons y ys =>
      have e3 : V.ref y :: ys.map V.ref = V.int (x : Nat) :: intsV xs := e2
      injection e3 with e4 _
      cases e4
section
variable {P : Program} {w : World} {K : PySem.W.Frag} {mg : Str → Option Value} {base : Heap} {ad : Str → Addr} {fd : Str → FuncData}
theorem scGroupsOf : FnScope ["coder", "groups", "entries", "group", "word", "block", "to"] ["coder"] (defScope sGroupsOf) := ⟨rfl, rfl, rfl, by decide +kernel, rfl, by decide +kernel, by decide +kernel⟩
theorem ok_groups_of (X : Tx K mg ad fd) (CC : CoderC K mg ad fd) (CM : CoderM K mg ad fd) (CP : CoderP K mg ad fd) : FnOk P w K mg base CX0 2 (ad "groups_of") (fd "groups_of") ["coder"] (spGroups (ad "Coder") (ad "Rate")) := by
  refine X.F_groups_of.ok scGroupsOf (fun vs H Q E h => ?_) (fun cdv A outer s H vs Q E hr h => ?_)
  · obtain ⟨a, p, q, c, lead, rfl, _⟩ := h
    rfl
  · obtain ⟨a, p, q, c, lead, rfl, cod, cl, rl, k⟩ := h
    have HR1 : Room 1 _ := hr
    have szL : sizeLine = 16777216 := sizeLine_eq
    refine ⟨_, (pss_cons (ps_set (i := 1) scGroupsOf.nd rfl (.inl rfl) (by exact (pe_lst pa_nil)))
  (pss_cons (ps_for PassesOwn.never rfl (pi_list (pe_meth0 (pv 0) CC.cl CP.m_codes (ok_ccodes X CC CM) HR1 CM.b_codes .nil pass0)) (pg_name (i := 2) scGroupsOf.nd rfl (.inl rfl))
  (pss_cons (ps_set (i := 3) scGroupsOf.nd rfl (.inl rfl) (by exact pe_dnewK))
  (pss_cons (ps_for PassesOwn.never rfl (pi_enum (by rfl) X.m_enumerate (pa_cons (pv 2) pa_nil)) (pg_tup rfl (pgs_cons (pg_name (i := 4) scGroupsOf.nd rfl (.inl rfl)) (pgs_cons (pg_tup rfl (pgs_cons (pg_name (i := 5) scGroupsOf.nd rfl (.inl rfl)) (pgs_cons (pg_name (i := 6) scGroupsOf.nd rfl (.inl rfl)) pgs_nil))) pgs_nil)))
  (pss_one (ps_expr (by exact (pe_bm PySem.F.plainAttrs_list PySem.F.slot_list_append PySem.F.type_list_append mt_append (pe_bm PySem.F.plainAttrs_dict PySem.F.slot_dict_setdefault PySem.F.type_dict_setdefault mt_setdefault (pe_bm PySem.F.plainAttrs_dict PySem.F.slot_dict_setdefault PySem.F.type_dict_setdefault mt_setdefault (pv 3) (pa_cons (pv 5) (pa_cons pe_dnewK pa_nil))) (pa_cons (pv 6) (pa_cons (pe_lst pa_nil) pa_nil))) (pa_cons (pv 4) pa_nil))))))
  (pss_one (ps_expr (by exact (pe_bm PySem.F.plainAttrs_list PySem.F.slot_list_append PySem.F.type_list_append mt_append (pv 1) (pa_cons (pv 3) pa_nil))))))))
  (pss_one (ps_ret (by exact (pv 1)))))), ?_⟩
    refine ⟨(by show 0 ≤ sizeLine; decide), fun D hD => ?_⟩
    have sD := Same.new hD (o := .lst [])
    have cod1 := cod.same sD
    obtain ⟨dx, r0, l0, eo, _, _⟩ := id cod1
    refine ⟨.ref a, rfl, a, dx, _, rfl, eo, rfl, a, p, q, c, lead, rfl, cod1, cl, fun L H2 s2 nL dL => ?_⟩
    obtain ⟨L', xs, eL', exs, all⟩ := dL.list
    cases eL'
    have lx : xs.length = c.length := by rw [all.length, List.length_map]
    have eD2 := s2 _ _ (upd_same (H := H) (a := D) (o := .lst []))
    have nLD : L ≠ D := fun z => by rw [z, upd_same] at nL; cases nL
    refine ⟨L, rfl, ⟨_, SqL.of exs⟩, ?_⟩
    refine for_it (w := walk_list (K := K) (a := L) (xs := xs)) (fun i σ H' => ∃ r2 r3 r4 r5 r6, σ = [some (.ref a), some (.ref D), r2, r3, r4, r5, r6] ∧ (∀ b o, b ≠ D → H2 b = some o → H' b = some o) ∧
      ∃ gs : List Addr, H' D = some (.lst (gs.map V.ref)) ∧ gs.length = i ∧ ∀ (m : Nat) (g : Addr), gs[m]? = some g → ∃ r H0, Same H H0 ∧ c[m]? = some r ∧ GrpJ H0 H' g r r.length)
      ⟨_, _, _, _, _, rfl, fun b o _ e => e, [], eD2, rfl, fun m g z => by cases z⟩ (fun i σ H' hi ⟨_, _, _, _, _, _, s, _⟩ => SqL.of (s _ _ nLD exs)) ?_ ?_
    · rintro i x σ H3x H3 hi ⟨r2, r3, r4, r5, r6, rfl, s3, gs, eD3, lg, kg⟩ ⟨rfl, hx⟩
      obtain ⟨d, hd2, dx2⟩ := all.from_ hx
      rw [List.getElem?_map] at hd2
      cases ew : c[i]? with
      | none => rw [ew] at hd2; cases hd2
      | some r =>
        rw [ew] at hd2
        cases hd2
        obtain ⟨b0, ws, rfl, eb, _⟩ := id dx2.list
        obtain ⟨ts, et, lt, kt⟩ := rowAt_of dx2
        have nbD : b0 ≠ D := fun z => by
          rw [z, eD2] at et
          have e2 := congrArg List.length (HO.lst.inj (Option.some.inj et))
          have rp := (rl r (List.mem_of_getElem? ew)).1
          rw [List.length_map, lt] at e2
          simp at e2
          omega
        have et3 := s3 _ _ nbD et
        refine fun g hg => ?_
        have rmax := (rl r (List.mem_of_getElem? ew)).2
        refine ⟨.ref b0, rfl, b0, _, rfl, SqL.of (Same.new hg _ _ et3), ?_⟩
        refine for_it (w := walk_enum (K := K) (a := b0) (xs := ts.map V.ref)) (fun j σ H' => ∃ r4 r5 r6, σ = [some (.ref a), some (.ref D), some (.ref b0), some (.ref g), r4, r5, r6] ∧ Same H3 H' ∧ GrpJ H3 H' g r j) ⟨_, _, _, rfl, Same.new hg, GrpJ.zero hg upd_same⟩ (fun j σ H' hj ⟨_, _, _, _, s, _⟩ => SqL.of (s _ _ et3)) ?_ ?_
        · rintro j x σ H4 H5 hj ⟨r4', r5', r6', rfl, s4, G4⟩ ⟨T, u1, u2, rfl, hT, rfl, e1, e2⟩
          cases e1
          rw [List.length_map] at hj
          obtain ⟨t, ht⟩ : ∃ t, ts[j]? = some t := ⟨ts[j], List.getElem?_eq_getElem hj⟩
          have e2 : (ts.map V.ref)[j]? = some u2 := e2
          rw [List.getElem?_map, ht] at e2
          cases e2
          obtain ⟨en, hen, eT⟩ := kt j t ht
          have tD : t ≠ D := fun z => by rw [z, eD2] at eT; cases eT
          have eT4 := s4 _ _ (s3 _ _ tD eT)
          have sT := Same.new hT (o := .tup [V.int (j : Int), V.ref t])
          have s5 := Same.trans s4 sT
          refine ⟨T, _, rfl, SqT.of upd_same, rfl, _, _, rfl, _, _, rfl, t, _, rfl, SqT.of (sT _ _ eT4), rfl, _, _, rfl, _, _, rfl, rfl, rfl, ?_⟩
          obtain ⟨b, t'⟩ := en
          have G5 : GrpJ H3 (upd H4 T (.tup [V.int (j : Int), V.ref t])) g r j := by
            obtain ⟨n, kvs, eg, lg', k'⟩ := G4
            refine ⟨n, kvs, sT _ _ eg, lg', fun b => ⟨(k' b).1, fun hb => ?_⟩⟩
            obtain ⟨h, v, S⟩ := (k' b).2 hb
            exact ⟨h, v, S.keep (fun u e => sT _ _ e) fun l t nw e => sT _ _ e⟩
          generalize (upd H4 T (.tup [V.int (j : Int), V.ref t])) = H5 at s5 G5 ⊢
          obtain ⟨_, kvs, eg, lg', _⟩ := id G5
          -- behind the first setdefault
          have step : ∀ (h : Addr) (kvs' hk : List (Key × V)) (H6 : Hp), MidA H3 H6 g h r b j kvs' hk → ∀ l, H6 l = none → ∀ (Qa : VK) (Kc : VK), (∀ H' v, Same H3 H' → GrpJ H3 H' g r (j + 1) → Qa v H') → (∀ y H7, tyV K "list" y H7 → rAppend y [.int (j : Int)] H7 Qa → Kc y H7) →
              rSetd (.ref h) [.int (t' : Nat), .ref l] (upd H6 l (.lst [])) Kc := fun h kvs' hk H6 M l hl Qa Kc hN hK => by
            have nlh : h ≠ l := ne_of_none M.eh hl
            refine ⟨h, hk, .inl (t' : Nat), .ref l, rfl, rfl, by rw [upd_ne nlh]; exact M.eh, by have := M.lh; omega, fun u vu => ?_, fun vn => ?_⟩
            · by_cases nw : wordsOf r b t' j = []
              · rw [(M.own t').1 nw] at vu
                cases vu
              · obtain ⟨l0, v0, el0, G6, s6⟩ := M.more hen nw hl
                rw [v0] at vu
                cases vu
                have wl : (wordsOf r b t' j).length ≤ j := by
                  unfold wordsOf
                  exact Nat.le_trans (List.length_filter_le ..) (by rw [List.length_range]; exact Nat.le_refl _)
                exact hK _ _ (.inl ⟨rfl, _, SqL.of el0⟩) ⟨l0, _, .int (j : Int), rfl, rfl, el0, by rw [intsV_length]; omega, hN _ _ s6 G6⟩
            · by_cases nw : wordsOf r b t' j = []
              · obtain ⟨_, el, G6, s6⟩ := M.less hen nw hl
                exact hK _ _ (.inl ⟨rfl, _, SqL.of el⟩) ⟨l, _, .int (j : Int), rfl, rfl, el, (by show 0 < sizeLine; decide), hN _ _ s6 G6⟩
              · obtain ⟨l0, _, v0, _⟩ := (M.own t').2 nw
                rw [v0] at vn
                cases vn
          refine ⟨.ref g, rfl, .inr (.inr (.inl ⟨rfl, .inl ⟨_, eg⟩⟩)), .str b, rfl, fun e he => ?_⟩
          have neg : g ≠ e := ne_of_none eg he
          have lg'' := lg'.1
          refine ⟨g, kvs, .inr b, .ref e, rfl, rfl, by rw [upd_ne neg]; exact eg, by omega, fun u vu => ?_, fun vn => ?_⟩
          · by_cases hb : hasB r b j
            · obtain ⟨h, hk, vb, M⟩ := G5.mid_known s5 hb he eg
              rw [vb] at vu
              cases vu
              refine ⟨.inr (.inr (.inl ⟨rfl, .inl ⟨_, M.eh⟩⟩)), _, rfl, (by show 0 ≤ sizeLine; decide), fun l hl => ?_⟩
              refine tN ?_
              refine step h _ hk _ M l hl _ _ ?_ fun y H7 ty ap => ⟨ty, _, rfl, tN ap⟩
              exact fun H' v s' G' => ⟨_, _, _, rfl, s', G'⟩
            · rw [(G5.mid_new s5 hb he eg).1] at vu
              cases vu
          · by_cases hb : hasB r b j
            · obtain ⟨h, hk, vb, M⟩ := G5.mid_known s5 hb he eg
              rw [vb] at vn
              cases vn
            · obtain ⟨_, M⟩ := G5.mid_new s5 hb he eg
              refine ⟨.inr (.inr (.inl ⟨rfl, .inl ⟨_, M.eh⟩⟩)), _, rfl, (by show 0 ≤ sizeLine; decide), fun l hl => ?_⟩
              refine tN ?_
              refine step e _ [] _ M l hl _ _ ?_ fun y H7 ty ap => ⟨ty, _, rfl, tN ap⟩
              exact fun H' v s' G' => ⟨_, _, _, rfl, s', G'⟩
        · rintro σ H4 ⟨r4', r5', r6', rfl, s4, G4⟩
          have eD4 := s4 _ _ eD3
          rw [List.length_map, lt] at G4
          refine ⟨.ref D, rfl, .inl ⟨rfl, _, SqL.of eD4⟩, .ref g, rfl, D, _, .ref g, rfl, rfl, eD4, by rw [List.length_map]; omega, ?_⟩
          refine ⟨_, _, _, _, _, rfl, fun b o n e => ?_, gs ++ [g], by rw [upd_same, List.map_append]; rfl, by rw [List.length_append, lg]; rfl, fun m g' hm => ?_⟩
          · rw [upd_ne n]
            exact s4 _ _ (s3 _ _ n e)
          · have kp : ∀ b o, b ≠ D → H4 b = some o → (upd H4 D (.lst (gs.map V.ref ++ [V.ref g]))) b = some o := fun b o n e => by rw [upd_ne n]; exact e
            by_cases hlt : m < gs.length
            · rw [List.getElem?_append_left hlt] at hm
              obtain ⟨r', H0, sH0, h1, G'⟩ := kg m g' hm
              refine ⟨r', H0, sH0, h1, GrpJ.keepD ?_ eD4 kp⟩
              obtain ⟨n, kvs, eg, lg', k'⟩ := G'
              refine ⟨n, kvs, s4 _ _ eg, lg', fun b => ⟨(k' b).1, fun hb => ?_⟩⟩
              obtain ⟨h, v, S⟩ := (k' b).2 hb
              exact ⟨h, v, S.keep (fun u e => s4 _ _ e) fun l t nw e => s4 _ _ e⟩
            · have em : m = gs.length := by
                have := (List.getElem?_eq_some_iff.mp hm).1
                rw [List.length_append] at this
                have : [g].length = 1 := rfl
                omega
              subst em
              rw [List.getElem?_append_right (Nat.le_refl _), Nat.sub_self] at hm
              cases hm
              exact ⟨r, H3, fun b o e => s3 _ _ (ne_of_none e hD) (s2 _ _ (sD _ _ e)), by rw [lg]; exact ew, G4.keepD eD4 kp⟩
    · rintro σ H3 ⟨r2, r3, r4, r5, r6, rfl, s3, gs, eD3, lg, kg⟩
      refine ⟨.ref D, rfl, k D H3 (fun b o e => ?_) hD ⟨gs, eD3, by omega, kg⟩⟩
      exact s3 _ _ (ne_of_none e hD) (s2 _ _ (sD _ _ e))
end
end K82
end

section
set_option maxHeartbeats 4000000
/-! rows cut into blocks -/
namespace K82
open PySem PySem.Spec PyProof.Rows L2
abbrev sL (z : Str) : List Nat := z.cps.toList
theorem sL_len (z : Str) : (sL z).length = z.length := by simp [sL, Str.length]
theorem sL_inj {x y : Str} (h : sL x = sL y) : x = y := by
  obtain ⟨a⟩ := x
  obtain ⟨b⟩ := y
  have : a = b := Array.toList_inj.mp h
  rw [this]
theorem sL_app (x y : Str) : sL (x ++ y) = sL x ++ sL y := by
  show (x.cps ++ y.cps).toList = _
  simp [sL]
def ofL (l : List Nat) : Str := ⟨l.toArray⟩
theorem sL_ofL (l : List Nat) : sL (ofL l) = l := by simp [sL, ofL]
theorem starts_iff (x y : Str) : Txt.startswith x y = decide ((sL x).take y.length = sL y) := by
  unfold Txt.startswith
  rw [StrLaws.subAt_eq, List.drop_zero]
  rw [Bool.eq_iff_iff]
  simp only [Bool.and_eq_true, decide_eq_true_eq, beq_iff_eq]
  constructor
  · rintro ⟨_, h⟩
    exact h
  · intro h
    refine ⟨?_, h⟩
    have e := congrArg List.length h
    rw [List.length_take, sL_len, sL_len] at e
    omega
def chunkL (q : Nat) : Nat → List Nat → List (List Nat)
  | 0, _ => []
  | n + 1, l => l.take q :: chunkL q n (l.drop q)
theorem chunkL_length (q : Nat) : ∀ n l, (chunkL q n l).length = n
  | 0, _ => rfl
  | n + 1, l => by rw [chunkL, List.length_cons, chunkL_length q n]
theorem chunkL_at {q : Nat} : ∀ {n i : Nat} {l : List Nat}, i < n → (chunkL q n l)[i]? = some ((l.drop (i * q)).take q)
  | 0, _, _, h => absurd h (Nat.not_lt_zero _)
  | n + 1, 0, l, _ => by rw [chunkL, Nat.zero_mul, List.drop_zero]; rfl
  | n + 1, i + 1, l, h => by
    rw [chunkL, List.getElem?_cons_succ, chunkL_at (by omega), List.drop_drop, Nat.succ_mul, Nat.add_comm q]
theorem chunkL_flat {q : Nat} : ∀ {bs : List (List Nat)}, (∀ b ∈ bs, b.length = q) → chunkL q bs.length bs.flatten = bs
  | [], _ => rfl
  | b :: bs, h => by
    have hb := h b (List.mem_cons_self ..)
    rw [List.length_cons, chunkL, List.flatten_cons, List.take_left' hb, List.drop_left' hb, chunkL_flat fun x hx => h x (List.mem_cons_of_mem _ hx)]
theorem flat_chunkL {q : Nat} : ∀ {n : Nat} {l : List Nat}, l.length = n * q → (chunkL q n l).flatten = l
  | 0, l, h => by
    rw [Nat.zero_mul] at h
    rw [List.eq_nil_of_length_eq_zero h]
    rfl
  | n + 1, l, h => by
    rw [Nat.succ_mul] at h
    rw [chunkL, List.flatten_cons, flat_chunkL (by rw [List.length_drop]; omega), List.take_append_drop]
theorem flat_len {q : Nat} : ∀ {bs : List (List Nat)}, (∀ b ∈ bs, b.length = q) → bs.flatten.length = bs.length * q
  | [], _ => by simp
  | b :: bs, h => by
    rw [List.flatten_cons, List.length_append, flat_len fun x hx => h x (List.mem_cons_of_mem _ hx), h b (List.mem_cons_self ..), List.length_cons, Nat.succ_mul]
    omega
/-- the blocks of a row behind the lead word -/
def blocksF (lead : Str) (q : Nat) (row : Str) : Option (List Str) :=
  if (sL row).take lead.length = sL lead ∧ (row.length - lead.length) % q = 0 then some ((chunkL q ((row.length - lead.length) / q) ((sL row).drop lead.length)).map ofL) else none
theorem blocksF_len {lead row : Str} {q : Nat} {bs : List Str} (h : blocksF lead q row = some bs) : bs.length = (row.length - lead.length) / q ∧ lead.length ≤ row.length := by
  unfold blocksF at h
  split at h
  · rename_i z
    cases h
    refine ⟨by rw [List.length_map, chunkL_length], ?_⟩
    have e := congrArg List.length z.1
    rw [List.length_take, sL_len, sL_len] at e
    omega
  · cases h
/-- a row is lead and blocks just if these are its blocks -/
theorem blocksF_iff {lead row : Str} {q : Nat} {bs : List Str} (hq : 0 < q) (hb : ∀ b ∈ bs, b.length = q) : blocksF lead q row = some bs ↔ sL row = sL lead ++ (bs.map sL).flatten := by
  have hb' : ∀ b ∈ bs.map sL, b.length = q := fun b h => by
    obtain ⟨x, hx, rfl⟩ := List.mem_map.mp h
    rw [sL_len]
    exact hb x hx
  constructor
  · intro h
    obtain ⟨l1, le⟩ := blocksF_len h
    unfold blocksF at h
    split at h
    · rename_i z
      have e := Option.some.inj h
      rw [← e, List.map_map]
      have e2 : (sL ∘ ofL) = id := funext fun l => sL_ofL l
      rw [e2, List.map_id, flat_chunkL (by
        rw [List.length_drop, sL_len]
        exact (Nat.div_mul_cancel (Nat.dvd_of_mod_eq_zero z.2)).symm)]
      rw [← z.1]
      exact (List.take_append_drop _ _).symm
    · cases h
  · intro h
    have ln := congrArg List.length h
    rw [sL_len, List.length_append, sL_len, flat_len hb', List.length_map] at ln
    have el : row.length - lead.length = bs.length * q := by omega
    unfold blocksF
    rw [if_pos ⟨by rw [h, List.take_left' (sL_len lead)], by rw [el]; exact Nat.mul_mod_left _ _⟩, el, Nat.mul_div_cancel _ hq, h, List.drop_left' (sL_len lead)]
    have e3 := chunkL_flat hb'
    rw [List.length_map] at e3
    rw [e3, List.map_map]
    have e2 : (ofL ∘ sL) = id := funext fun z => sL_inj (sL_ofL _)
    rw [e2, List.map_id]
end K82
end

section
set_option maxHeartbeats 4000000
/-! a coder is looked at; the blocks of a row -/
namespace K82
open PySem PySem.Spec PyProof.Rows L2
/-- what kind of thing a Coder is -/
structure CoderE (K : PySem.W.Frag) (mg : Str → Option Value) (ad : Str → Addr) (fd : Str → FuncData) : Prop where
  ca : PySem.W.findIn K (.ref (ad "Coder")) "__class__" = some (some (.builtin "object.__class__"))
  ob : PySem.W.mroIn K (ad "Coder") (.type "object") = some true
def spCheckCoder (C R : Addr) : Sp := fun vs H Q _ => ∃ (a : Addr) (p q : Int) (c : Ch) (lead : Str), vs = [.ref a] ∧ CodO C R H a p q c lead ∧ Q .non H
def spBlocks (C R : Addr) : Sp := fun vs H Q _ => ∃ (a : Addr) (p q : Int) (c : Ch) (lead row : Str), vs = [.ref a, .str row] ∧ CodO C R H a p q c lead ∧ fitP p q ∧ row.length ≤ 2000 ∧ lead.length ≤ 2000 ∧
  (blocksF lead q.toNat row = none → Q .non H) ∧ ∀ bs, blocksF lead q.toNat row = some bs → ∀ (l : Addr) (H' : Hp), Same H H' → H l = none → H' l = some (.lst (bs.map V.str)) → Q (.ref l) H'
theorem rgc_lo {lo q k : Nat} (h1 : 1 ≤ q) (h6 : q ≤ 6) (hl : lo ≤ 2000) (hk : k ≤ 2000) : RgC (lo : Int) ((lo + k * q : Nat) : Int) (q : Int) k := by
  have e : Builtin.Range.rangeSize (lo : Int) ((lo + k * q : Nat) : Int) (q : Int) = (k : Int) := by
    unfold Builtin.Range.rangeSize
    rw [if_pos (by omega)]
    by_cases z : k = 0
    · subst z
      rw [if_neg (by omega)]
      rfl
    · have kq : q ≤ k * q := Nat.le_mul_of_pos_left _ (by omega)
      rw [if_pos (by omega)]
      have e1 : ((lo + k * q : Nat) : Int) - (lo : Int) - 1 = ((q : Int) - 1) + (q : Int) * ((k : Int) - 1) := by
        rw [Int.natCast_add, Int.natCast_mul, Int.mul_sub, Int.mul_comm (k : Int)]
        omega
      rw [e1, Int.add_mul_ediv_left _ _ (by omega), Int.ediv_eq_zero_of_lt (by omega) (by omega)]
      omega
  have b : k * q ≤ 2000 * 6 := Nat.mul_le_mul hk h6
  refine ⟨by omega, by omega, ?_, e⟩
  unfold Builtin.Range.small
  rw [e]
  simp only [Builtin.Range.rangeFitsLong, Bool.and_eq_true, Bool.or_eq_true, decide_eq_true_eq, beq_iff_eq, show ((q : Int) > 0) from by omega, if_true]
  generalize k * q = m at b
  omega
theorem cut_row (row : Str) (i q : Nat) : cutS row (some (i : Int)) (some ((i + q : Nat) : Int)) = ofL (((sL row).drop i).take q) := by
  unfold cutS
  rw [HT.sIx_nat, HT.sIx_nat]
  show ofL _ = ofL _
  congr 1
  have ln := sL_len row
  by_cases h : i ≤ row.length
  · rw [Nat.min_eq_left h]
    by_cases h2 : i + q ≤ row.length
    · rw [Nat.min_eq_left h2, show i + q - i = q by omega]
    · rw [Nat.min_eq_right (by omega), List.take_of_length_le (by rw [List.length_drop, ln]; exact Nat.le_refl _), List.take_of_length_le (by rw [List.length_drop, ln]; omega)]
  · rw [Nat.min_eq_right (by omega), List.drop_of_length_le (by rw [ln]; omega), List.drop_of_length_le (by rw [ln]; omega)]
    simp
section
variable {P : Program} {w : World} {K : PySem.W.Frag} {mg : Str → Option Value} {base : Heap} {ad : Str → Addr} {fd : Str → FuncData}
theorem ty_coder (RC : RateC K mg ad fd) (CC : CoderC K mg ad fd) (CE : CoderE K mg ad fd) {H : Hp} {a : Addr} {p q : Int} {c : Ch} {lead : Str} (h : CodO (ad "Coder") (ad "Rate") H a p q c lead) : TyX K H (.ref a) (.ref (ad "Coder")) := by
  obtain ⟨dx, r, l, e, _⟩ := h
  exact .base (.ins e CC.cl CE.ca RC.cn RC.ct CE.ob)
theorem scCheckCoder : FnScope ["coder"] ["coder"] (defScope sCheckCoder) := ⟨rfl, rfl, rfl, by decide +kernel, rfl, by decide +kernel, by decide +kernel⟩
theorem ok_check_coder (X : Tx K mg ad fd) (RC : RateC K mg ad fd) (CC : CoderC K mg ad fd) (CE : CoderE K mg ad fd) : FnOk P w K mg base CX0 1 (ad "check_coder") (fd "check_coder") ["coder"] (spCheckCoder (ad "Coder") (ad "Rate")) := by
  refine X.F_check_coder.ok scCheckCoder (fun vs H Q E h => ?_) (fun cdv A outer s H vs Q E hr h => ?_)
  · obtain ⟨a, p, q, c, lead, rfl, _⟩ := h
    rfl
  · obtain ⟨a, p, q, c, lead, rfl, ho, k⟩ := h
    refine ⟨_, (pss_one (ps_if (pt_not (pt_val (pe_callB call_isi (by rfl) X.m_isinstance (by decide +kernel) (pa_cons (pv 0) (pa_cons (pe_glob (v := .ref (ad "Coder")) (by rfl) CC.G rfl) pa_nil)))))
  (pss_one ps_never)
  pss_nil)), ?_⟩
    exact ⟨.ref a, rfl, .ref a, .ref (ad "Coder"), _, _, true, rfl, .own _, ty_coder RC CC CE ho, (by unfold PySem.W.kitOne; rw [if_pos (by simp)]), true, rfl, iteF k⟩
end
end K82
end

section
set_option maxHeartbeats 4000000
/-! texts, counted by the states behind them -/
namespace K82
open PySem PySem.Spec PyProof.Rows L2
def texts (sz : Nat) : Nat → List (List Nat)
  | 0 => [[]]
  | n + 1 => (texts sz n).flatMap fun t => (List.range sz).map fun w => t ++ [w]
theorem texts_len {sz : Nat} : ∀ {n : Nat} {t : List Nat}, t ∈ texts sz n → t.length = n
  | 0, t, h => by
    rw [List.mem_singleton.mp (show t ∈ [[]] from h)]
    rfl
  | n + 1, t, h => by
    obtain ⟨u, hu, h2⟩ := List.mem_flatMap.mp (show t ∈ (texts sz n).flatMap _ from h)
    obtain ⟨w, _, rfl⟩ := List.mem_map.mp h2
    rw [List.length_append, texts_len hu]
    rfl
theorem texts_lt {sz : Nat} : ∀ {n : Nat} {t : List Nat}, t ∈ texts sz n → ∀ w ∈ t, w < sz
  | 0, t, h => by
    rw [List.mem_singleton.mp (show t ∈ [[]] from h)]
    intro w hw
    cases hw
  | n + 1, t, h => by
    obtain ⟨u, hu, h2⟩ := List.mem_flatMap.mp (show t ∈ (texts sz n).flatMap _ from h)
    obtain ⟨x, hx, rfl⟩ := List.mem_map.mp h2
    intro w hw
    rcases List.mem_append.mp hw with z | z
    · exact texts_lt hu w z
    · rw [List.mem_singleton.mp z]
      exact List.mem_range.mp hx
theorem texts_count (sz : Nat) : ∀ n, (texts sz n).length = sz ^ n
  | 0 => rfl
  | n + 1 => by
    show ((texts sz n).flatMap _).length = _
    rw [List.length_flatMap]
    have e : (texts sz n).map (fun t => ((List.range sz).map fun w => t ++ [w]).length) = (texts sz n).map fun _ => sz := List.map_congr_left fun t _ => by rw [List.length_map, List.length_range]
    rw [e, List.map_const', List.sum_replicate_nat, texts_count sz n, Nat.pow_succ]
def cellC (c : Ch) (s w : Nat) : Str × Nat := (rowC c s).getD w ("", 0)
/-- how many texts of these blocks end there -/
def ways (c : Ch) (sz : Nat) (bs : List Str) (t : Nat) : Nat := (texts sz bs.length).countP fun ws => decide (wayF c ws 0 = (bs, t))
/-- how many texts have these blocks -/
def total (c : Ch) (sz : Nat) (bs : List Str) : Nat := (texts sz bs.length).countP fun ws => decide ((wayF c ws 0).1 = bs)
theorem ways_nil (c : Ch) (sz t : Nat) : ways c sz [] t = if t = 0 then 1 else 0 := by
  unfold ways
  show List.countP _ [[]] = _
  by_cases h : t = 0
  · subst h
    rfl
  · rw [if_neg h, List.countP_cons_of_neg (by
      show ¬ decide ((([] : List Str), 0) = ([], t)) = true
      rw [decide_eq_true_eq]
      intro z
      exact h (Prod.mk.inj z).2.symm)]
    rfl
theorem sum_one {ts : List Nat} {x : Nat} (g : Nat → Nat) (nd : ts.Nodup) (hx : x ∈ ts) : (ts.map fun s => if x = s then g s else 0).sum = g x := by
  induction ts with
  | nil => cases hx
  | cons a ts ih =>
    rw [List.nodup_cons] at nd
    rw [List.map_cons, List.sum_cons]
    by_cases h : x = a
    · subst h
      have z : (ts.map fun s => if x = s then g s else 0) = ts.map fun _ => 0 := List.map_congr_left fun s hs => if_neg (fun e => nd.1 (by rw [e]; exact hs))
      rw [if_pos rfl, z, List.map_const', List.sum_replicate_nat]
      omega
    · rw [if_neg h, ih nd.2 ((List.mem_cons.mp hx).resolve_left h)]
      omega
theorem sum_add {ts : List Nat} (f g : Nat → Nat) : (ts.map fun s => f s + g s).sum = (ts.map f).sum + (ts.map g).sum := by
  induction ts with
  | nil => rfl
  | cons a ts ih => simp only [List.map_cons, List.sum_cons, ih]; omega
theorem sum_by {α β : Type} [DecidableEq β] {ts : List Nat} {f : α → β × Nat} (g : Nat → Nat) (b : β) (nd : ts.Nodup) : ∀ {L : List α}, (∀ a ∈ L, (f a).1 = b → (f a).2 ∈ ts) →
    (L.map fun a => if (f a).1 = b then g (f a).2 else 0).sum = (ts.map fun s => (L.countP fun a => decide (f a = (b, s))) * g s).sum
  | [], _ => by
    have z : (ts.map fun s => (([] : List α).countP fun a => decide (f a = (b, s))) * g s) = ts.map fun _ => 0 := List.map_congr_left fun s _ => by rw [List.countP_nil, Nat.zero_mul]
    rw [z, List.map_const', List.sum_replicate_nat]
    rfl
  | a :: L, h => by
    have ih := sum_by g b nd (L := L) fun x hx => h x (List.mem_cons_of_mem _ hx)
    have e : (ts.map fun s => ((a :: L).countP fun a => decide (f a = (b, s))) * g s) = ts.map fun s => ((L.countP fun a => decide (f a = (b, s))) * g s) + (if f a = (b, s) then g s else 0) := List.map_congr_left fun s _ => by
      rw [List.countP_cons]
      by_cases z : f a = (b, s)
      · rw [if_pos (by simpa using z), if_pos z, Nat.add_mul, Nat.one_mul]
      · rw [if_neg (by simpa using z), if_neg z, Nat.add_zero, Nat.add_zero]
    rw [e, sum_add, ← ih, List.map_cons, List.sum_cons]
    have one : (ts.map fun s => if f a = (b, s) then g s else 0).sum = if (f a).1 = b then g (f a).2 else 0 := by
      by_cases z : (f a).1 = b
      · rw [if_pos z, ← sum_one g nd (h a (List.mem_cons_self ..) z)]
        refine congrArg List.sum (List.map_congr_left fun s _ => ?_)
        have ee : (f a = (b, s)) ↔ ((f a).2 = s) := ⟨fun y => by rw [y], fun y => Prod.ext z y⟩
        by_cases y : (f a).2 = s
        · rw [if_pos (ee.mpr y), if_pos y]
        · rw [if_neg (fun q => y (ee.mp q)), if_neg y]
      · rw [if_neg z]
        have zz : (ts.map fun s => if f a = (b, s) then g s else 0) = ts.map fun _ => 0 := List.map_congr_left fun s _ => if_neg (fun y => z (by rw [y]))
        rw [zz, List.map_const', List.sum_replicate_nat]
        omega
    rw [one]
    omega
theorem countP_sum {α : Type} (p : α → Bool) : ∀ L : List α, L.countP p = (L.map fun a => if p a = true then 1 else 0).sum
  | [] => rfl
  | a :: L => by rw [List.countP_cons, countP_sum p L, List.map_cons, List.sum_cons]; omega
theorem total_by {c : Ch} {sz : Nat} {bs : List Str} {ts : List Nat} (nd : ts.Nodup) (h : ∀ t, t ∉ ts → ways c sz bs t = 0) : (ts.map (ways c sz bs)).sum = total c sz bs := by
  have k := sum_by (f := fun ws => wayF c ws 0) (fun _ => 1) bs nd (L := texts sz bs.length) fun ws hw e => by
    by_cases m : (wayF c ws 0).2 ∈ ts
    · exact m
    · have z := h _ m
      unfold ways at z
      rw [List.countP_eq_zero] at z
      exact absurd (decide_eq_true (show wayF c ws 0 = (bs, (wayF c ws 0).2) from Prod.ext e rfl)) (z ws hw)
  unfold total
  rw [countP_sum]
  have e1 : (texts sz bs.length).map (fun ws => if decide ((wayF c ws 0).1 = bs) = true then 1 else 0) = (texts sz bs.length).map fun ws => if (wayF c ws 0).1 = bs then 1 else 0 := List.map_congr_left fun ws _ => by
    by_cases z : (wayF c ws 0).1 = bs
    · rw [if_pos (by simpa using z), if_pos z]
    · rw [if_neg (by simpa using z), if_neg z]
  rw [e1, k]
  refine congrArg List.sum (List.map_congr_left fun s _ => ?_)
  rw [Nat.mul_one]
  rfl
theorem row_cell {r : List (Str × Nat)} {w : Nat} {b : Str} {t : Nat} (h : w < r.length) : r[w]? = some (b, t) ↔ r.getD w ("", 0) = (b, t) := by
  rw [List.getD_eq_getElem?_getD, List.getElem?_eq_getElem h]
  simp
theorem ways_snoc {c : Ch} {sz : Nat} {bs : List Str} {b : Str} {t : Nat} {ts : List Nat} (nd : ts.Nodup) (h : ∀ t, t ∉ ts → ways c sz bs t = 0) (hr : ∀ s ∈ ts, (rowC c s).length = sz) :
    ways c sz (bs ++ [b]) t = (ts.map fun s => ways c sz bs s * (wordsOf (rowC c s) b t sz).length).sum := by
  have inT : ∀ ws ∈ texts sz bs.length, (wayF c ws 0).1 = bs → (wayF c ws 0).2 ∈ ts := fun ws hw e => by
    by_cases m : (wayF c ws 0).2 ∈ ts
    · exact m
    · have z := h _ m
      unfold ways at z
      rw [List.countP_eq_zero] at z
      exact absurd (decide_eq_true (show wayF c ws 0 = (bs, (wayF c ws 0).2) from Prod.ext e rfl)) (z ws hw)
  have k := sum_by (f := fun ws => wayF c ws 0) (fun s => (wordsOf (rowC c s) b t sz).length) bs nd (L := texts sz bs.length) inT
  unfold ways
  rw [show (bs ++ [b]).length = bs.length + 1 by simp]
  show ((texts sz bs.length).flatMap _).countP _ = _
  rw [List.countP_flatMap]
  rw [← k]
  refine congrArg List.sum (List.map_congr_left fun ws hw => ?_)
  show ((List.range sz).map fun w => ws ++ [w]).countP _ = _
  rw [List.countP_map]
  by_cases z : (wayF c ws 0).1 = bs
  · rw [if_pos z]
    have st := inT ws hw z
    unfold wordsOf
    rw [← List.countP_eq_length_filter]
    refine List.countP_congr fun w hwz => ?_
    have wl : w < (rowC c (wayF c ws 0).2).length := by rw [hr _ st]; exact List.mem_range.mp hwz
    simp only [Function.comp_apply, decide_eq_true_eq]
    rw [wayF_snoc, row_cell wl, z]
    constructor
    · intro e
      have e1 := Prod.mk.inj e
      have e2 := List.append_cancel_left e1.1
      exact Prod.ext (List.cons.inj e2).1 e1.2
    · intro e
      rw [e]
  · rw [if_neg z, List.countP_eq_zero]
    intro w _
    simp only [Function.comp_apply, decide_eq_true_eq]
    rw [wayF_snoc]
    intro e
    have e1 := (Prod.mk.inj e).1
    have ll := texts_len hw
    have := List.append_inj_left e1 (by rw [wayF_len, ll])
    exact z this
end K82
end

section
set_option maxHeartbeats 4000000
/-! dicts that are read from now on; counts by states -/
namespace K82
open PySem PySem.Spec PyProof.Rows L2
/-- a dict that comes out is locked for good, if wanted -/
def tFz (td : TE) : TE := fun σ H Q => td σ H fun x H1 => Q x H1 ∨ ∃ (d : Addr) (kvs : List (Key × V)), x = .ref d ∧ H1 d = some (.dK kvs) ∧ ∀ od, Q x (upd H1 d (.frz od (.dK kvs)))
theorem pe_freeze {X : Cx} {e : Expr} {td : TE} (he : PE X e td) : PE X e (tFz td) := by
  refine ⟨fun pins s σ H Q I h => ?_⟩
  refine thn (he.run pins s σ H _ I h) fun v s1 ⟨x, H1, I1, r1, q⟩ => ?_
  rcases q with q | ⟨d, kvs, ex, hd, q⟩
  · exact ⟨x, H1, I1, r1, q⟩
  · obtain ⟨od, I2⟩ := I1.lock hd True.intro
    exact ⟨x, _, I2, r1, q od⟩
theorem val_mem {κ : Type} [DecidableEq κ] {kv : κ × V} : ∀ {kvs : List (κ × V)}, (kvs.map (·.1)).Nodup → kv ∈ kvs → valV kvs kv.1 = some kv.2
  | [], _, h => by cases h
  | p :: r, nd, h => by
    rw [List.map_cons, List.nodup_cons] at nd
    by_cases z : p.1 = kv.1
    · cases h with
      | head => exact valV_pos rfl
      | tail _ m => exact absurd (List.mem_map_of_mem (f := (·.1)) m) (by rw [← z]; exact nd.1)
    · rw [valV_neg z]
      cases h with
      | head => exact absurd rfl z
      | tail _ m => exact val_mem nd.2 m
/-- kvs holds f, for keys below n -/
structure Cnt (kvs : List (Key × V)) (f : Nat → Nat) (n : Nat) : Prop where
  nd : (kvs.map (·.1)).Nodup
  keys : ∀ k ∈ kvs.map (·.1), ∃ t : Nat, t < n ∧ k = .inl (t : Int)
  val : ∀ t : Nat, (valV kvs (.inl (t : Int)) = none ∧ f t = 0) ∨ valV kvs (.inl (t : Int)) = some (.int (f t : Nat))
theorem Cnt.nil (n : Nat) : Cnt [] (fun _ => 0) n := ⟨by simp, (fun k h => by cases h), fun t => .inl ⟨rfl, rfl⟩⟩
theorem Cnt.put {kvs : List (Key × V)} {f : Nat → Nat} {n t m : Nat} (C : Cnt kvs f n) (ht : t < n) : Cnt (putK kvs (.inl (t : Int)) (.int (m : Nat))) (fun x => if x = t then m else f x) n := by
  have ik : IntKeys kvs := ⟨C.nd, fun k hk => let ⟨t, _, e⟩ := C.keys k hk; ⟨t, e⟩⟩
  refine ⟨(ik.put t _).1, fun k hk => ?_, fun x => ?_⟩
  · by_cases z : k = .inl (t : Int)
    · exact ⟨t, ht, z⟩
    · refine C.keys k ?_
      unfold putK at hk
      split at hk
      · rw [List.map_map] at hk
        obtain ⟨kv, h1, h2⟩ := List.mem_map.mp hk
        refine List.mem_map.mpr ⟨kv, h1, ?_⟩
        rw [← h2]
        show kv.1 = (if kv.1 = .inl (t : Int) then (kv.1, V.int (m : Nat)) else kv).1
        split <;> rfl
      · rw [List.map_append] at hk
        rcases List.mem_append.mp hk with y | y
        · exact y
        · exact absurd (by simpa using y) z
  · rw [valV_put]
    by_cases z : x = t
    · subst z
      rw [if_pos rfl]
      exact .inr (by rw [if_pos rfl])
    · have z2 : ¬ ((.inl (x : Int) : Key) = .inl (t : Int)) := fun y => z (by have := Sum.inl.inj y; omega)
      rw [if_neg z2]
      simp only [if_neg z]
      exact C.val x
theorem Cnt.ext {kvs : List (Key × V)} {f g : Nat → Nat} {n : Nat} (C : Cnt kvs f n) (h : ∀ t, f t = g t) : Cnt kvs g n := by
  have : f = g := funext h
  rw [← this]
  exact C
theorem Cnt.ts {kvs : List (Key × V)} {f : Nat → Nat} {n : Nat} (C : Cnt kvs f n) : ∃ ts : List Nat, kvs = ts.map (fun (t : Nat) => ((.inl (t : Int) : Key), V.int (f t : Nat))) ∧ ts.Nodup ∧ (∀ t ∈ ts, t < n) ∧ ∀ t, t ∉ ts → f t = 0 := by
  have key : ∀ kv ∈ kvs, ∃ t : Nat, t < n ∧ kv = ((.inl (t : Int) : Key), V.int (f t : Nat)) := fun kv h => by
    obtain ⟨t, ht, e⟩ := C.keys kv.1 (List.mem_map_of_mem (f := (·.1)) h)
    have v := val_mem C.nd h
    rw [e] at v
    refine ⟨t, ht, ?_⟩
    rcases C.val t with ⟨z, _⟩ | z
    · rw [z] at v; cases v
    · rw [z] at v
      have e2 := Option.some.inj v
      exact Prod.ext e e2.symm
  let num : Key × V → Nat := fun kv => match kv.1 with
    | .inl i => i.toNat
    | .inr _ => 0
  have nm : ∀ kv ∈ kvs, kv = ((.inl (num kv : Int) : Key), V.int (f (num kv) : Nat)) := fun kv h => by
    obtain ⟨t, _, e⟩ := key kv h
    have : num kv = t := by rw [e]; exact Int.toNat_natCast t
    rw [this]
    exact e
  have e1 : kvs = (kvs.map num).map (fun (t : Nat) => ((.inl (t : Int) : Key), V.int (f t : Nat))) := by
    rw [List.map_map]
    conv => lhs; rw [← List.map_id kvs]
    exact List.map_congr_left nm
  refine ⟨kvs.map num, e1, ?_, fun t ht => ?_, fun t ht => ?_⟩
  · have nd := C.nd
    rw [e1, List.map_map] at nd
    have nd2 : ((kvs.map num).map (fun (t : Nat) => (.inl (t : Int) : Key))).Nodup := nd
    exact List.Pairwise.of_map _ (fun a b h e => h (by rw [e])) nd2
  · obtain ⟨kv, h1, rfl⟩ := List.mem_map.mp ht
    obtain ⟨t, h2, e⟩ := key kv h1
    have : num kv = t := by rw [e]; exact Int.toNat_natCast t
    rw [this]
    exact h2
  · rcases C.val t with ⟨_, z⟩ | z
    · exact z
    · exfalso
      obtain ⟨kv, h1, h2⟩ := List.mem_map.mp (valV_in z)
      refine ht (List.mem_map.mpr ⟨kv, h1, ?_⟩)
      have h3 : kv.1 = .inl (t : Int) := h2
      show (match kv.1 with | .inl i => i.toNat | .inr _ => 0) = t
      rw [h3]
      exact Int.toNat_natCast t
/-- groups that are read; Hs: where nothing of them stood -/
def SubR (Hs H : Hp) (h : Addr) (row : List (Str × Nat)) (b : Str) : Prop := Hs h = none ∧ ∃ hk : List (Key × V), Rd H h (.dK hk) ∧ IntKeys hk ∧
  ∀ t : Nat, (wordsOf row b t row.length = [] → valV hk (.inl (t : Int)) = none) ∧ (wordsOf row b t row.length ≠ [] → ∃ l, valV hk (.inl (t : Int)) = some (.ref l) ∧ H l = some (.lst (intsV (wordsOf row b t row.length))))
def GrpR (Hs H : Hp) (g : Addr) (row : List (Str × Nat)) : Prop := Hs g = none ∧ ∃ kvs : List (Key × V), Rd H g (.dK kvs) ∧ StrKeys kvs ∧ ∀ b : Str, (¬ hasB row b row.length → valV kvs (.inr b) = none) ∧ (hasB row b row.length → ∃ h, valV kvs (.inr b) = some (.ref h) ∧ SubR Hs H h row b)
def GroupsR (Hs H : Hp) (l : Addr) (c : Ch) : Prop := ∃ gs : List Addr, H l = some (.lst (gs.map V.ref)) ∧ gs.length = c.length ∧ ∀ (i : Nat) (g : Addr), gs[i]? = some g → ∃ r, c[i]? = some r ∧ GrpR Hs H g r
/-- all stands, or is a dict that was locked -/
def Fz (H H' : Hp) : Prop := ∀ b u, H b = some u → H' b = some u ∨ ∃ kvs o, u = .dK kvs ∧ H' b = some (.frz o (.dK kvs))
theorem Fz.same {H H' : Hp} (s : Same H H') : Fz H H' := fun b u e => .inl (s b u e)
theorem Fz.lst {H H' : Hp} (f : Fz H H') {a : Addr} {xs : List V} (e : H a = some (.lst xs)) : H' a = some (.lst xs) := by
  rcases f a _ e with z | ⟨kvs, o, z, _⟩
  · exact z
  · cases z
theorem Fz.rd {H H' : Hp} (f : Fz H H') {a : Addr} {kvs : List (Key × V)} (e : Rd H a (.dK kvs)) : Rd H' a (.dK kvs) := by
  rcases e with e | ⟨o, e⟩
  · rcases f a _ e with z | ⟨kvs', o, z, y⟩
    · exact .inl z
    · cases z
      exact .inr ⟨o, y⟩
  · rcases f a _ e with z | ⟨kvs', o', z, y⟩
    · exact .inr ⟨o, z⟩
    · cases z
theorem Fz.trans {H1 H2 H3 : Hp} (a : Fz H1 H2) (b : Fz H2 H3) : Fz H1 H3 := fun x u e => by
  rcases a x u e with z | ⟨kvs, o, rfl, z⟩
  · exact b x u z
  · rcases b x _ z with y | ⟨kvs', o', w, _⟩
    · exact .inr ⟨kvs, o, rfl, y⟩
    · cases w
theorem Fz.lock {H : Hp} {d : Addr} {kvs : List (Key × V)} {o : Obj} (e : H d = some (.dK kvs)) : Fz H (upd H d (.frz o (.dK kvs))) := fun b u eb => by
  by_cases z : b = d
  · subst z
    rw [e] at eb
    cases eb
    exact .inr ⟨kvs, o, rfl, upd_same⟩
  · exact .inl (by rw [upd_ne z]; exact eb)
theorem GroupsR.keep {Hs H H' : Hp} {l : Addr} {c : Ch} (G : GroupsR Hs H l c) (f : Fz H H') : GroupsR Hs H' l c := by
  obtain ⟨gs, e, lg, k⟩ := G
  refine ⟨gs, f.lst e, lg, fun i g hi => ?_⟩
  obtain ⟨r, h1, ng, kvs, e2, sk, k2⟩ := k i g hi
  refine ⟨r, h1, ng, kvs, f.rd e2, sk, fun b => ⟨(k2 b).1, fun hb => ?_⟩⟩
  obtain ⟨h, v, n, hk, e3, ik, k3⟩ := (k2 b).2 hb
  exact ⟨h, v, n, hk, f.rd e3, ik, fun t => ⟨(k3 t).1, fun nt => let ⟨l, v2, el⟩ := (k3 t).2 nt; ⟨l, v2, f.lst el⟩⟩⟩
theorem GroupsAt.read {Hs H : Hp} {l : Addr} {c : Ch} (G : GroupsAt Hs H l c) : GroupsR Hs H l c := by
  obtain ⟨gs, e, lg, k⟩ := G
  refine ⟨gs, e, lg, fun i g hi => ?_⟩
  obtain ⟨r, H0, s0, h1, n, kvs, e2, gl, k2⟩ := k i g hi
  refine ⟨r, h1, none_back s0 n, kvs, .inl e2, gl.2, fun b => ⟨(k2 b).1, fun hb => ?_⟩⟩
  obtain ⟨h, v, n2, hk, e3, _, ik, k3⟩ := (k2 b).2 hb
  exact ⟨h, v, none_back s0 n2, hk, .inl e3, ik, fun t => ⟨(k3 t).1, fun nt => let ⟨l, _, v2, el⟩ := (k3 t).2 nt; ⟨l, v2, el⟩⟩⟩
end K82
end

section
set_option maxHeartbeats 4000000
/-! a block's dict, key by key -/
namespace K82
open PySem PySem.Spec PyProof.Rows L2
theorem Cnt.getD {kvs : List (Key × V)} {f : Nat → Nat} {n : Nat} (C : Cnt kvs f n) (t : Nat) : (valV kvs (.inl (t : Int))).getD (.int 0) = .int (f t : Nat) := by
  rcases C.val t with ⟨e, z⟩ | e
  · rw [e, z]
    rfl
  · rw [e]
    rfl
theorem Cnt.len {kvs : List (Key × V)} {f : Nat → Nat} {n : Nat} (C : Cnt kvs f n) : kvs.length ≤ n := by
  obtain ⟨ts, e, nd, lt, _⟩ := C.ts
  rw [e, List.length_map]
  exact nodup_len nd lt
theorem sum_cast (f : Nat → Nat) : ∀ ts : List Nat, (ts.map fun t => ((f t : Nat) : Int)).sum = (((ts.map f).sum : Nat) : Int)
  | [] => rfl
  | t :: ts => by rw [List.map_cons, List.sum_cons, sum_cast f ts, List.map_cons, List.sum_cons, Int.natCast_add]
theorem words_len (row : List (Str × Nat)) (b : Str) (t j : Nat) : (wordsOf row b t j).length ≤ j := by
  unfold wordsOf
  exact Nat.le_trans (List.length_filter_le ..) (by rw [List.length_range]; exact Nat.le_refl _)
/-- hk, key by key: the lists of the words -/
structure SubL (H : Hp) (hk : List (Key × V)) (row : List (Str × Nat)) (b : Str) (us : List Nat) (lf : Nat → Addr) : Prop where
  eq : hk = us.map (fun (u : Nat) => ((.inl (u : Int) : Key), V.ref (lf u)))
  nd : us.Nodup
  lst : ∀ u ∈ us, H (lf u) = some (.lst (intsV (wordsOf row b u row.length))) ∧ wordsOf row b u row.length ≠ []
  off : ∀ u, u ∉ us → wordsOf row b u row.length = []
theorem subL_nil {H : Hp} {row : List (Str × Nat)} {b : Str} (h : ¬ hasB row b row.length) : SubL H [] row b [] (fun _ => 0) := by
  refine ⟨rfl, by simp, (fun u hu => by cases hu), fun u _ => ?_⟩
  by_cases z : wordsOf row b u row.length = []
  · exact z
  · exact absurd (words_hasB z) h
theorem subL_of {H : Hp} {hk : List (Key × V)} {row : List (Str × Nat)} {b : Str} (ik : IntKeys hk)
    (k : ∀ t : Nat, (wordsOf row b t row.length = [] → valV hk (.inl (t : Int)) = none) ∧ (wordsOf row b t row.length ≠ [] → ∃ l, valV hk (.inl (t : Int)) = some (.ref l) ∧ H l = some (.lst (intsV (wordsOf row b t row.length))))) : ∃ us lf, SubL H hk row b us lf := by
  let num : Key × V → Nat := fun kv => match kv.1 with
    | .inl i => i.toNat
    | .inr _ => 0
  let lf : Nat → Addr := fun t => match valV hk (.inl (t : Int)) with
    | some (.ref l) => l
    | _ => 0
  have key : ∀ kv ∈ hk, ∃ (t : Nat) (l : Addr), kv = ((.inl (t : Int) : Key), V.ref l) ∧ valV hk (.inl (t : Int)) = some (.ref l) ∧ wordsOf row b t row.length ≠ [] ∧ H l = some (.lst (intsV (wordsOf row b t row.length))) := fun kv h => by
    obtain ⟨t, e⟩ := ik.2 kv.1 (List.mem_map_of_mem (f := (·.1)) h)
    have v := val_mem ik.1 h
    rw [e] at v
    by_cases z : wordsOf row b t row.length = []
    · rw [(k t).1 z] at v
      cases v
    · obtain ⟨l, v2, el⟩ := (k t).2 z
      rw [v2] at v
      have e2 := Option.some.inj v
      exact ⟨t, l, Prod.ext e e2.symm, v2, z, el⟩
  have nm : ∀ kv ∈ hk, kv = ((.inl (num kv : Int) : Key), V.ref (lf (num kv))) := fun kv h => by
    obtain ⟨t, l, e, v, _⟩ := key kv h
    have h1 : num kv = t := by rw [e]; exact Int.toNat_natCast t
    have h2 : lf t = l := by
      show (match valV hk (.inl (t : Int)) with | some (.ref l) => l | _ => 0) = l
      rw [v]
    rw [h1, h2]
    exact e
  have e1 : hk = (hk.map num).map (fun (u : Nat) => ((.inl (u : Int) : Key), V.ref (lf u))) := by
    rw [List.map_map]
    conv => lhs; rw [← List.map_id hk]
    exact List.map_congr_left nm
  refine ⟨hk.map num, lf, e1, ?_, fun u hu => ?_, fun u hu => ?_⟩
  · have nd := ik.1
    rw [e1, List.map_map] at nd
    have nd2 : ((hk.map num).map (fun (u : Nat) => (.inl (u : Int) : Key))).Nodup := nd
    exact List.Pairwise.of_map _ (fun a b h e => h (by rw [e])) nd2
  · obtain ⟨kv, h1, rfl⟩ := List.mem_map.mp hu
    obtain ⟨t, l, e, v, nz, el⟩ := key kv h1
    have h2 : num kv = t := by rw [e]; exact Int.toNat_natCast t
    have h3 : lf t = l := by
      show (match valV hk (.inl (t : Int)) with | some (.ref l) => l | _ => 0) = l
      rw [v]
    rw [h2, h3]
    exact ⟨el, nz⟩
  · by_cases z : wordsOf row b u row.length = []
    · exact z
    · exfalso
      obtain ⟨l, v, _⟩ := (k u).2 z
      obtain ⟨kv, h1, h2⟩ := List.mem_map.mp (valV_in v)
      refine hu (List.mem_map.mpr ⟨kv, h1, ?_⟩)
      have h3 : kv.1 = .inl (u : Int) := h2
      show (match kv.1 with | .inl i => i.toNat | .inr _ => 0) = u
      rw [h3]
      exact Int.toNat_natCast u
theorem none_fz {H H' : Hp} (f : Fz H H') {a : Addr} (e : H' a = none) : H a = none := by
  cases z : H a with
  | none => rfl
  | some u => rcases f a u z with y | ⟨_, _, _, y⟩ <;> (rw [e] at y; cases y)
theorem Fz.new {H0 H : Hp} (f : Fz H0 H) {a : Addr} {o : HO} (e : H0 a = none) : Fz H0 (upd H a o) := fun b u eb => by rw [upd_ne (ne_of_none eb e)]; exact f b u eb
theorem Same.at_ {H0 H : Hp} (s : Same H0 H) {a : Addr} {o : HO} (e : H0 a = none) : Same H0 (upd H a o) := fun b u eb => by rw [upd_ne (ne_of_none eb e)]; exact s b u eb
/-- one key more of the inner loop -/
theorem acc_step {us : List Nat} {j u : Nat} {g k : Nat → Nat} (nd : us.Nodup) (hj : us[j]? = some u) : ∀ t, (if t = u then (g u + if u ∈ us.take j then k u else 0) + k u else (g t + if t ∈ us.take j then k t else 0)) = g t + if t ∈ us.take (j + 1) then k t else 0 := fun t => by
  obtain ⟨hl, e⟩ := List.getElem?_eq_some_iff.mp hj
  have tk : us.take (j + 1) = us.take j ++ [u] := by rw [List.take_add_one, hj]; rfl
  have nu : u ∉ us.take j := fun m => by
    have nd2 := nd.sublist (List.take_sublist (j + 1) us)
    rw [tk, List.nodup_append] at nd2
    exact nd2.2.2 u m u (List.mem_singleton_self u) rfl
  by_cases z : t = u
  · subst z
    rw [if_pos rfl, if_neg nu, if_pos (by rw [tk]; exact List.mem_append_right _ (List.mem_singleton_self _))]
    omega
  · rw [if_neg z]
    have iff : t ∈ us.take (j + 1) ↔ t ∈ us.take j := by
      rw [tk]
      constructor
      · intro m
        exact (List.mem_append.mp m).resolve_right (fun y => z (List.mem_singleton.mp y))
      · exact List.mem_append_left _
    by_cases m : t ∈ us.take j
    · rw [if_pos m, if_pos (iff.mpr m)]
    · rw [if_neg m, if_neg (fun y => m (iff.mp y))]
end K82
end

section
/-! generators that nobody wakes stay as they are: a run over a world in which they cannot be woken is a run over the world itself -/
namespace GF
open PySem PySem.Spec PyProof.Rows L2 GenW
open Sem (wp)
def stuckK : Resume → Sem PySem.Fin := fun _ => .unsupported "x"
def PlainG : GenState → Prop
  | .suspended _ _ _ _ fs _ => splitAtGen fs = none
  | _ => True
inductive FrzE : GenState → GenState → Prop
  | same {y : GenState} : PlainG y → FrzE y y
  | ice {k l c p fs cl} : FrzE (.suspended k l c p fs cl) (.suspended stuckK l c p fs cl)
structure Frz (a b : Array GenState) : Prop where
  size : a.size = b.size
  el : ∀ (i : Nat) (x y : GenState), a[i]? = some x → b[i]? = some y → FrzE x y
def Keep (a b a1 b1 : Array GenState) : Prop := ∀ (i : Nat) k l c p fs cl, a[i]? = some (.suspended k l c p fs cl) → b[i]? = some (.suspended stuckK l c p fs cl) →
  a1[i]? = some (.suspended k l c p fs cl) ∧ b1[i]? = some (.suspended stuckK l c p fs cl)
theorem Keep.rfl {a b : Array GenState} : Keep a b a b := fun _ _ _ _ _ _ _ h1 h2 => ⟨h1, h2⟩
theorem Keep.trans {a b a1 b1 a2 b2 : Array GenState} (x : Keep a b a1 b1) (y : Keep a1 b1 a2 b2) : Keep a b a2 b2 := fun i k l c p fs cl h1 h2 =>
  let ⟨h3, h4⟩ := x i k l c p fs cl h1 h2
  y i k l c p fs cl h3 h4
theorem frzE_seen {x y : GenState} (h : FrzE x y) : x.seen = y.seen := by cases h <;> rfl
theorem frzE_bare {x y : GenState} (h : FrzE x y) (hb : y.bare = true) : x.bare = true := by cases h <;> exact hb
theorem Frz.get {a b : Array GenState} (h : Frz a b) {i : Nat} {y : GenState} (e : b[i]? = some y) : ∃ x, a[i]? = some x ∧ FrzE x y := by
  have hi : i < b.size := (Array.getElem?_eq_some_iff.mp e).1
  have hi' : i < a.size := by rw [h.size]; exact hi
  exact ⟨a[i], Array.getElem?_eq_getElem hi', h.el i _ _ (Array.getElem?_eq_getElem hi') e⟩
theorem Frz.back {a b : Array GenState} (h : Frz a b) {i : Nat} {x : GenState} (e : a[i]? = some x) : ∃ y, b[i]? = some y ∧ FrzE x y := by
  have hi : i < a.size := (Array.getElem?_eq_some_iff.mp e).1
  have hi' : i < b.size := by rw [← h.size]; exact hi
  exact ⟨b[i], Array.getElem?_eq_getElem hi', h.el i _ _ e (Array.getElem?_eq_getElem hi')⟩
theorem Frz.push {a b : Array GenState} (h : Frz a b) {x : GenState} (hx : PlainG x) : Frz (a.push x) (b.push x) := by
  refine ⟨by rw [Array.size_push, Array.size_push, h.size], fun i u v hu hv => ?_⟩
  rw [Array.getElem?_push] at hu hv
  rw [h.size] at hu
  split at hu
  · rename_i hi
    rw [if_pos hi] at hv
    cases hu; cases hv
    exact .same hx
  · rename_i hi
    rw [if_neg hi] at hv
    exact h.el i u v hu hv
theorem Frz.set {a b : Array GenState} (h : Frz a b) {g : Nat} {x : GenState} (hx : PlainG x) : Frz (a.setIfInBounds g x) (b.setIfInBounds g x) := by
  refine ⟨by rw [Array.size_setIfInBounds, Array.size_setIfInBounds, h.size], fun i u v hu hv => ?_⟩
  by_cases e : g = i
  · subst e
    have hg : g < a.size := by
      have := (Array.getElem?_eq_some_iff.mp hu).1
      rwa [Array.size_setIfInBounds] at this
    have hg' : g < b.size := by rw [← h.size]; exact hg
    rw [Array.getElem?_setIfInBounds_self_of_lt hg] at hu
    rw [Array.getElem?_setIfInBounds_self_of_lt hg'] at hv
    cases hu; cases hv
    exact .same hx
  · rw [Array.getElem?_setIfInBounds_ne e] at hu hv
    exact h.el i u v hu hv
theorem keep_set {a b : Array GenState} {g : Nat} {x : GenState} (h : ∀ l c p fs cl, b[g]? ≠ some (.suspended stuckK l c p fs cl)) : Keep a b (a.setIfInBounds g x) (b.setIfInBounds g x) := fun i k l c p fs cl h1 h2 => by
  have e : g ≠ i := fun z => by subst z; exact h _ _ _ _ _ h2
  rw [Array.getElem?_setIfInBounds_ne e, Array.getElem?_setIfInBounds_ne e]
  exact ⟨h1, h2⟩
theorem keep_push {a b : Array GenState} {x : GenState} : Keep a b (a.push x) (b.push x) := fun i k l c p fs cl h1 h2 => by
  have hi := (Array.getElem?_eq_some_iff.mp h1).1
  have hi' := (Array.getElem?_eq_some_iff.mp h2).1
  rw [Array.getElem?_push_lt hi, Array.getElem?_push_lt hi']
  rw [Array.getElem?_eq_getElem hi] at h1
  rw [Array.getElem?_eq_getElem hi'] at h2
  exact ⟨h1, h2⟩
theorem Frz.bare {a b : Array GenState} (h : Frz a b) (hb : AllBare b) : AllBare a := fun y hy => by
  obtain ⟨i, hi, e⟩ := Array.mem_iff_getElem.mp hy
  obtain ⟨z, hz, f⟩ := h.back (i := i) (x := y) (by rw [Array.getElem?_eq_getElem hi, e])
  exact frzE_bare f (hb z (Array.mem_of_getElem? hz))
def iceE : GenState → GenState
  | .suspended _ l c p fs cl => .suspended stuckK l c p fs cl
  | x => x
def iced (a : Array GenState) : Array GenState := a.map iceE
theorem iceE_frz (x : GenState) : FrzE x (iceE x) := by
  cases x with
  | suspended k l c p fs cl => exact .ice
  | fresh c => exact .same trivial
  | running => exact .same trivial
  | finished => exact .same trivial
theorem iced_frz (a : Array GenState) : Frz a (iced a) := by
  refine ⟨by simp [iced], fun i x y hx hy => ?_⟩
  unfold iced at hy
  rw [Array.getElem?_map, hx] at hy
  cases hy
  exact iceE_frz x
theorem iced_bare {a : Array GenState} (h : AllBare a) : AllBare (iced a) := fun y hy => by
  obtain ⟨x, hx, rfl⟩ := Array.mem_map.mp hy
  have := h x hx
  cases x <;> exact this
theorem iced_at {a : Array GenState} {i : Nat} {k l c p fs cl} (h : a[i]? = some (.suspended k l c p fs cl)) : (iced a)[i]? = some (.suspended stuckK l c p fs cl) := by
  unfold iced
  rw [Array.getElem?_map, h]; rfl
/-- the stuck code has no run -/
theorem no_runs {M : Model} {Γ : PySem.Ctx} {p : Pos} {t : Sem PySem.Fin} {fs : List Frame} {s s' : Shared} {e : End} (h : Runs M Γ p t fs s e s') : ∀ w, t = .unsupported w → False := by
  induction h <;> intro w hw <;> first
    | (cases hw; done)
    | (subst hw; simp_all; done)
    | skip
theorem split_append {fs gs : List Frame} (h : splitAtGen fs = none) (h2 : splitAtGen gs = none) : splitAtGen (fs ++ gs) = none := by
  induction fs with
  | nil => exact h2
  | cons F fs ih =>
    cases F with
    | gen g k l c p => cases h
    | ret k hh g l c p kp =>
      have h' : (splitAtGen fs).map (fun x => (Frame.ret k hh g l c p kp :: x.1, x.2.1, x.2.2)) = none := h
      have h3 : splitAtGen fs = none := by
        cases e : splitAtGen fs with
        | none => rfl
        | some z => rw [e] at h'; cases h'
      show (splitAtGen (fs ++ gs)).map _ = none
      rw [ih h3]; rfl
theorem split_tail {F : Frame} {fs : List Frame} (h : splitAtGen (F :: fs) = none) : splitAtGen fs = none := by
  cases F with
  | gen g k l c p => cases h
  | ret k hh g l c p kp =>
    have h' : (splitAtGen fs).map (fun x => (Frame.ret k hh g l c p kp :: x.1, x.2.1, x.2.2)) = none := h
    cases e : splitAtGen fs with
    | none => rfl
    | some z => rw [e] at h'; cases h'
end GF
end

section
set_option maxHeartbeats 4000000
/-! the run lemma -/
namespace GF
open PySem PySem.Spec PyProof.Rows L2 GenW
open Sem (wp)
theorem frz_fresh {a b : Array GenState} (h : Frz a b) {g : Nat} {c : Code} (e : b[g]? = some (.fresh c)) : a[g]? = some (.fresh c) := by
  obtain ⟨x, hx, f⟩ := h.get e
  cases f
  exact hx
theorem frz_running {a b : Array GenState} (h : Frz a b) {g : Nat} (e : b[g]? = some .running) : a[g]? = some .running := by
  obtain ⟨x, hx, f⟩ := h.get e
  cases f
  exact hx
theorem frz_finished {a b : Array GenState} (h : Frz a b) {g : Nat} (e : b[g]? = some .finished) : a[g]? = some .finished := by
  obtain ⟨x, hx, f⟩ := h.get e
  cases f
  exact hx
abbrev At (s : Shared) (a : Array GenState) : Shared := { s with gens := a }
def NoGen (e : End) : Prop := ∀ v g l k c p fs, e = .susp v g l k c p fs → splitAtGen fs = none
theorem plain_end {e : End} (h : NoGen e) : PlainG e.genState := by
  cases e with
  | ret r => exact trivial
  | susp v g l k c p fs => exact h _ _ _ _ _ _ _ rfl
theorem keep_wake {a b a1 b1 a2 b2 : Array GenState} {g : Nat} {x y : GenState} (hb : ∀ l c p fs cl, b[g]? ≠ some (.suspended stuckK l c p fs cl)) (k1 : Keep (a.setIfInBounds g x) (b.setIfInBounds g x) a1 b1)
    (k2 : Keep (a1.setIfInBounds g y) (b1.setIfInBounds g y) a2 b2) : Keep a b a2 b2 := fun i k l c p fs cl h1 h2 => by
  have e : g ≠ i := fun z => by subst z; exact hb _ _ _ _ _ h2
  obtain ⟨h3, h4⟩ := k1 i k l c p fs cl (by rw [Array.getElem?_setIfInBounds_ne e]; exact h1) (by rw [Array.getElem?_setIfInBounds_ne e]; exact h2)
  exact k2 i k l c p fs cl (by rw [Array.getElem?_setIfInBounds_ne e]; exact h3) (by rw [Array.getElem?_setIfInBounds_ne e]; exact h4)
theorem runs_frz {M : Model} {Γ : PySem.Ctx} {p : Pos} {t : Sem PySem.Fin} {fs : List Frame} {s s' : Shared} {e : End} (h : Runs M Γ p t fs s e s') :
    splitAtGen fs = none → ∀ a, Frz a s.gens → ∃ a1, Runs M Γ p t fs (At s a) e (At s' a1) ∧ Frz a1 s'.gens ∧ Keep a s.gens a1 s'.gens ∧ NoGen e := by
  induction h with
  | done => intro _ a ha; exact ⟨a, .done, ha, .rfl, fun _ _ _ _ _ _ _ z => by cases z⟩
  | raise => intro _ a ha; exact ⟨a, .raise, ha, .rfl, fun _ _ _ _ _ _ _ z => by cases z⟩
  | again hq _ ih => intro hf a ha; obtain ⟨a1, r, f, k, n⟩ := ih rfl a ha; exact ⟨a1, .again hq r, f, k, n⟩
  | rule _ ih => intro hf a ha; obtain ⟨a1, r, f, k, n⟩ := ih rfl a ha; exact ⟨a1, .rule r, f, k, n⟩
  | «at» _ ih => intro hf a ha; obtain ⟨a1, r, f, k, n⟩ := ih rfl a ha; exact ⟨a1, .at r, f, k, n⟩
  | load ho _ ih => intro hf a ha; obtain ⟨a1, r, f, k, n⟩ := ih rfl a ha; exact ⟨a1, .load ho r, f, k, n⟩
  | update ho _ ih => intro hf a ha; obtain ⟨a1, r, f, k, n⟩ := ih rfl a ha; exact ⟨a1, .update ho r, f, k, n⟩
  | loadIfAlive _ ih => intro hf a ha; obtain ⟨a1, r, f, k, n⟩ := ih rfl a ha; exact ⟨a1, .loadIfAlive r, f, k, n⟩
  | point _ ih => intro hf a ha; obtain ⟨a1, r, f, k, n⟩ := ih rfl a ha; exact ⟨a1, .point r, f, k, n⟩
  | alloc _ ih => intro hf a ha; obtain ⟨a1, r, f, k, n⟩ := ih rfl a ha; exact ⟨a1, .alloc r, f, k, n⟩
  | fresh _ ih => intro hf a ha; obtain ⟨a1, r, f, k, n⟩ := ih rfl a ha; exact ⟨a1, .fresh r, f, k, n⟩
  | ask _ ih => intro hf a ha; obtain ⟨a1, r, f, k, n⟩ := ih rfl a ha; exact ⟨a1, .ask r, f, k, n⟩
  | choose hn _ ih => intro hf a ha; obtain ⟨a1, r, f, k, n⟩ := ih rfl a ha; exact ⟨a1, .choose hn r, f, k, n⟩
  | os _ ih => intro hf a ha; obtain ⟨a1, r, f, k, n⟩ := ih rfl a ha; exact ⟨a1, .os r, f, k, n⟩
  | handled _ ih => intro hf a ha; obtain ⟨a1, r, f, k, n⟩ := ih rfl a ha; exact ⟨a1, .handled r, f, k, n⟩
  | genState hs _ ih =>
    intro hf a ha
    obtain ⟨x, hx, fe⟩ := ha.get hs
    obtain ⟨a1, r, f, k, n⟩ := ih rfl a ha
    exact ⟨a1, .genState (s := At _ a) hx (by rw [frzE_seen fe]; exact r), f, k, n⟩
  | stack _ ih => intro hf a ha; obtain ⟨a1, r, f, k, n⟩ := ih rfl a ha; exact ⟨a1, .stack r, f, k, n⟩
  | thread _ ih => intro hf a ha; obtain ⟨a1, r, f, k, n⟩ := ih rfl a ha; exact ⟨a1, .thread r, f, k, n⟩
  | newGen _ ih =>
    intro hf a ha
    obtain ⟨a1, r, f, k, n⟩ := ih rfl (a.push _) (ha.push trivial)
    rw [← ha.size] at r
    exact ⟨a1, .newGen (s := At _ a) r, f, keep_push.trans k, n⟩
  | call _ _ ih1 ih2 =>
    intro hf a ha
    obtain ⟨a1, r1, f1, k1, _⟩ := ih1 rfl a ha
    obtain ⟨a2, r2, f2, k2, n2⟩ := ih2 rfl a1 f1
    exact ⟨a2, .call r1 r2, f2, k1.trans k2, n2⟩
  | callSusp _ ih =>
    intro hf a ha
    obtain ⟨a1, r, f, k, n⟩ := ih rfl a ha
    refine ⟨a1, .callSusp r, f, k, fun v g l k' c p fs' z => ?_⟩
    cases z
    exact split_append (n _ _ _ _ _ _ _ rfl) rfl
  | yield => intro _ a ha; exact ⟨a, .yield, ha, .rfl, fun _ _ _ _ _ _ _ z => by cases z; rfl⟩
  | resumeFresh hg _ hq _ ih1 ih2 =>
    intro hf a ha
    obtain ⟨a1, r1, f1, k1, n1⟩ := ih1 rfl (a.setIfInBounds _ .running) (ha.set trivial)
    obtain ⟨a2, r2, f2, k2, n2⟩ := ih2 rfl (a1.setIfInBounds _ _) (f1.set (plain_end n1))
    exact ⟨a2, .resumeFresh (s := At _ a) (frz_fresh ha hg) r1 hq r2, f2, keep_wake (fun l c p fs cl z => by rw [hg] at z; cases z) k1 k2, n2⟩
  | resumeSuspended hg hr hq _ ih1 ih2 =>
    intro hf a ha
    obtain ⟨x, hx, fe⟩ := ha.get hg
    cases fe with
    | ice => exact (no_runs hr _ rfl).elim
    | same hp =>
      obtain ⟨a1, r1, f1, k1, n1⟩ := ih1 hp (a.setIfInBounds _ .running) (ha.set trivial)
      obtain ⟨a2, r2, f2, k2, n2⟩ := ih2 rfl (a1.setIfInBounds _ _) (f1.set (plain_end n1))
      refine ⟨a2, .resumeSuspended (s := At _ a) hx r1 hq r2, f2, keep_wake (fun l c p fs cl z => ?_) k1 k2, n2⟩
      rw [hg] at z
      cases z
      exact (no_runs hr _ rfl).elim
  | resumeJustStarted hg hv _ ih => intro hf a ha; obtain ⟨a1, r, f, k, n⟩ := ih rfl a ha; exact ⟨a1, .resumeJustStarted (s := At _ a) (frz_fresh ha hg) hv r, f, k, n⟩
  | resumeThrowFresh hg _ ih =>
    intro hf a ha
    obtain ⟨a1, r, f, k, n⟩ := ih rfl (a.setIfInBounds _ .finished) (ha.set trivial)
    exact ⟨a1, .resumeThrowFresh (s := At _ a) (frz_fresh ha hg) r, f, (keep_set fun l c p fs cl z => by rw [hg] at z; cases z).trans k, n⟩
  | resumeRunning hg _ ih => intro hf a ha; obtain ⟨a1, r, f, k, n⟩ := ih rfl a ha; exact ⟨a1, .resumeRunning (s := At _ a) (frz_running ha hg) r, f, k, n⟩
  | resumeFinished hg _ ih => intro hf a ha; obtain ⟨a1, r, f, k, n⟩ := ih rfl a ha; exact ⟨a1, .resumeFinished (s := At _ a) (frz_finished ha hg) r, f, k, n⟩
  | segRet _ _ ih1 ih2 =>
    intro hf a ha
    obtain ⟨a1, r1, f1, k1, _⟩ := ih1 rfl a ha
    obtain ⟨a2, r2, f2, k2, n2⟩ := ih2 (split_tail hf) a1 f1
    exact ⟨a2, .segRet r1 r2, f2, k1.trans k2, n2⟩
  | segGen _ _ _ _ => intro hf; cases hf
  | segSuspOut hsp _ ih =>
    intro hf a ha
    obtain ⟨a1, r, f, k, n⟩ := ih rfl a ha
    refine ⟨a1, .segSuspOut hsp r, f, k, fun v g l k' c p fs' z => ?_⟩
    cases z
    exact split_append (n _ _ _ _ _ _ _ rfl) hf
  | segSuspGen hsp _ _ _ _ _ => intro hf; rw [hsp] at hf; cases hf
/-! ### the same of wp -/
/-- s' stands over s: the same but for the generators, those that could not be woken are as they were -/
def Thaw (a b : Array GenState) (s1 s1' : Shared) : Prop := s1 = At s1' s1.gens ∧ Frz s1.gens s1'.gens ∧ Keep a b s1.gens s1'.gens
theorem wp_frz {α : Type} (M : Model) (Γ : PySem.Ctx) (t : Sem α) : ∀ (Q : α → Pos → Shared → Prop) (E : Value → Pos → Shared → Prop) (p : Pos) (s : Shared) (a : Array GenState), Frz a s.gens → wp M Γ t Q E p s →
    wp M Γ t (fun x p' s1 => ∃ s1', Q x p' s1' ∧ Thaw a s.gens s1 s1') (fun e p' s1 => ∃ s1', E e p' s1' ∧ Thaw a s.gens s1 s1') p (At s a) := by
  have here : ∀ {s : Shared} {a : Array GenState}, Frz a s.gens → Thaw a s.gens (At s a) s := fun h => ⟨rfl, h, .rfl⟩
  have go : ∀ {M : Model} {Γ : PySem.Ctx} {t : Sem α} {Q : α → Pos → Shared → Prop} {E : Value → Pos → Shared → Prop} {p : Pos} {s : Shared} {a a1 b1 : Array GenState}, Keep a b1 a1 s.gens → wp M Γ t (fun x p' s1 => ∃ s1', Q x p' s1' ∧ Thaw a1 s.gens s1 s1') (fun e p' s1 => ∃ s1', E e p' s1' ∧ Thaw a1 s.gens s1 s1') p (At s a1) →
      wp M Γ t (fun x p' s1 => ∃ s1', Q x p' s1' ∧ Thaw a b1 s1 s1') (fun e p' s1 => ∃ s1', E e p' s1' ∧ Thaw a b1 s1 s1') p (At s a1) := fun k h =>
    Sem.wp_mono _ _ _ (fun _ _ _ ⟨s1', q, h1, h2, h3⟩ => ⟨s1', q, h1, h2, k.trans h3⟩) (fun _ _ _ ⟨s1', q, h1, h2, h3⟩ => ⟨s1', q, h1, h2, k.trans h3⟩) _ _ h
  induction t with
  | pure x => intro Q E p s a ha h; exact ⟨s, h, here ha⟩
  | raise e => intro Q E p s a ha h; exact ⟨s, h, here ha⟩
  | unsupported _ => intro Q E p s a _ h; exact h
  | finish _ => intro Q E p s a _ h; exact h
  | rule _ k ih => intro Q E p s a ha h; exact ih () Q E p s a ha h
  | «at» p' k ih => intro Q E p s a ha h; exact ih () Q E p' s a ha h
  | load b _ k ih => intro Q E p s a ha h; obtain ⟨o, ho, h⟩ := h; exact ⟨o, ho, ih o Q E p s a ha h⟩
  | update b _ f k ih => intro Q E p s a ha h; exact ⟨h.1, ih () Q E p { s with heap := s.heap.update b f } a ha h.2⟩
  | loadIfAlive b k ih => intro Q E p s a ha h; exact ih _ Q E p s a ha h
  | point _ k ih => intro Q E p s a ha h; exact ih () Q E p s a ha h
  | register _ _ => intro Q E p s a _ h; exact h
  | alloc o k ih => intro Q E p s a ha h; exact ih _ Q E p { s with heap := s.heap.push o } a ha h
  | fresh k ih => intro Q E p s a ha h; exact ih _ Q E p { s with toks := s.toks + 1 } a ha h
  | ask k ih => intro Q E p s a ha h; exact ih _ Q E p s a ha h
  | choose src m k ih => intro Q E p s a ha h; exact ⟨h.1, ih _ Q E p { s with drawn := s.drawn.bump src } a ha h.2⟩
  | os q _ k ih => intro Q E p s a ha h; exact ih _ Q E p { s with os := (Os.step s.os q).1 } a ha h
  | call c hd _ _ k ih =>
    intro Q E p s a ha h
    obtain ⟨r, s', hr, h⟩ := h
    obtain ⟨a1, r1, f1, k1, _⟩ := runs_frz hr rfl a ha
    exact ⟨r, At s' a1, r1, go k1 (ih r Q E p s' a1 f1 h)⟩
  | handled own k ih => intro Q E p s a ha h; exact ih _ Q E p s a ha h
  | genState g k ih =>
    intro Q E p s a ha h
    obtain ⟨st, hs, h⟩ := h
    obtain ⟨x, hx, fe⟩ := ha.get hs
    refine ⟨x, hx, ?_⟩
    rw [frzE_seen fe]
    exact ih _ Q E p s a ha h
  | newGen c k ih =>
    intro Q E p s a ha h
    show wp M Γ (k a.size) _ _ p (At { s with gens := s.gens.push (.fresh c) } (a.push (.fresh c)))
    rw [ha.size]
    exact go keep_push (ih _ Q E p { s with gens := s.gens.push (.fresh c) } (a.push (.fresh c)) (ha.push trivial) h)
  | resume g r _ k ih =>
    intro Q E p s a ha h
    obtain ⟨res, s', hw, h⟩ := h
    have main : ∃ a1, Wakes M Γ p g r (At s a) res (At s' a1) ∧ Frz a1 s'.gens ∧ Keep a s.gens a1 s'.gens := by
      unfold Wakes at hw ⊢
      cases hg : s.gens[g]? with
      | none => rw [hg] at hw; exact hw.elim
      | some st =>
        rw [hg] at hw
        obtain ⟨x, hx, fe⟩ := ha.get hg
        have hx' : (At s a).gens[g]? = some x := hx
        rw [hx']
        cases st with
        | fresh c =>
          cases fe
          dsimp only at hw ⊢
          split at hw
          · obtain ⟨e₁, s₁, hr, hq, he, rfl⟩ := hw
            obtain ⟨a1, r1, f1, k1, n1⟩ := runs_frz hr rfl (a.setIfInBounds g .running) (ha.set trivial)
            exact ⟨a1.setIfInBounds g e₁.genState, ⟨e₁, At s₁ a1, r1, hq, he, rfl⟩, f1.set (plain_end n1), keep_wake (fun l c p fs cl z => by rw [hg] at z; cases z) k1 .rfl⟩
          · obtain ⟨hw, rfl⟩ := hw
            exact ⟨a, ⟨hw, rfl⟩, ha, .rfl⟩
          · obtain ⟨hw, rfl⟩ := hw
            exact ⟨a.setIfInBounds g .finished, ⟨hw, rfl⟩, ha.set trivial, keep_set fun l c p fs cl z => by rw [hg] at z; cases z⟩
        | suspended k₀ l₀ c₀ p₀ fs₀ cl₀ =>
          dsimp only at hw
          obtain ⟨e₁, s₁, hr, hq, he, rfl⟩ := hw
          cases fe with
          | ice => exact (no_runs hr _ rfl).elim
          | same hp =>
            obtain ⟨a1, r1, f1, k1, n1⟩ := runs_frz hr hp (a.setIfInBounds g .running) (ha.set trivial)
            refine ⟨a1.setIfInBounds g e₁.genState, ⟨e₁, At s₁ a1, r1, hq, he, rfl⟩, f1.set (plain_end n1), keep_wake (fun l c p fs cl z => ?_) k1 .rfl⟩
            rw [hg] at z
            cases z
            exact (no_runs hr _ rfl).elim
        | running =>
          cases fe
          obtain ⟨hw, rfl⟩ := hw
          exact ⟨a, ⟨hw, rfl⟩, ha, .rfl⟩
        | finished =>
          cases fe
          obtain ⟨hw, rfl⟩ := hw
          exact ⟨a, ⟨hw, rfl⟩, ha, .rfl⟩
    obtain ⟨a1, hw', f1, k1⟩ := main
    exact ⟨res, At s' a1, hw', go k1 (ih res Q E p s' a1 f1 h)⟩
  | yield _ _ _ _ => intro Q E p s a _ h; exact h
  | stack k ih => intro Q E p s a ha h; exact ih _ Q E p s a ha h
  | fork _ _ => intro Q E p s a _ h; exact h
  | thread k ih => intro Q E p s a ha h; exact ih _ Q E p s a ha h
  | await _ _ _ _ _ => intro Q E p s a _ h; exact h
/-- who sleeps here sleeps there as it was -/
def Asleep (a a1 : Array GenState) : Prop := ∀ (i : Nat) k l c p fs cl, a[i]? = some (.suspended k l c p fs cl) → a1[i]? = some (.suspended k l c p fs cl)
theorem wpAny_frz {α : Type} {M : Model} {A : Around} {s : Shared} {t : Sem α} {Q : α → Shared → Prop} {E : Value → Shared → Prop} (h : wpAny M A t Q E (At s (iced s.gens))) :
    wpAny M A t (fun x s1 => ∃ s1', Q x s1' ∧ s1 = At s1' s1.gens ∧ Frz s1.gens s1'.gens ∧ Asleep s.gens s1.gens) (fun x s1 => ∃ s1', E x s1' ∧ s1 = At s1' s1.gens ∧ Frz s1.gens s1'.gens ∧ Asleep s.gens s1.gens) s := by
  intro Γ p hΓ
  have := wp_frz M Γ t _ _ p (At s (iced s.gens)) s.gens (iced_frz _) (h Γ p hΓ)
  refine Sem.wp_mono _ _ _ (fun _ _ s1 ⟨s1', q, h1, h2, h3⟩ => ⟨s1', q, h1, h2, fun i k l c p fs cl e => (h3 i k l c p fs cl e (iced_at e)).1⟩) (fun _ _ s1 ⟨s1', q, h1, h2, h3⟩ => ⟨s1', q, h1, h2, fun i k l c p fs cl e => (h3 i k l c p fs cl e (iced_at e)).1⟩) _ _ this
end GF
end

section
set_option maxHeartbeats 4000000
/-! a for within a generator's body, where nothing raises -/
namespace GF
open PySem PySem.Spec PyProof.Rows L2 GenW
section
variable {M : Model} {A : Around} {R : GenEnd} {Y : Protocol} {n : Nat} {s₀ : Shared} {c : Code} {fs : List Frame} {s : Shared} {env : Env} {K : Flow → Sem PySem.Fin} {J : Value → Sem PySem.Fin} {gd : Bool → Bool} {lv : List Value → List Value}
abbrev NoE : Value → Shared → Prop := fun _ _ => False
abbrev backK (env : Env) (K : Flow → Sem PySem.Fin) (J : Value → Sem PySem.Fin) (gd : Bool → Bool) (lv : List Value → List Value) : Result → Sem PySem.Fin :=
  fun r => ((match r with | .ok f => (.pure f : Sem Flow) | .error e => .raise e).onRaise (cameBack env)).wrap K J gd lv
theorem seg_For {target iter : Expr} {body : List Stmt} {pos : Pos}
    (h : wpAny M (A.over c fs) (eval iter env) (fun x s1 => wpAny M (A.over c fs) (pyIter x) (fun it s2 =>
      ∀ p, Seg M A R Y n s₀ (.forLoop target it body [] env) (M.den (.forLoop target it body [] env)) (.ret (backK env K J gd lv) none (gd false) (lv []) c p [] :: fs) s2) NoE s1) NoE s)
    (hs : ∀ x, foldedSetIterable iter env x = pure x := by intro _; rfl) :
    Seg M A R Y n s₀ c ((exec (.For target iter body [] pos) env).wrap K J gd lv) fs s := by
  rw [exec_For]
  refine seg_bind_wrap (wpAny_standAt ?_)
  refine seg_bind_wrap (wpAny_mono h (fun x s1 h1 => ?_) fun _ _ z => z.elim)
  rw [hs x]
  refine seg_bind_wrap (wpAny_pure ?_)
  refine seg_bind_wrap (wpAny_standAt ?_)
  refine seg_bind_wrap (wpAny_holding (wpAny_mono h1 (fun it s2 h2 => ?_) fun _ _ z => z.elim))
  exact seg_call h2
end
section
variable {prog : Program} {w : World} {A : Around} {R : GenEnd} {Y : Protocol} {n : Nat} {s₀ : Shared} {fs : List Frame} {s : Shared} {env : Env} {target : Expr} {it : Value} {body : List Stmt}
abbrev turnK (target : Expr) (it : Value) (body : List Stmt) (env : Env) : Flow → Sem PySem.Fin := fun f => match f with
  | .next | .cont => .pure (.again (.forLoop target it body [] env))
  | .brk => .pure (.done .next)
  | .ret v => .pure (.done (.ret v))
abbrev turnJ (env : Env) : Value → Sem PySem.Fin := fun e => (do noteFrame e env; theTreesLotGoes e : Sem Unit).wrap (fun _ => .raise e) .raise id id
theorem seg_forLoop (hq : Code.quiet (.block [] env) = true)
    (h : wpAny (model prog w) (A.over (.forLoop target it body [] env) fs) (pyNext it) (fun r s1 => match r with
      | none => Seg (model prog w) A R Y n s₀ (.block [] env) (.pure (.done .next)) fs s1
      | some v => wpAny (model prog w) (A.over (.forLoop target it body [] env) fs) (letOwnedTupleGo target it v) (fun _ s2 =>
          wpAny (model prog w) (A.over (.forLoop target it body [] env) fs) (assign target env v) (fun _ s3 =>
            Seg (model prog w) A R Y n s₀ (.forLoop target it body [] env) ((execs body env).wrap (turnK target it body env) (turnJ env) id id) fs s3) NoE s2) NoE s1) NoE s) :
    Seg (model prog w) A R Y n s₀ (.forLoop target it body [] env) ((model prog w).den (.forLoop target it body [] env)) fs s := by
  show Seg _ A R Y n s₀ _ ((forTurn target it body [] env).onRaise (fun x => do noteFrame x env; theTreesLotGoes x)) fs s
  unfold forTurn
  rw [Sem.onRaise_eq_wrap]
  refine seg_bind_wrap (wpAny_standAt ?_)
  refine seg_bind_wrap ?_
  refine wpAny_onRaise (wpAny_mono h (fun r s1 h1 => ?_) fun _ _ z => z.elim)
  cases r with
  | none =>
    show Seg _ A R Y n s₀ _ (Sem.pure (Fin.again (.block [] env))) fs s1
    refine seg_again hq ?_
    exact h1
  | some v =>
    show Seg _ A R Y n s₀ _ ((letOwnedTupleGo target it v >>= fun _ => assign target env v >>= fun _ => execs body env >>= fun f => _).wrap _ _ _ _) fs s1
    refine seg_bind_wrap (wpAny_mono h1 (fun _ s2 h2 => ?_) fun _ _ z => z.elim)
    refine seg_bind_wrap (wpAny_mono h2 (fun _ s3 h3 => ?_) fun _ _ z => z.elim)
    rw [Sem.bind_eq_wrap', Sem.wrap_wrap]
    rw [Sem.wrap_congr (execs body env) _ _ (K' := turnK target it body env) (H' := turnJ env)
      (fun f => by cases f <;> rfl)
      (fun e => by first | exact Sem.bind_eq_wrap _ _ | (show (do noteFrame e env; theTreesLotGoes e : Sem Unit).bind (fun _ => .raise e) = _; rw [Sem.bind_eq_wrap]))]
    exact h3
end
end GF
end

section
set_option maxHeartbeats 4000000
/-! a generator's body: from one waking to the next it is held as if it were called anew -/
namespace GF
open PySem PySem.Spec PyProof.Rows L2 GenW
/-- what a generator hands out: how many things; the i-th one (woken over Hw, handed out over H1); what must stand when it is woken again; the end -/
structure Strm where
  n : Nat
  item : Nat → V → Hp → Hp → Prop
  stb : Hp → Prop
  fin : Hp → Hp → Prop
/-- the world as the generator was woken last -/
structure Bs where
  s : Shared
  H : Hp
/-- the first n objects -/
def cutH (n : Nat) (h : Heap) : Heap := ⟨h.objs.extract 0 n, h.life⟩
theorem cut_size {n : Nat} {h : Heap} (hn : n ≤ h.objs.size) : (cutH n h).objs.size = n := by
  show (h.objs.extract 0 n).size = n
  rw [Array.size_extract]; omega
theorem cut_get {n : Nat} {h : Heap} {b : Nat} (hb : b < n) : (cutH n h).get? b = h.get? b := by
  have e : (cutH n h).objs[b]? = h.objs[b]? := by
    show (h.objs.extract 0 n)[b]? = _
    rw [Array.getElem?_extract]
    by_cases q : b < h.objs.size
    · rw [if_pos (by omega)]; simp
    · rw [if_neg (by omega), Array.getElem?_eq_none (by omega)]
  unfold Heap.get?
  rw [e]
theorem cut_none {n : Nat} {h : Heap} {b : Nat} (hb : n ≤ b) : (cutH n h).get? b = none := by
  have e : (cutH n h).objs[b]? = none := by
    show (h.objs.extract 0 n)[b]? = _
    rw [Array.getElem?_eq_none]
    rw [Array.size_extract]; omega
  unfold Heap.get?
  rw [e]
theorem cut_some {n : Nat} {h : Heap} {b : Nat} {o : Obj} (e : (cutH n h).get? b = some o) : b < n ∧ h.get? b = some o := by
  by_cases hb : b < n
  · exact ⟨hb, by rw [← cut_get hb]; exact e⟩
  · rw [cut_none (by omega)] at e; cases e
abbrev sz0 (X : Cx) : Nat := X.s_0.heap.objs.size
def cxB (X : Cx) (b : Bs) : Cx := { X with s_0 := { b.s with heap := cutH (sz0 X) b.s.heap }, H_0 := b.H }
/-- a generator's context: no cells, nothing turned, nothing raised -/
structure Tm (X : Cx) : Prop where
  ok : X.Ok
  cells : X.env.cells = []
  ex : X.ex = []
  xe : ∀ e s, ¬ X.xe e s
  calm : X.calm = true
/-- what a consumer gives back -/
structure Woke (X : Cx) (gp : List (Addr × Obj)) (s' : Shared) (H' : Hp) : Prop where
  bare : AllBare s'.gens
  sz : sz0 X ≤ s'.heap.objs.size
  pin : ∀ p ∈ gp, s'.heap.get? p.1 = some p.2 ∧ H' p.1 = none
  bs : ∀ b o, X.base.get? b = some o → s'.heap.get? b = some o ∧ H' b = none
  funs : s'.heap.FunFrames X.base X.outer
  frf : ∀ b ∈ X.fs, H' b = none
  hok : HOk X.prog X.w H' s'.heap
theorem funs_cut {base h : Heap} {n : Nat} : ∀ {l : List Env}, h.FunFrames base l → (∀ L ∈ frs l, L < n) → (cutH n h).FunFrames base l
  | [], _, _ => trivial
  | env :: rest, ⟨hk, ⟨L, o, hf, hn, ho, hd⟩, hr⟩, hl => by
    refine ⟨hk, ⟨L, o, hf, hn, ?_, hd⟩, funs_cut hr fun b hb => hl b ?_⟩
    · rw [cut_get (hl L ?_)]
      · exact ho
      · show L ∈ List.filterMap (·.frame) (env :: rest)
        rw [List.filterMap_cons, hf]
        exact List.mem_cons_self
    · show b ∈ List.filterMap (·.frame) (env :: rest)
      rw [List.filterMap_cons, hf]
      exact List.mem_cons_of_mem _ hb
theorem Tm.fsLt {X : Cx} (T : Tm X) : ∀ L ∈ frs X.outer, L < sz0 X := fun L hL => by
  obtain ⟨_, o, ho, _⟩ := T.ok.funs.mem hL
  exact Heap.lt_size ho
theorem Tm.okB {X : Cx} (T : Tm X) {gp : List (Addr × Obj)} {s' : Shared} {H' : Hp} (W : Woke X gp s' H') : (cxB X ⟨s', H'⟩).Ok := by
  have ok := T.ok
  have es : (cxB X ⟨s', H'⟩).s_0.heap.objs.size = sz0 X := cut_size W.sz
  refine ⟨ok.mod, ok.kind, ok.glob, ok.blt, ?_, ok.inj, ok.has, fun x c h1 h2 => ?_, ok.hd, ok.frames, ok.stk, ok.exf, fun b o e => ?_, ?_, ok.noex, ok.exfs, funs_cut W.funs T.fsLt, W.frf⟩
  · rw [es]; exact ok.above
  · rw [es]; exact ok.cab x c h1 h2
  · obtain ⟨h1, h2⟩ := W.bs b o e
    refine ⟨?_, h2⟩
    show (cutH (sz0 X) s'.heap).get? b = some o
    rw [cut_get (Nat.lt_of_lt_of_le (Heap.lt_size e) ok.bsz)]
    exact h1
  · rw [es]; exact ok.bsz
/-- woken again -/
theorem rebase {X : Cx} (T : Tm X) {b : Bs} {ip : List (Addr × Obj)} {σ : L2.St} {H H' : Hp} {s s' : Shared} {gp : List (Addr × Obj)} (I : Inv (cxB X b) ip σ H s) (W : Woke X gp s' H')
    (hL : ∃ o, s.heap.get? X.env.locals = some o ∧ (X.env.locals, o) ∈ gp) (hp : ∀ p ∈ X.pn ++ ip, p ∈ gp) : Inv (cxB X ⟨s', H'⟩) ip σ H' s' := by
  obtain ⟨oL, eL, mL⟩ := hL
  refine ⟨T.okB W, rfl, W.bare, Un.kept fun b u e => (cut_some e).2, ?_, fun x c e => ?_, (W.pin _ mL).2, fun x c e => ?_, fun p h => ?_, W.hok, I.len⟩
  · obtain ⟨m, hn, hl⟩ := I.loc
    refine ⟨m, ?_, fun i x v e1 e2 e3 => ?_⟩
    · obtain ⟨o, es, ep, ho, r⟩ := hn
      have : s.heap.get? X.env.locals = some o := ho
      rw [eL] at this
      cases this
      exact ⟨oL, es, ep, (W.pin _ mL).1, r⟩
    · obtain ⟨u, r, l⟩ := hl i x v e1 e2 e3
      refine ⟨u, r, ?_⟩
      rcases l with l | ⟨k, c, e, z⟩
      · exact .inl l
      · have e' : X.env.cells.lookup x = some c := e
        rw [T.cells] at e'
        cases e'
  · have e' : X.env.cells.lookup x = some c := e
    rw [T.cells] at e'
    cases e'
  · have e' : X.env.cells.lookup x = some c := e
    rw [T.cells] at e'
    cases e'
  · obtain ⟨_, _, h3, h4, h5⟩ := I.pin p h
    obtain ⟨q1, q2⟩ := W.pin p (hp p h)
    exact ⟨q1, q2, h3, h4, h5⟩
/-- what a stretch from one waking to a yield or the end has left alone -/
structure Did (X : Cx) (s₀ : Shared) (Hw H1 : Hp) (s : Shared) : Prop where
  os : s.os = s₀.os
  bare : AllBare s.gens
  un : Un X.fs [] Hw H1 (cutH (sz0 X) s₀.heap) s.heap
  hok : HOk X.prog X.w H1 s.heap
  same : Same Hw H1
/-! ### the protocol -/
abbrev PP := Nat → Shared → Hp → Prop
def GY (X : Cx) (S : Strm) (P : PP) : Protocol := fun n s₀ v s kap => ∃ (i : Nat) (x : V) (Hw H1 : Hp) (gp : List (Addr × Obj)), n + i = S.n ∧ i < S.n ∧ P i s₀ Hw ∧ RelV x v ∧ S.item i x Hw H1 ∧ Did X s₀ Hw H1 s ∧
  (∀ p ∈ gp, sz0 X ≤ p.1 ∧ s.heap.get? p.1 = some p.2 ∧ H1 p.1 = none ∧ ∀ v, p.2.data ≠ .cell v) ∧ (∀ p ∈ X.pn, p ∈ gp) ∧
  ∀ s' H', Woke X gp s' H' → S.stb H' → P (i + 1) s' H' → kap (.send .none) s' ∧ kap (.send (.bool true)) s'
def GF0 (X : Cx) (S : Strm) (P : PP) : Nat → Shared → Shared → Prop := fun n s₀ s => ∃ (Hw H1 : Hp), P S.n s₀ Hw ∧ S.fin Hw H1 ∧ Did X s₀ Hw H1 s ∧ ∀ p ∈ X.pn, s.heap.get? p.1 = some p.2
def GR (X : Cx) (S : Strm) (P : PP) : GenEnd := fun n s₀ r s => ((r = .ok (.ret .none) ∨ r = .ok .next) ∧ GF0 X S P n s₀ s) ∨ ∃ e, r = .error e ∧ False
structure GEndsF where
  nx : Nat → L2.St → Hp → Hp → Prop
  rt : Nat → V → Hp → Hp → Prop
  bk : Nat → L2.St → Hp → Hp → Prop := fun _ _ _ _ => False
  ct : Nat → L2.St → Hp → Hp → Prop := fun _ _ _ _ => False
abbrev TGf := GEndsF → Nat → L2.St → Hp → Hp → Prop
def GEndsF.at (D : GEndsF) (i : Nat) (Hw : Hp) : Ends := { nx := fun σ H => D.nx i σ Hw H, rt := fun v H => D.rt i v Hw H, bk := fun σ H => D.bk i σ Hw H, ct := fun σ H => D.ct i σ Hw H }
def GSPf (X : Cx) (ip : List (Addr × Obj)) (D : GEndsF) (i : Nat) (b : Bs) (f : Flow) (s : Shared) : Prop := SP (cxB X b) ip (D.at i b.H) f s
structure GCf (X : Cx) (ip : List (Addr × Obj)) (A : Around) (c : Code) (fs : List Frame) (gd : Bool → Bool) : Prop where
  over : A.over c fs = X.A
  split : splitAtGen fs = none
  guard : fs.any Frame.guarded = false
  gd : gd false = false
  young : ∀ p ∈ X.pn ++ ip, sz0 X ≤ p.1
structure Wk (X : Cx) (P : PP) (i : Nat) (s₀ : Shared) (b : Bs) : Prop where
  e : b.s = s₀
  p : P i s₀ b.H
  sz : sz0 X ≤ s₀.heap.objs.size
abbrev GKf (X : Cx) (S : Strm) (P : PP) (ip : List (Addr × Obj)) (A : Around) (c : Code) (fs : List Frame) (K : Flow → Sem PySem.Fin) (D : GEndsF) : Prop :=
  ∀ (n i : Nat) (s₀ s : Shared) (b : Bs) (f : Flow), n + i = S.n + 1 → Wk X P i s₀ b → GSPf X ip D i b f s → Seg (model X.prog X.w) A (GR X S P) (GY X S P) n s₀ c (K f) fs s
structure GSf (X : Cx) (S : Strm) (st : Stmt) (t : TGf) : Prop where
  run : ∀ (P : PP) (A : Around) (ip : List (Addr × Obj)) (n i : Nat) (s₀ : Shared) (b : Bs) (c : Code) (fs : List Frame) (K : Flow → Sem PySem.Fin) (J : Value → Sem PySem.Fin) (gd : Bool → Bool) (lv : List Value → List Value) (s : Shared) (σ : L2.St) (H : Hp) (D : GEndsF),
    GCf X ip A c fs gd → n + i = S.n + 1 → Wk X P i s₀ b → GKf X S P ip A c fs K D → Inv (cxB X b) ip σ H s → t D i σ b.H H →
    Seg (model X.prog X.w) A (GR X S P) (GY X S P) n s₀ c ((exec st X.env).wrap K J gd lv) fs s
structure GSsf (X : Cx) (S : Strm) (st : List Stmt) (t : TGf) : Prop where
  run : ∀ (P : PP) (A : Around) (ip : List (Addr × Obj)) (n i : Nat) (s₀ : Shared) (b : Bs) (c : Code) (fs : List Frame) (K : Flow → Sem PySem.Fin) (J : Value → Sem PySem.Fin) (gd : Bool → Bool) (lv : List Value → List Value) (s : Shared) (σ : L2.St) (H : Hp) (D : GEndsF),
    GCf X ip A c fs gd → n + i = S.n + 1 → Wk X P i s₀ b → GKf X S P ip A c fs K D → Inv (cxB X b) ip σ H s → t D i σ b.H H →
    Seg (model X.prog X.w) A (GR X S P) (GY X S P) n s₀ c ((execs st X.env).wrap K J gd lv) fs s
section
variable {X : Cx} {S : Strm} {st : Stmt} {rest : List Stmt}
def tPl (t : TS) : TGf := fun D i σ Hw H => t (D.at i Hw) σ H
theorem gsf_ps {t : TS} (T : Tm X) (h : ∀ b, PS (cxB X b) st t) : GSf X S st (tPl t) := by
  refine ⟨fun P A ip n i s₀ b c fs K J gd lv s σ H D g hn wk k I ht => ?_⟩
  refine seg_wrap ?_
  rw [g.over]
  exact wpAny_mono ((h b).run ip s σ H (D.at i b.H) I ht) (fun f s' hs => k n i s₀ s' b f hn wk hs) fun x s' hx => (T.xe x s' hx).elim
theorem gsf_pss {t : TS} (T : Tm X) (h : ∀ b, PSs (cxB X b) rest t) : GSsf X S rest (tPl t) := by
  refine ⟨fun P A ip n i s₀ b c fs K J gd lv s σ H D g hn wk k I ht => ?_⟩
  refine seg_wrap ?_
  rw [g.over]
  exact wpAny_mono ((h b).run ip s σ H (D.at i b.H) I ht) (fun f s' hs => k n i s₀ s' b f hn wk hs) fun x s' hx => (T.xe x s' hx).elim
def tGf0 : TGf := fun D i σ Hw H => D.nx i σ Hw H
theorem gsf_nil : GSsf X S [] tGf0 :=
  ⟨fun P A ip n i s₀ b c fs K J gd lv s σ H D g hn wk k I ht => seg_execs_nil (k n i s₀ s b .next hn wk ⟨σ, H, I, ht⟩)⟩
def tGfThen (t u : TGf) : TGf := fun D i σ Hw H => t { D with nx := fun i' σ' Hw' H' => u D i' σ' Hw' H' } i σ Hw H
theorem gsf_cons {t u : TGf} (a : GSf X S st t) (b : GSsf X S rest u) : GSsf X S (st :: rest) (tGfThen t u) := by
  refine ⟨fun P A ip n i s₀ bb c fs K J gd lv s σ H D g hn wk k I ht => ?_⟩
  refine seg_execs_cons ?_
  refine a.run P A ip n i s₀ bb c fs _ J gd lv s σ H { D with nx := fun i' σ' Hw' H' => u D i' σ' Hw' H' } g hn wk (fun n' i' s₀' s' b' f hn' wk' hs => ?_) I ht
  cases f with
  | next =>
    obtain ⟨σ', H', I', q⟩ := hs
    exact b.run P A ip n' i' s₀' b' c fs K J gd lv s' σ' H' D g hn' wk' k I' q
  | brk => exact k n' i' s₀' s' b' .brk hn' wk' hs
  | cont => exact k n' i' s₀' s' b' .cont hn' wk' hs
  | ret u => exact k n' i' s₀' s' b' (.ret u) hn' wk' hs
theorem gsf_one {t : TGf} (a : GSf X S st t) : GSsf X S [st] (tGfThen t tGf0) := gsf_cons a gsf_nil
/-! ### yield -/
def tGfYield (S : Strm) (te : TE) : TGf := fun D i σ Hw H => te σ H fun x H1 => i < S.n ∧ S.item i x Hw H1 ∧ Same Hw H1 ∧ ∀ H2, S.stb H2 → D.nx (i + 1) σ H2 H2
theorem did_of {b : Bs} {ip : List (Addr × Obj)} {σ : L2.St} {H1 : Hp} {s s₀ : Shared} (T : Tm X) (e : b.s = s₀) (I : Inv (cxB X b) ip σ H1 s) (sm : Same b.H H1) : Did X s₀ b.H H1 s := by
  subst e
  have u : Un X.fs X.ex b.H H1 (cutH (sz0 X) b.s.heap) s.heap := I.base
  rw [T.ex] at u
  exact ⟨I.os, I.bare, u, I.hok, sm⟩
theorem gsf_yield {e : Expr} {yp pos : Pos} {te : TE} (T : Tm X) (he : ∀ b, PE (cxB X b) e te) (hco : X.env.scope.isCoroutine = false := by rfl) (hi : interactive X.env = false := by rfl) : GSf X S (.Expr (.Yield (some e) yp) pos) (tGfYield S te) := by
  refine ⟨fun P A ip n i s₀ b c fs K J gd lv s σ H D g hn wk k I ht => ?_⟩
  obtain ⟨m, hm⟩ : ∃ m, m = n := ⟨n, rfl⟩
  have body : wpAny (model X.prog X.w) (A.over c fs) (eval e X.env) (EP (cxB X b) ip σ fun x H1 => i < S.n ∧ S.item i x b.H H1 ∧ Same b.H H1 ∧ ∀ H2, S.stb H2 → D.nx (i + 1) σ H2 H2) NoE s := by
    rw [g.over]
    exact wpAny_mono ((he b).run ip s σ H _ I ht) (fun _ _ z => z) fun x s' hx => (T.xe x s' hx).elim
  cases n with
  | zero =>
    -- no room for it: it never comes here
    refine seg_wrap ?_
    rw [exec_Expr X.env _ pos hi rfl]
    refine wpAny_bind (wpAny_standAt (wpAny_bind ?_))
    show wpAny _ _ (eval e X.env >>= fun v => _) _ _ s
    refine wpAny_bind (wpAny_mono body (fun v s' hv => ?_) fun _ _ z => z.elim)
    obtain ⟨x, H1, I1, rv, hlt, _⟩ := hv
    omega
  | succ n =>
    refine seg_Expr_Yield g.split g.gd g.guard (wpAny_mono body (fun v s' hv => ?_) fun _ _ z => z.elim) hco hi
    obtain ⟨x, H1, I1, rv, hlt, hit, sm, q⟩ := hv
    intro kap hk
    obtain ⟨mm, ⟨oL, es, ep, hoL, r⟩, _⟩ := id I1.loc
    have hnL : ∀ v, oL.data ≠ .cell v := fun v z => by
      have := r.1
      rw [z] at this
      cases this
    refine ⟨i, x, b.H, H1, (X.env.locals, oL) :: (X.pn ++ ip), by omega, hlt, wk.p, rv, hit, did_of T wk.e I1 sm, fun p hp => ?_, fun p hp => List.mem_cons_of_mem _ (List.mem_append_left _ hp), fun s'' H' W st hP => ?_⟩
    · rcases List.mem_cons.mp hp with z | z
      · subst z
        exact ⟨T.ok.above, hoL, I1.free, hnL⟩
      · obtain ⟨q1, q2, _, _, q5⟩ := I1.pin p z
        exact ⟨g.young p z, q1, q2, q5⟩
    · have I2 := rebase T I1 W ⟨oL, hoL, List.mem_cons_self⟩ fun p hp => List.mem_cons_of_mem _ hp
      have z := k n (i + 1) s'' s'' ⟨s'', H'⟩ .next (by omega) ⟨rfl, hP, W.sz⟩ ⟨σ, H', I2, q H' st⟩
      exact ⟨hk .none s'' z, hk (.bool true) s'' z⟩
end
end GF
end

section
set_option maxHeartbeats 4000000
/-! for within a generator's body -/
namespace GF
open PySem PySem.Spec PyProof.Rows L2 GenW
section
variable {X : Cx} {S : Strm}
def tGfFor (wi : TI) (g : TG) (tb : TGf) : TGf := fun D i σ Hw H => wi σ H fun J H1 => ∃ W : Nat → Nat → Nat → L2.St → Hp → Hp → Prop, (∃ m, W 0 m i σ Hw H1) ∧ ∀ j m i σ Hw H, W j m i σ Hw H →
  (J.stop j H ∧ D.nx i σ Hw H) ∨ (J.go j H ∧ ∃ N : Nat → L2.St → Hp → Hp → Prop, (∀ i' σ' Hw' H', N i' σ' Hw' H' → ∃ m', m' < m ∧ W (j + 1) m' i' σ' Hw' H') ∧
    ∀ x H', J.yld j H x H' → g x σ H' fun σ2 H2 => tb { D with nx := N, ct := N, bk := D.nx } i σ2 Hw H2)
theorem gcf_loop {ip ip' : List (Addr × Obj)} {A : Around} {c c' : Code} {fs : List Frame} {gd : Bool → Bool} {k : Result → Sem PySem.Fin} {l kp : List Value} {p : Pos} (g : GCf X ip A c fs gd) (hw : c'.weight = 0) (hu : c'.cUnits = 0) (hy : ∀ p ∈ ip', sz0 X ≤ p.1) :
    GCf X (ip ++ ip') A c' (.ret k none (gd false) l c p kp :: fs) id where
  over := (over_loop hw hu).trans g.over
  split := by
    show (splitAtGen fs).map _ = none
    rw [g.split]; rfl
  guard := by
    show (gd false || fs.any Frame.guarded) = false
    rw [g.gd, g.guard]; rfl
  gd := rfl
  young := fun p hp => by
    rcases List.mem_append.mp hp with z | z
    · exact g.young p (List.mem_append_left _ z)
    · rcases List.mem_append.mp z with z | z
      · exact g.young p (List.mem_append_right _ z)
      · exact hy p z
theorem gsf_for {tg iter : Expr} {body : List Stmt} {wi : TI} {g : TG} {tb : TGf} {pos : Pos} (T : Tm X) (hi : ∀ b, PI (cxB X b) tg iter wi) (hg : ∀ b, PG (cxB X b) tg g) (hb : GSsf X S body tb)
    (hs : ∀ x, foldedSetIterable iter X.env x = pure x := by intro _; rfl) : GSf X S (.For tg iter body [] pos) (tGfFor wi g tb) := by
  refine ⟨fun P A ip n i s₀ b c fs K J gd lv s σ H D gc hn wk k I ht => ?_⟩
  have nx : ∀ {b : Bs} {α : Type} {t : Sem α} {Q : α → Shared → Prop} {s : Shared}, wpAny (model X.prog X.w) X.A t Q (cxB X b).xe s → wpAny (model X.prog X.w) X.A t Q NoE s := fun h =>
    wpAny_mono h (fun _ _ z => z) fun x s' hx => (T.xe x s' hx).elim
  refine seg_For (s := s) ?_ hs
  rw [gc.over]
  refine wpAny_mono (nx ((hi b).run ip s σ H _ I ht)) (fun v s1 h1 => ?_) fun _ _ z => z
  refine wpAny_mono (nx (b := b) h1) (fun itv s2 h2 => ?_) fun _ _ z => z
  intro p
  obtain ⟨it, fp, tn, Jt, H2, e, I2, TT, st2, f2, W, ⟨m0, w0⟩, turn⟩ := h2
  subst e
  have TT : Turn X.prog X.w X.K tg Jt fp it tn := TT
  have yf : ∀ b' ∈ fp, sz0 X ≤ b' := fun b' hb' => by
    rcases (f2 b' hb').2.2.2.1 with z | z
    · have z' : b' ∈ X.ex := z
      rw [T.ex] at z'; cases z'
    · have e : (cxB X b).s_0.heap.objs.size = sz0 X := cut_size (by rw [wk.e]; exact wk.sz)
      rw [e] at z; exact z
  have stat : ∀ {b' : Bs} {H' : Hp}, sz0 X ≤ b'.s.heap.objs.size → (∀ a ∈ fp, H' a = none) → ∀ a ∈ fp, FpOk (cxB X b') ip H' a := fun {b' H'} hz hn' a ha => by
    obtain ⟨_, q2, q3, q4, q5, q6⟩ := f2 a ha
    refine ⟨hn' a ha, q2, q3, .inr ?_, q5, q6⟩
    rw [show (cxB X b').s_0.heap.objs.size = sz0 X from cut_size hz]
    exact yf a ha
  have pass : ∀ {α : Type} {t : Sem α} {Q : α → Shared → Prop} {s : Shared} {fs' : List Frame} {c' : Code}, A.over c' fs' = X.A → wpAny (model X.prog X.w) X.A t Q NoE s → wpAny (model X.prog X.w) (A.over c' fs') t Q NoE s := fun e h => by rw [e]; exact h
  have loop : ∀ (m n i j : Nat) (s₀ : Shared) (b : Bs) (s : Shared) (σ : L2.St) (H : Hp), n + i = S.n + 1 → Wk X P i s₀ b → W j m i σ b.H H → Inv (cxB X b) ip σ H s → tn j s.heap → (∀ a ∈ fp, H a = none) →
      Seg (model X.prog X.w) A (GR X S P) (GY X S P) n s₀ (.forLoop tg (.ref it) body [] X.env) ((model X.prog X.w).den (.forLoop tg (.ref it) body [] X.env)) (.ret (backK X.env K J gd lv) none (gd false) (lv []) c p [] :: fs) s := by
    intro m
    induction m using Nat.strongRecOn with
    | ind m ih =>
      intro n i j s₀ b s σ H hn wk w I st fr
      have ov : A.over (.forLoop tg (.ref it) body [] X.env) (.ret (backK X.env K J gd lv) none (gd false) (lv []) c p [] :: fs) = X.A := (over_loop (by rfl) (by rfl)).trans gc.over
      have hz : sz0 X ≤ b.s.heap.objs.size := by rw [wk.e]; exact wk.sz
      refine seg_forLoop rfl (pass ov ?_)
      rcases turn j m i σ b.H H w with ⟨stop, qn⟩ | ⟨go, N, hN, step⟩
      · refine wpAny_mono (TT.done (cxB X b) rfl rfl rfl T.calm j ip s σ H NoE I (stat hz fr) st stop) (fun r s4 ⟨hr, I4⟩ => ?_) fun _ _ z => z
        subst hr
        exact seg_leaf (.ok .next) (k n i s₀ s4 b .next hn wk ⟨σ, H, I4, qn⟩)
      · refine wpAny_mono (TT.item (cxB X b) rfl rfl rfl T.calm j ip s σ H NoE I (stat hz fr) st go) (fun r s4 ⟨u, hr, h4⟩ => ?_) fun _ _ z => z
        subst hr
        refine pass ov (wpAny_mono h4 (fun _ s5 ⟨x, H5, I5, r5, y5, st5, fr5⟩ => ?_) fun _ _ z => z)
        have I5' := I5.pinned (stat hz fr5) (TT.obj _ _ st5)
        refine pass ov (wpAny_mono (nx (b := b) ((hg b).run _ s5 σ H5 x u _ I5' r5 (step x H5 y5))) (fun _ s6 ⟨σ6, H6, I6, q6⟩ => ?_) fun _ _ z => z)
        refine hb.run P A (ip ++ pinsAt fp s5.heap) n i s₀ b _ _ _ _ id id s6 σ6 H6 { D with nx := N, ct := N, bk := D.nx } (gcf_loop gc rfl rfl fun q hq => yf q.1 (of_pinsAt hq).1) hn wk (fun n' i' s₀' s7 b' f hn' wk' hs7 => ?_) I6 q6
        have again : ∀ {σ7 : L2.St} {H7 : Hp}, Inv (cxB X b') (ip ++ pinsAt fp s5.heap) σ7 H7 s7 → N i' σ7 b'.H H7 →
            Seg (model X.prog X.w) A (GR X S P) (GY X S P) n' s₀' (.forLoop tg (.ref it) body [] X.env) (.pure (.again (.forLoop tg (.ref it) body [] X.env))) (.ret (backK X.env K J gd lv) none (gd false) (lv []) c p [] :: fs) s7 := fun {σ7 H7} I7 n7 => by
          obtain ⟨m', hm, w7⟩ := hN i' σ7 b'.H H7 n7
          refine seg_again rfl (ih m' hm n' i' (j + 1) s₀' b' s7 σ7 H7 hn' wk' w7 I7.unpinned (TT.keep _ _ _ st5 fun a ha o e => (I7.pin (a, o) (List.mem_append_right _ (List.mem_append_right _ (mem_pinsAt ha e)))).1) fun a ha => ?_)
          obtain ⟨o, e, d⟩ := TT.obj _ _ st5 a ha
          exact (I7.pin (a, o) (List.mem_append_right _ (List.mem_append_right _ (mem_pinsAt ha e)))).2.1
        cases f with
        | next => obtain ⟨σ7, H7, I7, n7⟩ := hs7; exact again I7 n7
        | cont => obtain ⟨σ7, H7, I7, n7⟩ := hs7; exact again I7 n7
        | brk => obtain ⟨σ7, H7, I7, q7⟩ := hs7; exact seg_leaf (.ok .next) (k n' i' s₀' s7 b' .next hn' wk' ⟨σ7, H7, I7.unpinned, q7⟩)
        | ret v => obtain ⟨x7, σ7, H7, I7, r7, q7⟩ := hs7; exact seg_leaf (.ok (.ret v)) (k n' i' s₀' s7 b' (.ret v) hn' wk' ⟨x7, σ7, H7, I7.unpinned, r7, q7⟩)
  exact loop m0 n i 0 s₀ b s2 σ H2 hn wk w0 I2 st2 fun a ha => (f2 a ha).1
end
end GF
end

section
set_option maxHeartbeats 4000000
/-! a generator def's promise, by its body -/
namespace GF
open PySem PySem.Spec PyProof.Rows L2 GenW
theorem rebase0 {X : Cx} (T : Tm X) {ip : List (Addr × Obj)} {σ : L2.St} {H H' : Hp} {s s' : Shared} {gp : List (Addr × Obj)} (I : Inv X ip σ H s) (W : Woke X gp s' H')
    (hL : ∃ o, s.heap.get? X.env.locals = some o ∧ (X.env.locals, o) ∈ gp) (hp : ∀ p ∈ X.pn ++ ip, p ∈ gp) : Inv (cxB X ⟨s', H'⟩) ip σ H' s' := by
  obtain ⟨oL, eL, mL⟩ := hL
  refine ⟨T.okB W, rfl, W.bare, Un.kept fun b u e => (cut_some e).2, ?_, fun x c e => ?_, (W.pin _ mL).2, fun x c e => ?_, fun p h => ?_, W.hok, I.len⟩
  · obtain ⟨m, hn, hl⟩ := I.loc
    refine ⟨m, ?_, fun i x v e1 e2 e3 => ?_⟩
    · obtain ⟨o, es, ep, ho, r⟩ := hn
      rw [eL] at ho
      cases ho
      exact ⟨oL, es, ep, (W.pin _ mL).1, r⟩
    · obtain ⟨u, r, l⟩ := hl i x v e1 e2 e3
      refine ⟨u, r, ?_⟩
      rcases l with l | ⟨k, c, e, z⟩
      · exact .inl l
      · rw [T.cells] at e
        cases e
  · have e' : X.env.cells.lookup x = some c := e
    rw [T.cells] at e'
    cases e'
  · have e' : X.env.cells.lookup x = some c := e
    rw [T.cells] at e'
    cases e'
  · obtain ⟨_, _, h3, h4, h5⟩ := I.pin p h
    obtain ⟨q1, q2⟩ := W.pin p (hp p h)
    exact ⟨q1, q2, h3, h4, h5⟩
def EF : XK := fun _ _ _ => False
def gX (P : Program) (w : World) (K : PySem.W.Frag) (mg : Str → Option Value) (base : Heap) (N : List Str) (qual : Str) (scope : Scope) (f : Addr) (cd : Value) (A : Around) (outer : List Env) (s : Shared) (H : Hp) (pn : List (Addr × Obj)) : Cx :=
  (gcxOf P w K mg base N qual scope f cd A outer s H EF pn).wish fun _ _ => False
/-- a call has made a generator -/
def GMadeS (P : Program) (w : World) (base : Heap) (k : Nat) (outer : List Env) (H : Hp) (s : Shared) (S : Strm) (u : Value) (s' : Shared) : Prop :=
  ∃ (X : Around → Cx) (a : Addr) (g : Nat) (c : Code) (go : Obj), u = .ref a ∧ s'.heap.get? a = some go ∧ (∀ h : Heap, h.get? a = some go → h.IsGen a g) ∧ s.heap.objs.size ≤ a ∧ s'.gens[g]? = some (.fresh c) ∧ s'.os = s.os ∧ AllBare s'.gens ∧
    (∀ b o, s.heap.get? b = some o → s'.heap.get? b = some o) ∧ (∀ A, (X A).prog = P ∧ (X A).w = w ∧ (X A).base = base ∧ (X A).outer = outer ∧ sz0 (X A) = s.heap.objs.size ∧ (X A).pn = [(a, go)]) ∧
    ∀ (PPd : PP) (A : Around) (s2 : Shared), Room k A → A.frames = some outer → (∀ b o, s'.heap.get? b = some o → s2.heap.get? b = some o) → s2.os = s.os → AllBare s2.gens → PPd 0 s2 H →
      Seg (model P w) A (GR (X A) S PPd) (GY (X A) S PPd) (S.n + 1) s2 c ((model P w).den c) [] s2
abbrev SpS := List V → Hp → Strm → Prop
structure GFnS (P : Program) (w : World) (K : PySem.W.Frag) (mg : Str → Option Value) (base : Heap) (k : Nat) (f : Addr) (fd : FuncData) (ps : List Str) (sp : SpS) : Prop where
  len : ∀ vs H S, sp vs H S → vs.length = ps.length
  run : ∀ (A : Around) (outer : List Env) (s : Shared) (H : Hp) (args : Args) (us : List Value) (vs : List V) (S : Strm), Room k A → Env0 P w K mg base A outer s H → BindsTo s fd args (ps.zip us) → Vals vs us → sp vs H S →
    codeAny (model P w) A (.call (.ref f) args) (fun r s' => match r with | .ok (.ret u) => GMadeS P w base k outer H s S u s' | _ => False) s
theorem gfnS_of {P : Program} {w : World} {K : PySem.W.Frag} {mg : Str → Option Value} {base : Heap} {k : Nat} {f : Addr} {name qual : Str} {params : Arguments} {body : List Stmt} {scope : Scope} {dV kV doc pm cdv ct oc : Value} {an od : Option Addr}
    {osl : Array (Option Value)} {N ps : List Str} {sp : SpS} (lk : K.lookup f = some ⟨oc, od, .func (PySem.W.fnOf name qual params body scope dV kV doc pm an cdv ct), osl⟩) (hcd : PySem.W.codeIn K cdv qual = true) (S : GScope N ps scope)
    (hnc : ∀ n, cellsFrom n scope.names [] = []) (len : ∀ vs H St, sp vs H St → vs.length = ps.length)
    (hbody : ∀ (A : Around) (outer : List Env) (s : Shared) (H : Hp) (vs : List V) (St : Strm) (pn : List (Addr × Obj)), Tm (gX P w K mg base N qual scope f cdv A outer s H pn) → Room k (A.deeper (envOfC qual scope s.heap.objs.size f cdv)) → sp vs H St →
      ∃ t, GSsf (gX P w K mg base N qual scope f cdv A outer s H pn) St body t ∧ t { nx := fun i _ Hw H' => i = St.n ∧ St.fin Hw H' ∧ Same Hw H', rt := fun _ _ _ _ => False } 0 (start N vs) H H) :
    GFnS P w K mg base (k + 1) f (PySem.W.fnOf name qual params body scope dV kV doc pm an cdv ct) ps sp := by
  refine ⟨len, fun A outer s H args us vs St hr e0 hb r hsp => ?_⟩
  have hl := len _ _ _ hsp
  have KX : K.In s.heap := e0.mod.kin.keeps fun b o e => (e0.bs b o e).1
  have lim : s.heap.NoLimit := e0.mod.nolimit.keeps fun b o e => (e0.bs b o e).1
  have hkind : ∀ y ∈ ps.zip us, scope.names.lookup y.1 = some .local ∨ (scope.names.lookup y.1 = some .cell ∧ ((cellsFrom (s.heap.objs.size + 1) scope.names []).lookup y.1).isSome = true) := fun ⟨n, v⟩ hy => by
    rcases S.par n (List.of_mem_zip hy).1 with q | q
    · exact .inl q
    · exact .inr ⟨q, PySem.W.cellsFrom_some _ _ _ (.inl q)⟩
  refine codeAny_call_generator hr.depth (KX _ _ lk) rfl S.co S.gen rfl (PySem.W.codeRec_of KX hcd) (hb _ _ _ _ ?_)
  refine wpAny_newFunctionEnv_cells S.kind hkind fun env he s1 x => ?_
  subst he
  have lim1 : s1.heap.NoLimit := lim.keeps x.toInCall.keep
  refine ⟨lim1, ?_⟩
  obtain ⟨h1, tk, es1, hk1⟩ := x.done
  have os1 : s1.os = s.os := by rw [es1]
  have gen1 : s1.gens = s.gens := by rw [es1]
  have lt1 : s.heap.objs.size < s1.heap.objs.size := x.toInCall.ns.lt
  have sz1 : s.heap.objs.size ≤ s1.heap.objs.size := Nat.le_of_lt lt1
  have kp1 : ∀ b o, s.heap.get? b = some o → s1.heap.get? b = some o := x.toInCall.keep
  have main : ∀ (go : Obj) (nm qn : Value) (tk2 : Nat), go.cls = .type "generator" → go.data = .fields #[.int s1.gens.size 0, nm, qn] → go.slots = #[] → (∀ h : Heap, (h.push go).get? h.objs.size = some go) →
      GMadeS P w base (k + 1) outer H s St (.ref s1.heap.objs.size) { s1 with gens := s1.gens.push (.fresh (.func body (envOfC qual scope s.heap.objs.size f cdv))), toks := tk2, heap := s1.heap.push go } := by
    intro go nm qn tk2 hgc hgd0 hgs hgp
    have hgen : ∀ h : Heap, h.get? s1.heap.objs.size = some go → h.IsGen s1.heap.objs.size s1.gens.size := fun h e => ⟨go, nm, qn, e, hgc, hgd0, hgs⟩
    have hpushed : (s1.heap.push go).get? s1.heap.objs.size = some go := hgp _
    refine ⟨fun A => gX P w K mg base N qual scope f cdv A outer s H [(s1.heap.objs.size, go)], s1.heap.objs.size, s1.gens.size, _, go, rfl, hpushed, hgen, sz1, Array.getElem?_push_size .., os1, ?_, fun b o e => Heap.get?_push_of_some _ (kp1 b o e), fun A => ⟨rfl, rfl, rfl, rfl, rfl, rfl⟩, ?_⟩
    · exact AllBare.push (by rw [gen1]; exact e0.bare) rfl
    intro PPd Aw s2 hrw hfr hk2 hos hba hP
    have e0w : Env0 P w K mg base Aw outer s H := ⟨hfr, e0.mod, e0.bs, e0.bsz, e0.funs, e0.frf, e0.hok, e0.bare⟩
    have I1 : Inv (gcxOf P w K mg base N qual scope f cdv Aw outer s H EF []) [] (start N vs) H s1 := inv_startG S hrw.hd e0w hl r x
    have kp2 : ∀ b o, s1.heap.get? b = some o → s2.heap.get? b = some o := fun b o e => hk2 b o (Heap.get?_push_of_some _ e)
    have I2 : Inv (gcxOf P w K mg base N qual scope f cdv Aw outer s H EF []) [] (start N vs) H s2 :=
      I1.call' (ch := []) (hos.trans os1.symm) (Un.kept kp2) (I1.hok.kept kp2) hba fun b z => by simp at z
    have hea : s2.heap.get? s1.heap.objs.size = some go := hk2 s1.heap.objs.size go hpushed
    have hgd : ∀ v, go.data ≠ .cell v := fun v q => by rw [hgd0] at q; cases q
    have I3 : Inv (gX P w K mg base N qual scope f cdv Aw outer s H [(s1.heap.objs.size, go)]) [] (start N vs) H s2 := by
      refine (Inv.pinnedG I2 fun p hp => ?_).wish _
      rcases List.mem_append.mp hp with z | z
      · rw [List.mem_singleton.mp z]
        exact ⟨hea, I1.hok.fresh (Nat.le_refl _), Nat.ne_of_gt lt1, I1.nofs (Nat.le_refl _), hgd⟩
      · cases z
    have T : Tm (gX P w K mg base N qual scope f cdv Aw outer s H [(s1.heap.objs.size, go)]) := ⟨I3.ok, hnc _, rfl, fun _ _ h => h, rfl⟩
    obtain ⟨t, ht, hq⟩ := hbody Aw outer s H vs St [(s1.heap.objs.size, go)] T (hrw.deeper _) hsp
    obtain ⟨mm, ⟨oL, esL, epL, hoL, rL⟩, _⟩ := id I3.loc
    have W : Woke (gX P w K mg base N qual scope f cdv Aw outer s H [(s1.heap.objs.size, go)]) ((s.heap.objs.size, oL) :: [(s1.heap.objs.size, go)]) s2 H :=
      ⟨hba, I3.sz, fun p hp => by
        rcases List.mem_cons.mp hp with z | z
        · rw [z]; exact ⟨hoL, I3.free⟩
        · obtain ⟨q1, q2, _⟩ := I3.pin p (List.mem_append_left _ z)
          exact ⟨q1, q2⟩, I3.bs, I3.funs, e0.frf, I3.hok⟩
    have I4 := rebase0 T I3 W ⟨oL, hoL, List.mem_cons_self⟩ fun p hp => List.mem_cons_of_mem _ (by
      rcases List.mem_append.mp hp with z | z
      · exact z
      · cases z)
    refine seg_func ?_
    refine ht.run PPd Aw [] (St.n + 1) 0 s2 ⟨s2, H⟩ _ [] _ _ id id s2 (start N vs) H _ ⟨over_func, rfl, rfl, rfl, fun p hp => ?_⟩ (Nat.add_zero _) ⟨rfl, hP, I3.sz⟩ (fun n i s₀ s' b fl hn wk hs => ?_) I4 hq
    · rcases List.mem_append.mp hp with z | z
      · rw [List.mem_singleton.mp z]
        exact sz1
      · cases z
    · cases fl with
      | next =>
        obtain ⟨σ', H', I, hi, hfin, hsm⟩ := hs
        subst hi
        exact seg_end (.ok (.ret .none)) (.inl ⟨.inl rfl, b.H, H', wk.p, hfin, did_of T wk.e I hsm, fun p hp => (I.pin p (List.mem_append_left _ hp)).1⟩)
      | brk => obtain ⟨_, _, _, q⟩ := hs; exact False.elim q
      | cont => obtain ⟨_, _, _, q⟩ := hs; exact False.elim q
      | ret u => obtain ⟨_, _, _, _, _, q⟩ := hs; exact False.elim q
  exact main _ _ _ _ rfl rfl rfl fun h => Heap.get?_push_size _ rfl
end GF
end

section
set_option maxHeartbeats 4000000
/-! a for over a generator -/
namespace GF
open PySem PySem.Spec PyProof.Rows L2 GenW
theorem hok_there {P : Program} {w : World} {H : Hp} {h : Heap} {a : Addr} {o : HO} (x : HOk P w H h) (e : H a = some o) : ∃ ob, h.get? a = some ob := by
  cases q : h.get? a with
  | some ob => exact ⟨ob, rfl⟩
  | none => have := x.gone q; rw [e] at this; cases this
theorem Inv.gensAt {X : Cx} {pins : List (Addr × Obj)} {σ : L2.St} {H : Hp} {s : Shared} (I : Inv X pins σ H s) {a : Array GenState} (h : AllBare a) : Inv X pins σ H (At s a) :=
  ⟨I.ok, I.os, h, I.base, I.loc, I.cell, I.free, I.freeC, I.pin, I.hok, I.len⟩
/-- what is wanted of an exception does not look at sleeping generators -/
def Thaws (X : Cx) : Prop := ∀ (e : Value) (s s' : Shared), X.xe e s' → s = At s' s.gens → Frz s.gens s'.gens → X.xe e s
theorem thaws_of {X : Cx} {M : Model} {A : Around} {t : Value → Sem Unit} {C : Value → Shared → Prop} (hX : X.xe = fun e s => wpAny M A (t e) (fun _ s' => C e s') (fun _ _ => False) s) (hC : ∀ e s a, Frz a s.gens → C e s → C e (At s a)) : Thaws X := fun e s s' h hs hf => by
  rw [hX] at h ⊢
  intro Γ p hΓ
  have := wp_frz M Γ (t e) _ _ p s' s.gens hf (h Γ p hΓ)
  rw [hs]
  refine Sem.wp_mono _ _ _ (fun _ _ s1 ⟨s1', q, h1, h2, h3⟩ => ?_) (fun _ _ s1 ⟨s1', q, h1, h2, h3⟩ => q) _ _ this
  rw [h1]
  exact hC e s1' s1.gens h2 q
/-- one part of the loop: the sleeping generator stays as it is -/
theorem asleep {X : Cx} {pins : List (Addr × Obj)} {σ : L2.St} {H : Hp} {s : Shared} {α : Type} {t : Sem α} {Q : α → Shared → Prop} (hx : Thaws X) (I : Inv X pins σ H s)
    (h : ∀ s', Inv X pins σ H s' → wpAny (model X.prog X.w) X.A t Q X.xe s') (hQ : ∀ x s1 a, Frz a s1.gens → Q x s1 → Q x (At s1 a)) :
    wpAny (model X.prog X.w) X.A t (fun x s1 => Q x s1 ∧ Asleep s.gens s1.gens ∧ s.gens.size ≤ s1.gens.size) X.xe s := by
  refine wpAny_gsz (n := s.gens.size) (Nat.le_refl _) ?_
  refine wpAny_mono (wpAny_frz (h _ (Inv.gensAt I (iced_bare I.bare)))) (fun x s1 ⟨s1', q, e, f, k⟩ hz => ?_) fun x s1 ⟨s1', q, e, f, k⟩ _ => hx x s1 s1' q e f
  refine ⟨?_, k, hz⟩
  rw [e]
  exact hQ x s1' s1.gens f q
/-- behind a stretch of the generator -/
theorem did_inv {X Y : Cx} {pins : List (Addr × Obj)} {σ : L2.St} {Hw H1 : Hp} {s₀ s1 : Shared} (I : Inv X pins σ Hw s₀) (D : Did Y s₀ Hw H1 s1) (ep : Y.prog = X.prog) (ew : Y.w = X.w) (eo : Y.outer = X.stack)
    (oL : X.env.locals < sz0 Y) (oC : ∀ x c, X.env.cells.lookup x = some c → c < sz0 Y) (oP : ∀ p ∈ X.pn ++ pins, p.1 < sz0 Y) (o0 : X.s_0.heap.objs.size ≤ sz0 Y) : Inv X pins σ H1 s1 := by
  obtain ⟨ch, hch⟩ : ∃ ch : List Addr, ch = (List.range s₀.heap.objs.size).filter fun b => decide (sz0 Y ≤ b) && (Hw b).isNone := ⟨_, rfl⟩
  have mem : ∀ b, b ∈ ch → sz0 Y ≤ b := fun b hb => by
    rw [hch] at hb
    have := (List.mem_filter.mp hb).2
    rw [Bool.and_eq_true] at this
    exact of_decide_eq_true this.1
  have small : ∀ b o, s₀.heap.get? b = some o → Hw b = none → b ∉ ch → b < sz0 Y := fun b o e n hb => by
    by_cases q : sz0 Y ≤ b
    · refine absurd ?_ hb
      rw [hch]
      refine List.mem_filter.mpr ⟨List.mem_range.mpr (Heap.lt_size e), ?_⟩
      rw [n]
      simp [q]
    · exact Nat.lt_of_not_le q
  have hok : HOk X.prog X.w H1 s1.heap := by rw [← ep, ← ew]; exact D.hok
  have un := D.un
  have efs : Y.fs = frs X.stack := by show frs Y.outer = _; rw [eo]
  rw [efs] at un
  refine Inv.call' (ch := ch) I D.os ⟨fun b o e n hb hx => ?_, fun b o e n hb hx => ?_, fun b o e n hx => ?_, fun b o e hx => ?_, un.tups, un.frzs, un.tbls⟩ hok D.bare fun b hb => ?_
  · exact un.keep b o (by rw [cut_get (small b o e n hx)]; exact e) n hb (by simp)
  · exact un.slot b o (by rw [cut_get (small b o e n hx)]; exact e) n hb (by simp)
  · exact un.free b o (by rw [cut_get (small b o e n hx)]; exact e) n (by simp)
  · cases n : Hw b with
    | none => exact un.there b o (by rw [cut_get (small b o e n hx)]; exact e) (by simp)
    | some u => exact hok_there hok (D.same b u n)
  · have hb' := mem b hb
    exact ⟨.inr (Nat.le_trans o0 hb'), fun z => by rw [z] at hb'; exact absurd oL (Nat.not_lt.mpr hb'), fun x c e z => by have := oC x c e; rw [z] at this; exact absurd this (Nat.not_lt.mpr hb'), fun p hp z => by have := oP p hp; rw [z] at this; exact absurd this (Nat.not_lt.mpr hb')⟩
def tForS (sp : SpS) (t : TA) (g : TG) (tb : TS) : TS := fun D σ H => t σ H fun vs H1 => ∃ S : Strm, sp vs H1 S ∧ ∃ W : Nat → L2.St → Hp → Prop, W 0 σ H1 ∧
  ∀ i σ H, W i σ H → S.stb H ∧ (i = S.n → ∀ H', S.fin H H' → Same H H' → D.nx σ H') ∧
    (i < S.n → ∀ x H', S.item i x H H' → Same H H' → g x σ H' fun σ2 H2 => tb { D with nx := W (i + 1), ct := W (i + 1), bk := D.nx } σ2 H2)
section
variable {X : Cx} {f : Addr} {fd : FuncData} {ps : List Str} {sp : SpS} {k : Nat} {x : Str} {p pos pos' : Pos} {tg : Expr} {body : List Stmt} {g : TG} {tb : TS}
theorem ps_forG {e : Expr} {es : List Expr} {t : TA} (F : GFnS X.prog X.w X.K X.mg X.base k f fd ps sp) (hr : Room (k + 1) X.A) (hgl : Gl X x) (hm : X.mg x = some (.ref f)) (hk : PySem.W.keepIn X.K (.ref f) = true) (hb : Binds X.K fd ps [])
    (ha : PA X (e :: es) t) (hx : Thaws X) (hp : PassesOwn (model X.prog X.w) X.A X.env X.xe) (hc : X.calm = true) (hg : PG X tg g) (hbd : PSs X body tb)
    (hdb : (x == ("__debug__" : Str)) = false := by decide) (he : starEach (e :: es) X.env = (false, eval e X.env) :: starEach es X.env := by rfl) (hpl : (backTo pos' (starEach es X.env)).any (·.1) = false := by rfl)
    (hs : ∀ x', foldedSetIterable (.Call (.Name x p) (e :: es) [] pos') X.env x' = pure x' := by intro _; rfl) : PS X (.For tg (.Call (.Name x p) (e :: es) [] pos') body [] pos) (tForS sp t g tb) := by
  refine ⟨fun pins s σ H D I h => ?_⟩
  have made : wpAny (model X.prog X.w) X.A (eval (.Call (.Name x p) (e :: es) [] pos') X.env) (fun u s1 => ∃ sc H1 S, Inv X pins σ H1 sc ∧ GMadeS X.prog X.w X.base k X.stack H1 sc S u s1 ∧ ∃ W : Nat → L2.St → Hp → Prop, W 0 σ H1 ∧
      ∀ i σ H, W i σ H → S.stb H ∧ (i = S.n → ∀ H', S.fin H H' → Same H H' → D.nx σ H') ∧
        (i < S.n → ∀ x H', S.item i x H H' → Same H H' → g x σ H' fun σ2 H2 => tb { D with nx := W (i + 1), ct := W (i + 1), bk := D.nx } σ2 H2)) X.xe s := by
    refine wpAny_Call_Name_kw (ld_glob I hgl hm ?_ hdb)
    refine PySem.W.callWith_K (h₀ := X.base) I.ok.mod.kin hk (thn (ha.run pos' pins s σ H _ I h) fun us s1 ⟨vs, H1, I1, r, q⟩ => ⟨I1.kIn, ?_⟩) he hpl
    obtain ⟨S, hsp, W, w0, turn⟩ := q
    have hl2 : us.length = ps.length := by rw [← r.length]; exact F.len _ _ _ hsp
    have hb' := hb s1 us I1.kIn (by rw [List.append_nil]; exact hl2)
    rw [List.append_nil] at hb'
    refine wpAny_call (codeAny_mono (F.run X.A X.stack s1 H1 ⟨us, []⟩ us vs S (hr.mono (Nat.le_succ _)) I1.env0 hb' r hsp) fun r s' hq => ?_)
    cases r with
    | error e => exact False.elim hq
    | ok fl =>
      cases fl with
      | ret u => exact ⟨s1, H1, S, I1, hq, W, w0, turn⟩
      | next => exact False.elim hq
      | brk => exact False.elim hq
      | cont => exact False.elim hq
  refine wpAny_For (thn made fun u s1 ⟨sc, H1, S, Ic, hM, W, w0, turn⟩ => ?_) hs
  obtain ⟨Xg, a, gn, c, go, rfl, hgo, hgen, hsa, hgs, hos, hba, hkp, hX, wake⟩ := hM
  have ep : (Xg X.A.in1).prog = X.prog := (hX _).1
  have ew : (Xg X.A.in1).w = X.w := (hX _).2.1
  have ebs : (Xg X.A.in1).base = X.base := (hX _).2.2.1
  have eo : (Xg X.A.in1).outer = X.stack := (hX _).2.2.2.1
  have esz : sz0 (Xg X.A.in1) = sc.heap.objs.size := (hX _).2.2.2.2.1
  have epn : (Xg X.A.in1).pn = [(a, go)] := (hX _).2.2.2.2.2
  have I1 : Inv X pins σ H1 s1 := Ic.call' (ch := []) hos (Un.kept hkp) (Ic.hok.kept hkp) hba fun b z => by simp at z
  have hgo1 : ∀ v, go.data ≠ .cell v := fun v z => by
    obtain ⟨o, nm, qn, e1, _, e2, _⟩ := hgen s1.heap hgo
    rw [hgo] at e1
    cases e1
    rw [z] at e2
    cases e2
  have oL : X.env.locals < sz0 (Xg X.A.in1) := by rw [esz]; exact Ic.lt
  have oC : ∀ x c, X.env.cells.lookup x = some c → c < sz0 (Xg X.A.in1) := fun x c e => by
    obtain ⟨v, q⟩ := Ic.cell x c e
    rw [esz]; exact q.lt
  have oP : ∀ p ∈ X.pn ++ pins, p.1 < sz0 (Xg X.A.in1) := fun p hp => by rw [esz]; exact Heap.lt_size (Ic.pin p hp).1
  have o0 : X.s_0.heap.objs.size ≤ sz0 (Xg X.A.in1) := by rw [esz]; exact Ic.sz
  have oF : ∀ b ∈ X.fs, b < sz0 (Xg X.A.in1) := fun b hb => by
    obtain ⟨_, o, ho, _⟩ := Ic.ok.funs.mem hb
    exact Nat.lt_of_lt_of_le (Heap.lt_size ho) o0
  obtain ⟨PPd, hPP⟩ : ∃ PPd : PP, PPd = fun i s₀ Hw => ∃ σ, Inv X pins σ Hw s₀ ∧ W i σ Hw ∧ gn < s₀.gens.size := ⟨_, rfl⟩
  refine wpAny_pyIter_gen (hgen _ hgo) ?_
  have seg0 : ∀ (s2 : Shared), (∀ b o, s1.heap.get? b = some o → s2.heap.get? b = some o) → s2.os = sc.os → AllBare s2.gens → PPd 0 s2 H1 →
      Seg (model X.prog X.w) X.A.in1 (GR (Xg X.A.in1) S PPd) (GY (Xg X.A.in1) S PPd) (S.n + 1) s2 c ((model X.prog X.w).den c) [] s2 :=
    fun s2 => wake PPd X.A.in1 s2 hr.in1 Ic.ok.frames
  have glt : gn < s1.gens.size := (Array.getElem?_eq_some_iff.mp hgs).1
  -- the generator as it stands ahead of a turn
  refine codeAny_forLoop_any (fun n s' => ∃ i σ' H' gs, n + i = S.n + 1 ∧ i ≤ S.n ∧ Inv X pins σ' H' s' ∧ W i σ' H' ∧ s'.heap.get? a = some go ∧ s'.gens[gn]? = some gs ∧
    gs.Goes (model X.prog X.w) X.A.in1 (GR (Xg X.A.in1) S PPd) (GY (Xg X.A.in1) S PPd) n (.send .none) (s'.setGen gn .running)) ?_ (S.n + 1)
    ⟨0, σ, H1, .fresh c, rfl, Nat.zero_le _, I1, w0, hgo, hgs, rfl, seg0 _ (fun _ _ z => z) hos (allBare_setGen I1.bare rfl) ?_⟩
  case refine_2 =>
    rw [hPP]
    refine ⟨σ, Inv.gensAt I1 (allBare_setGen I1.bare rfl), w0, ?_⟩
    rw [setGen_size]
    exact glt
  rintro n s3 ⟨i, σ3, H3, gs, hni, hin, I3, w3, hgo3, hgs3, goes⟩
  have hgl3 : gn < s3.gens.size := (Array.getElem?_eq_some_iff.mp hgs3).1
  refine wpAny_passesOwn hp ?_
  refine wpAny_gsz (n := gn + 1) hgl3 (next_genG (A := X.A) (F := GF0 (Xg X.A.in1) S PPd) (Er := fun _ _ => False) (Y := GY (Xg X.A.in1) S PPd) (n := n) hr.hd I3.nolimit hr.depth (hgen _ hgo3) hgs3 goes ?_ ?_ fun e s1 z => z.elim)
  · intro v s4 gs' hbare hv hsz
    obtain ⟨i', x, Hw, H4, gp, hn', hlt, hP, rv, hit, did, hgp, hpn, kap⟩ := hv
    rw [hPP] at hP
    obtain ⟨σ4, I4, w4, _⟩ := hP
    have hsz4 : gn < s4.gens.size := by
      have q : (s4.setGen gn gs').gens.size = s4.gens.size := setGen_size _ _ _
      omega
    obtain ⟨stb4, _, turn4⟩ := turn i' σ4 Hw w4
    have I5 : Inv X pins σ4 H4 s4 := did_inv I4 did ep ew eo oL oC oP o0
    have I6 : Inv X pins σ4 H4 (s4.setGen gn gs') := Inv.gensAt I5 (allBare_setGen I5.bare hbare)
    have hga : s4.heap.get? a = some go ∧ H4 a = none := by
      obtain ⟨_, q1, q2, _⟩ := hgp (a, go) (hpn _ (by rw [epn]; exact List.mem_cons_self))
      exact ⟨q1, q2⟩
    have I7 : Inv X (pins ++ gp) σ4 H4 (s4.setGen gn gs') := I6.pins_of fun p hp => by
      rcases List.mem_append.mp hp with z | z
      · exact I6.pin p (List.mem_append_right _ z)
      · obtain ⟨q0, q1, q2, q3⟩ := hgp p z
        exact ⟨q1, q2, fun e => absurd oL (Nat.not_lt.mpr (by rw [← e]; exact q0)), fun e => absurd (oF _ e) (Nat.not_lt.mpr q0), q3⟩
    obtain ⟨o', nm, qn, e1, e2, e3, _⟩ := hgen _ hga.1
    rw [hga.1] at e1
    cases e1
    refine go_of (s := s4.setGen gn gs') (it := a) (o := go) hga.1 e2 e3 (by decide) ?_
    refine wpAny_passesOwn hp ?_
    refine thn (asleep hx I7 (fun s' I' => hg.run _ s' σ4 H4 x v _ I' rv (turn4 hlt x H4 hit did.same)) ?_) fun _ s8 ⟨⟨σ8, H8, I8, q8⟩, sl8, z8⟩ => ?_
    · rintro _ s' a' fz ⟨σ', H', I', q'⟩
      exact ⟨σ', H', Inv.gensAt I' (fz.bare I'.bare), q'⟩
    refine wpAny_passesOwn hp ?_
    refine thn (asleep hx I8 (fun s' I' => hbd.run _ s' σ8 H8 _ I' q8) ?_) fun fl s9 ⟨q9, sl9, z9⟩ => ?_
    · rintro fl s' a' fz q'
      cases fl with
      | next => obtain ⟨σ', H', I', q'⟩ := q'; exact ⟨σ', H', Inv.gensAt I' (fz.bare I'.bare), q'⟩
      | brk => obtain ⟨σ', H', I', q'⟩ := q'; exact ⟨σ', H', Inv.gensAt I' (fz.bare I'.bare), q'⟩
      | cont => obtain ⟨σ', H', I', q'⟩ := q'; exact ⟨σ', H', Inv.gensAt I' (fz.bare I'.bare), q'⟩
      | ret u => obtain ⟨v', σ', H', I', r', q'⟩ := q'; exact ⟨v', σ', H', Inv.gensAt I' (fz.bare I'.bare), r', q'⟩
    have again : ∀ {σ9 : L2.St} {H9 : Hp}, Inv X (pins ++ gp) σ9 H9 s9 → W (i' + 1) σ9 H9 → ∃ m, m < n ∧ ∃ i σ' H' gs, m + i = S.n + 1 ∧ i ≤ S.n ∧ Inv X pins σ' H' s9 ∧ W i σ' H' ∧ s9.heap.get? a = some go ∧ s9.gens[gn]? = some gs ∧
        gs.Goes (model X.prog X.w) X.A.in1 (GR (Xg X.A.in1) S PPd) (GY (Xg X.A.in1) S PPd) m (.send .none) (s9.setGen gn .running) := fun {σ9 H9} I9 w9 => by
      have pin9 : ∀ p ∈ gp, s9.heap.get? p.1 = some p.2 ∧ H9 p.1 = none := fun p hp => by
        obtain ⟨q1, q2, _⟩ := I9.pin p (List.mem_append_right _ (List.mem_append_right _ hp))
        exact ⟨q1, q2⟩
      have gsz9 : gn < s9.gens.size := by
        have q : (s4.setGen gn gs').gens.size = s4.gens.size := setGen_size _ _ _
        omega
      have Wk9 : Woke (Xg X.A.in1) gp (s9.setGen gn .running) H9 := by
        refine ⟨allBare_setGen I9.bare rfl, ?_, pin9, ?_, ?_, ?_, ?_⟩
        · have q := (pin9 (a, go) (hpn _ (by rw [epn]; exact List.mem_cons_self))).1
          have q2 : a < s9.heap.objs.size := Heap.lt_size q
          show sz0 (Xg X.A.in1) ≤ s9.heap.objs.size
          rw [esz]
          exact Nat.le_trans hsa (Nat.le_of_lt q2)
        · rw [ebs]; exact I9.bs
        · rw [ebs, eo]; exact I9.stack
        · show ∀ b ∈ frs (Xg X.A.in1).outer, H9 b = none
          rw [eo]; exact I9.stkFree
        · rw [ep, ew]; exact I9.hok
      have I9' : Inv X pins σ9 H9 s9 := I9.unpinned
      obtain ⟨k1, k2⟩ := kap (s9.setGen gn .running) H9 Wk9 (turn (i' + 1) σ9 H9 w9).1 (by
        rw [hPP]
        refine ⟨σ9, Inv.gensAt I9' (allBare_setGen I9.bare rfl), w9, ?_⟩
        rw [setGen_size]; exact gsz9)
      cases n with
      | zero => exact k1.elim
      | succ m =>
        have hn'' : m + i' = S.n := hn'
        have hgs' : s9.gens[gn]? = some gs' := by
          cases gs' with
          | fresh c' => exact absurd k2.1 (by intro z; cases z)
          | suspended kk ll cc pp ff cl => exact sl9 _ _ _ _ _ _ _ (sl8 _ _ _ _ _ _ _ (setGen_at hsz4))
          | running => exact k1.elim
          | finished => exact k1.elim
        exact ⟨m, Nat.lt_succ_self _, i' + 1, σ9, H9, gs', by omega, by omega, I9', w9, (pin9 (a, go) (hpn _ (by rw [epn]; exact List.mem_cons_self))).1, hgs', k1⟩
    cases fl with
    | next => obtain ⟨σ9, H9, I9, w9⟩ := q9; exact again I9 w9
    | cont => obtain ⟨σ9, H9, I9, w9⟩ := q9; exact again I9 w9
    | brk => obtain ⟨σ9, H9, I9, q9⟩ := q9; exact ⟨σ9, H9, I9.unpinned, q9⟩
    | ret u => obtain ⟨v9, σ9, H9, I9, r9, q9⟩ := q9; exact ⟨v9, σ9, H9, I9.unpinned, r9, q9⟩
  · intro s4 hF h' hk' hsz
    obtain ⟨Hw, H4, hP, hfin, did, hpn⟩ := hF
    rw [hPP] at hP
    obtain ⟨σ4, I4, w4, _⟩ := hP
    have I5 : Inv X pins σ4 H4 s4 := did_inv I4 did ep ew eo oL oC oP o0
    have I6 : Inv X pins σ4 H4 { s4.setGen gn .finished with heap := h' } := Inv.kept (t' := s4.toks) (Inv.gensAt I5 (allBare_setGen I5.bare rfl)) hk'
    exact wpAny_execs_nil ⟨σ4, H4, I6, (turn S.n σ4 Hw w4).2.1 rfl H4 hfin did.same⟩
end
end GF
end

section
set_option maxHeartbeats 4000000
/-! a dict of one pair whose key is a tuple; all dicts of a kind locked at once; groups that are locked -/
namespace K82
open PySem PySem.Spec PyProof.Rows L2
section
variable {X : Cx} {pos : Pos}
/-- {k: v}, k a tuple of whole numbers and texts -/
def tDisp1T (tk tv : TE) : TE := fun σ H Q => ∀ p, H p = none → tk σ (upd H p (.dT [])) fun x H1 => tv σ H1 fun y H2 => ∃ x' y', [(x, y)] = [(x', y')] ∧ H2 p = some (.dT []) ∧ ∃ (b : Addr) (ks : List Key), x' = .ref b ∧ H2 b = some (.tup (ks.map kV)) ∧ Q (.ref p) (upd H2 p (.dT [(ks, y')]))
theorem pe_disp1T {k v : Expr} {tk tv : TE} (hu : X.A.units + 1 < cLine) (hk : PE X k tk) (hv : PE X v tv) : PE X (.Dict [some k] [v] pos) (tDisp1T tk tv) := by
  refine ⟨fun pins s σ H Q I q => ?_⟩
  have hn := I.hok.fresh (Nat.le_refl s.heap.objs.size)
  have I1 := I.laid (a := s.heap.objs.size) (o := .dT []) (h' := s.heap.push { cls := .type "dict", data := .dict #[] }) (t' := s.toks) (fun _ _ q => Heap.get?_push_of_some _ q) (Nat.le_refl _) (dt_empty s.heap I.big)
  refine wpAny_Dict_any rfl rfl (by simp) (by show 1 ≤ 15; decide) ?_
  have ht : tPairs [(tk, tv)] σ (upd H s.heap.objs.size (.dT [])) (fun ps H2 => ∃ x y, ps = [(x, y)] ∧ H2 s.heap.objs.size = some (.dT []) ∧ ∃ (b : Addr) (ks : List Key), x = .ref b ∧ H2 b = some (.tup (ks.map kV)) ∧ Q (.ref s.heap.objs.size) (upd H2 s.heap.objs.size (.dT [(ks, y)]))) := by
    exact q _ hn
  refine thn ((pps_cons hk hv pps_nil).run pins _ σ _ _ I1 ht) fun ws s2 ⟨ps, H2, I2, rel, x, y, ep, e, b, ks, ex, eb, q2⟩ => ?_
  subst ep ex
  cases rel with
  | @cons a w2 as bs h t =>
    cases t
    obtain ⟨u, r⟩ := w2
    obtain ⟨ru, rr⟩ := h
    obtain rfl : u = Value.ref b := ru
    obtain ⟨z, hd, xs, rel, dd⟩ := dt_of I2.hok e
    cases rel
    unfold storeAll
    rw [List.forIn_cons]
    refine wpAny_bind (wpAny_bind (wpAny_dictSet_heap (hsz := by simp) (by show X.A.units < cLine; omega) (key_of I2.hok eb) dd fun h' dd' hs => wpAny_pure ?_))
    dsimp only
    rw [List.forIn_nil]
    refine wpAny_pure ?_
    obtain ⟨qo, es, ep, hq, h2, h3, h4, _, h5⟩ := dd'
    refine ⟨.ref s.heap.objs.size, _, d_write (ob := .dT [(ks, y)]) I2 (by rw [e]; exact True.intro) hs ⟨qo, hq⟩ ⟨by show 1 ≤ sizeLine; rw [sizeLine_eq]; decide, hd, _, ?_, qo, es, ep, hq, h2, h3, h4, h5⟩, rfl, q2⟩
    have kt : KT H2 ([] : List (List Key × V)) [] := .nil
    refine (show KT (upd H2 s.heap.objs.size (.dT [(ks, y)])) [(ks, y)] (storedH [] ks b r) from ?_)
    have nb : b ≠ s.heap.objs.size := fun z => by rw [z, e] at eb; cases eb
    have eb' : (upd H2 s.heap.objs.size (.dT [(ks, y)])) b = some (.tup (ks.map kV)) := by rw [upd_ne nb]; exact eb
    exact .cons ⟨rfl, eb', rr⟩ .nil
end
/-! ### locking -/
/-- the dicts of p are locked, all else stands -/
def LockP (p : Addr → Prop) (H H' : Hp) : Prop := ∀ b, (p b → ∀ kvs, H b = some (.dK kvs) → ∃ o, H' b = some (.frz o (.dK kvs))) ∧ ((¬ p b ∨ ∀ kvs, H b ≠ some (.dK kvs)) → H' b = H b)
theorem lock_list {X : Cx} {pins : List (Addr × Obj)} {σ : L2.St} {s : Shared} : ∀ (D : List Addr) (H : Hp), Inv X pins σ H s → ∃ H', Inv X pins σ H' s ∧ LockP (fun b => b ∈ D) H H'
  | [], H, I => ⟨H, I, fun b => ⟨(fun h => by cases h), fun _ => rfl⟩⟩
  | d :: D, H, I => by
    obtain ⟨H1, I1, L⟩ := lock_list D H I
    by_cases z : d ∈ D ∨ ∀ kvs, H d ≠ some (.dK kvs)
    · refine ⟨H1, I1, fun b => ⟨fun hb kvs e => ?_, fun h => (L b).2 ?_⟩⟩
      · rcases List.mem_cons.mp hb with y | y
        · subst y
          rcases z with z | z
          · exact (L b).1 z kvs e
          · exact absurd e (z kvs)
        · exact (L b).1 y kvs e
      · rcases h with h | h
        · exact .inl fun y => h (List.mem_cons_of_mem _ y)
        · exact .inr h
    · have z1 : d ∉ D := fun y => z (.inl y)
      obtain ⟨kvs, e⟩ : ∃ kvs, H d = some (.dK kvs) := Classical.byContradiction fun y => z (.inr fun kvs e => y ⟨kvs, e⟩)
      have e1 : H1 d = some (.dK kvs) := by rw [(L d).2 (.inl z1)]; exact e
      obtain ⟨od, I2⟩ := I1.lock e1 True.intro
      refine ⟨_, I2, fun b => ⟨fun hb kvs' e' => ?_, fun h => ?_⟩⟩
      · by_cases y : b = d
        · subst y
          rw [e] at e'
          cases e'
          exact ⟨od, upd_same⟩
        · rw [upd_ne y]
          exact (L b).1 ((List.mem_cons.mp hb).resolve_left y) kvs' e'
      · have y : b ≠ d := fun y => by
          subst y
          rcases h with h | h
          · exact h List.mem_cons_self
          · exact h kvs e
        rw [upd_ne y]
        refine (L b).2 ?_
        rcases h with h | h
        · exact .inl fun y => h (List.mem_cons_of_mem _ y)
        · exact .inr h
theorem Inv.lockP {X : Cx} {pins : List (Addr × Obj)} {σ : L2.St} {s : Shared} {H : Hp} (I : Inv X pins σ H s) (p : Addr → Prop) : ∃ H', Inv X pins σ H' s ∧ LockP p H H' := by
  classical
  obtain ⟨H', I', L⟩ := lock_list ((List.range s.heap.objs.size).filter fun b => decide (p b)) H I
  refine ⟨H', I', fun b => ⟨fun hp kvs e => (L b).1 (List.mem_filter.mpr ⟨List.mem_range.mpr (I.hok.lt e), by simpa using hp⟩) kvs e, fun h => (L b).2 ?_⟩⟩
  rcases h with h | h
  · exact .inl fun y => h (by simpa using (List.mem_filter.mp y).2)
  · exact .inr h
/-- dicts are locked behind an expression, which ones is the reading's choice -/
def tLk (td : TE) : TE := fun σ H Q => td σ H fun x H1 => ∃ p : Addr → Prop, ∀ H', LockP p H1 H' → Q x H'
theorem pe_lock {X : Cx} {e : Expr} {td : TE} (he : PE X e td) : PE X e (tLk td) := by
  refine ⟨fun pins s σ H Q I h => ?_⟩
  refine thn (he.run pins s σ H _ I h) fun v s1 ⟨x, H1, I1, r1, p, q⟩ => ?_
  obtain ⟨H', I', L⟩ := Inv.lockP I1 p
  exact ⟨x, H', I', r1, q H' L⟩
theorem LockP.same {Hs H H' : Hp} (L : LockP (fun b => Hs b = none) H H') (s : Same Hs H) : Same Hs H' := fun b o e => by
  rw [(L b).2 (.inl (show ¬ (Hs b = none) by rw [e]; simp))]
  exact s _ _ e
/-! ### groups that are locked: bl i the blocks of state i, us i b the states to which the words with the block b lead -/
def SubF (H : Hp) (h : Addr) (row : List (Str × Nat)) (b : Str) (us : List Nat) : Prop := ∃ o hk lf, H h = some (.frz o (.dK hk)) ∧ SubL H hk row b us lf
structure GrpsF (H : Hp) (l : Addr) (c : Ch) (bl : Nat → List Str) (us : Nat → Str → List Nat) : Prop where
  at_ : ∃ gs : List Addr, H l = some (.lst (gs.map V.ref)) ∧ gs.length = c.length ∧ ∀ (i : Nat) (g : Addr), gs[i]? = some g → ∃ (o : Obj) (hf : Str → Addr), H g = some (.frz o (.dK ((bl i).map fun b => ((.inr b : Key), V.ref (hf b))))) ∧ ∀ b ∈ bl i, SubF H (hf b) (rowC c i) b (us i b)
  nd : ∀ i, (bl i).Nodup
  has : ∀ i, i < c.length → ∀ b, b ∈ bl i ↔ hasB (rowC c i) b (rowC c i).length
  off : ∀ i b, b ∉ bl i → us i b = []
theorem SubF.same {H H' : Hp} {h : Addr} {row : List (Str × Nat)} {b : Str} {us : List Nat} (S : SubF H h row b us) (s : Same H H') : SubF H' h row b us := by
  obtain ⟨o, hk, lf, e, L⟩ := S
  exact ⟨o, hk, lf, s _ _ e, L.eq, L.nd, fun u hu => ⟨s _ _ (L.lst u hu).1, (L.lst u hu).2⟩, L.off⟩
theorem GrpsF.same {H H' : Hp} {l : Addr} {c : Ch} {bl : Nat → List Str} {us : Nat → Str → List Nat} (G : GrpsF H l c bl us) (s : Same H H') : GrpsF H' l c bl us := by
  obtain ⟨⟨gs, e, lg, k⟩, nd, has, off⟩ := G
  refine ⟨⟨gs, s _ _ e, lg, fun i g hg => ?_⟩, nd, has, off⟩
  obtain ⟨o, hf, e1, k1⟩ := k i g hg
  exact ⟨o, hf, s _ _ e1, fun b hb => (k1 b hb).same s⟩
theorem strKeys_eq {kvs : List (Key × V)} (sk : StrKeys kvs) (h : ∀ b v, valV kvs (.inr b) = some v → ∃ a : Addr, v = .ref a) : ∃ (bl : List Str) (hf : Str → Addr), kvs = bl.map (fun b => ((.inr b : Key), V.ref (hf b))) ∧ bl.Nodup ∧ ∀ b, b ∈ bl ↔ valV kvs (.inr b) = some (.ref (hf b)) := by
  classical
  let tx : Key × V → Str := fun kv => match kv.1 with
    | .inr b => b
    | .inl _ => PySem.Str.empty
  let hf : Str → Addr := fun b => match valV kvs (.inr b) with
    | some (.ref a) => a
    | _ => 0
  have key : ∀ kv ∈ kvs, kv = ((.inr (tx kv) : Key), V.ref (hf (tx kv))) := fun kv hm => by
    obtain ⟨b, e⟩ := sk.2 kv.1 (List.mem_map_of_mem (f := (·.1)) hm)
    have v := val_mem sk.1 hm
    rw [e] at v
    obtain ⟨a, ea⟩ := h b _ v
    have h1 : tx kv = b := by show (match kv.1 with | .inr b => b | .inl _ => PySem.Str.empty) = b; rw [e]
    have h2 : hf b = a := by
      show (match valV kvs (.inr b) with | some (.ref a) => a | _ => 0) = a
      rw [v, ea]
    rw [h1, h2]
    exact Prod.ext e ea
  have e1 : kvs = (kvs.map tx).map (fun b => ((.inr b : Key), V.ref (hf b))) := by
    rw [List.map_map]
    conv => lhs; rw [← List.map_id kvs]
    exact List.map_congr_left key
  refine ⟨kvs.map tx, hf, e1, ?_, fun b => ⟨fun hb => ?_, fun hb => ?_⟩⟩
  · have nd := sk.1
    rw [e1, List.map_map] at nd
    have nd2 : ((kvs.map tx).map (fun b => (.inr b : Key))).Nodup := nd
    exact List.Pairwise.of_map _ (fun a b h e => h (by rw [e])) nd2
  · obtain ⟨kv, h1, rfl⟩ := List.mem_map.mp hb
    have v := val_mem sk.1 h1
    rw [key kv h1] at v
    have e2 : tx ((.inr (tx kv) : Key), V.ref (hf (tx kv))) = tx kv := rfl
    exact v
  · obtain ⟨kv, h1, h2⟩ := List.mem_map.mp (valV_in hb)
    refine List.mem_map.mpr ⟨kv, h1, ?_⟩
    have h3 : kv.1 = .inr b := h2
    show (match kv.1 with | .inr b => b | .inl _ => PySem.Str.empty) = b
    rw [h3]
theorem GroupsR.locked {Hs H H' : Hp} {l : Addr} {c : Ch} (G : GroupsR Hs H l c) (s : Same Hs H) (L : LockP (fun b => Hs b = none) H H') : ∃ bl us, GrpsF H' l c bl us := by
  classical
  obtain ⟨gs, e, lg, k⟩ := G
  have lst : ∀ a xs, H a = some (.lst xs) → H' a = some (.lst xs) := fun a xs e => by
    rw [(L a).2 (.inr fun kvs z => by rw [e] at z; cases z)]; exact e
  have rd : ∀ a kvs, Hs a = none → Rd H a (.dK kvs) → ∃ o, H' a = some (.frz o (.dK kvs)) := fun a kvs n r => by
    rcases r with r | ⟨o, r⟩
    · exact (L a).1 n kvs r
    · exact ⟨o, by rw [(L a).2 (.inr fun kvs z => by rw [r] at z; cases z)]; exact r⟩
  have one : ∀ i, ∃ (b : List Str) (u : Str → List Nat), b.Nodup ∧ (i < c.length → ∀ x, x ∈ b ↔ hasB (rowC c i) x (rowC c i).length) ∧ (∀ x, x ∉ b → u x = []) ∧ ∀ g, gs[i]? = some g → ∃ (o : Obj) (hf : Str → Addr), H' g = some (.frz o (.dK (b.map fun b => ((.inr b : Key), V.ref (hf b))))) ∧ ∀ x ∈ b, SubF H' (hf x) (rowC c i) x (u x) := fun i => by
    cases hg : gs[i]? with
    | none =>
      have hi : ¬ i < c.length := fun z => by
        rw [← lg] at z
        rw [List.getElem?_eq_getElem z] at hg
        cases hg
      exact ⟨[], fun _ => [], by simp, fun z => absurd z hi, fun _ _ => rfl, fun g z => by cases z⟩
    | some g =>
      obtain ⟨r, hr, ng, kvs, e2, sk, k2⟩ := k i g hg
      have er : rowC c i = r := by unfold rowC; rw [List.getD_eq_getElem?_getD, hr]; rfl
      obtain ⟨o, e3⟩ := rd g kvs ng e2
      have val : ∀ b v, valV kvs (.inr b) = some v → ∃ a : Addr, v = .ref a := fun b v hv => by
        by_cases hb : hasB r b r.length
        · obtain ⟨h, v2, _⟩ := (k2 b).2 hb
          rw [hv] at v2
          exact ⟨h, Option.some.inj v2⟩
        · rw [(k2 b).1 hb] at hv; cases hv
      obtain ⟨b, hf, ek, nd, mem⟩ := strKeys_eq sk val
      have inb : ∀ x, x ∈ b ↔ hasB r x r.length := fun x => by
        rw [mem]
        constructor
        · intro hv
          by_cases hb : hasB r x r.length
          · exact hb
          · rw [(k2 x).1 hb] at hv; cases hv
        · intro hb
          obtain ⟨h, v2, _⟩ := (k2 x).2 hb
          obtain ⟨a, ea⟩ := val x _ v2
          have hm : kvs.map (·.1) = b.map (fun b => (.inr b : Key)) := by rw [ek, List.map_map]; rfl
          obtain ⟨kv, h1, h2⟩ := List.mem_map.mp (show (.inr x : Key) ∈ b.map (fun b => (.inr b : Key)) from hm ▸ valV_in v2)
          exact (mem x).mp (by cases h2; exact h1)
      have sub : ∀ x ∈ b, ∃ us, SubF H' (hf x) r x us := fun x hx => by
        obtain ⟨h, v2, nh, hk, r3, ik, k3⟩ := (k2 x).2 ((inb x).mp hx)
        have v3 := (mem x).mp hx
        rw [v2] at v3
        have eh : h = hf x := V.ref.inj (Option.some.inj v3)
        obtain ⟨o3, e4⟩ := rd h hk nh r3
        obtain ⟨us, lf, S⟩ := subL_of (H := H') ik fun t => ⟨(k3 t).1, fun nt => let ⟨l, v, el⟩ := (k3 t).2 nt; ⟨l, v, lst _ _ el⟩⟩
        exact ⟨us, o3, hk, lf, by rw [← eh]; exact e4, S⟩
      refine ⟨b, fun x => if h : x ∈ b then (sub x h).choose else [], nd, fun _ x => by rw [er]; exact inb x, fun x hx => dif_neg hx, fun g' hg' => ?_⟩
      cases hg'
      refine ⟨o, hf, by rw [← ek]; exact e3, fun x hx => ?_⟩
      rw [er]
      show SubF H' (hf x) r x (if h : x ∈ b then (sub x h).choose else [])
      rw [dif_pos hx]
      exact (sub x hx).choose_spec
  refine ⟨fun i => (one i).choose, fun i => (one i).choose_spec.choose, ⟨gs, lst _ _ e, lg, fun i g hg => ?_⟩, fun i => ?_, fun i hi x => ?_, fun i x hx => ?_⟩
  · exact (one i).choose_spec.choose_spec.2.2.2 g hg
  · exact (one i).choose_spec.choose_spec.1
  · exact (one i).choose_spec.choose_spec.2.1 hi x
  · exact (one i).choose_spec.choose_spec.2.2.1 x hx
end K82
end

section
set_option maxHeartbeats 4000000
/-! the two words of a step -/
namespace K82
open PySem PySem.Spec PyProof.Rows L2
/-- two words that differ if they can -/
def wpair (ws os : List Nat) : Nat × Nat := if ws.getD 0 0 = os.getD 0 0 then (if 1 < ws.length then (ws.getD 1 0, os.getD 0 0) else if 1 < os.length then (ws.getD 0 0, os.getD 1 0) else (ws.getD 0 0, os.getD 0 0)) else (ws.getD 0 0, os.getD 0 0)
def spWP : Sp := fun vs H Q _ => ∃ (a b : Addr) (ws os : List Nat), vs = [.ref a, .ref b] ∧ H a = some (.lst (intsV ws)) ∧ H b = some (.lst (intsV os)) ∧ ws ≠ [] ∧ os ≠ [] ∧
  ∀ p, H p = none → Q (.ref p) (upd H p (.tup [.int ((wpair ws os).1 : Nat), .int ((wpair ws os).2 : Nat)]))
theorem getD_mem {l : List Nat} {i : Nat} (h : i < l.length) : l.getD i 0 ∈ l := by
  rw [List.getD_eq_getElem?_getD, List.getElem?_eq_getElem h]
  exact List.getElem_mem h
theorem wpair_mem {ws os : List Nat} (h1 : ws ≠ []) (h2 : os ≠ []) : (wpair ws os).1 ∈ ws ∧ (wpair ws os).2 ∈ os := by
  have l1 := List.length_pos_iff.mpr h1
  have l2 := List.length_pos_iff.mpr h2
  unfold wpair
  split
  · split
    · exact ⟨getD_mem (by omega), getD_mem l2⟩
    · split
      · exact ⟨getD_mem l1, getD_mem (by omega)⟩
      · exact ⟨getD_mem l1, getD_mem l2⟩
  · exact ⟨getD_mem l1, getD_mem l2⟩
theorem sz2 {a b : V} : [a, b].length ≤ sizeLine := by rw [sizeLine_eq]; exact (by decide : 2 ≤ 16777216)
theorem at_ints {l : List Nat} {i : Nat} (h : i < l.length) : atI (intsV l) ((i : Nat) : Int) = some (.int ((l.getD i 0 : Nat) : Int)) := atI_nat (by
  show (l.map fun (t : Nat) => V.int (t : Int))[i]? = _
  rw [List.getElem?_map, List.getD_eq_getElem?_getD, List.getElem?_eq_getElem h]; rfl)
section
variable {P : Program} {w : World} {K : PySem.W.Frag} {mg : Str → Option Value} {base : Heap} {ad : Str → Addr} {fd : Str → FuncData}
theorem scWordPair : FnScope ["words", "others"] ["words", "others"] (defScope sWordPair) := ⟨rfl, rfl, rfl, by decide +kernel, rfl, by decide +kernel, by decide +kernel⟩
theorem ok_word_pair (X : Tx K mg ad fd) : FnOk P w K mg base CX0 1 (ad "word_pair") (fd "word_pair") ["words", "others"] spWP := by
  refine X.F_word_pair.ok scWordPair (fun vs H Q E h => ?_) (fun cdv A outer s H vs Q E hr h => ?_)
  · obtain ⟨a, b, ws, os, rfl, _⟩ := h
    rfl
  · obtain ⟨a, b, ws, os, rfl, ha, hb, n1, n2, q⟩ := h
    refine ⟨_, (pss_cons (ps_if (pt_cmpR op_eq (pe_ix ix_list (pv 0) pe_int (fun _ _ => rfl)) (pe_ix ix_list (pv 1) pe_int (fun _ _ => rfl)) (nomark _))
  (pss_cons (ps_if (pt_cmpR op_gt (pe_callB call_len (by rfl) X.m_len (by decide +kernel) (pa_cons (pv 0) pa_nil)) pe_int (nomark _))
  (pss_one (ps_ret (by exact (pe_tup (pa_cons (pe_ix ix_list (pv 0) pe_int (fun _ _ => rfl)) (pa_cons (pe_ix ix_list (pv 1) pe_int (fun _ _ => rfl)) pa_nil))))))
  pss_nil)
  (pss_one (ps_if (pt_cmpR op_gt (pe_callB call_len (by rfl) X.m_len (by decide +kernel) (pa_cons (pv 1) pa_nil)) pe_int (nomark _))
  (pss_one (ps_ret (by exact (pe_tup (pa_cons (pe_ix ix_list (pv 0) pe_int (fun _ _ => rfl)) (pa_cons (pe_ix ix_list (pv 1) pe_int (fun _ _ => rfl)) pa_nil))))))
  pss_nil)))
  pss_nil)
  (pss_one (ps_ret (by exact (pe_tup (pa_cons (pe_ix ix_list (pv 0) pe_int (fun _ _ => rfl)) (pa_cons (pe_ix ix_list (pv 1) pe_int (fun _ _ => rfl)) pa_nil))))))), ?_⟩
    have l1 := List.length_pos_iff.mpr n1
    have l2 := List.length_pos_iff.mpr n2
    refine ⟨.ref a, rfl, a, _, 0, _, rfl, rfl, SqL.of ha, at_ints l1, .ref b, rfl, b, _, 0, _, rfl, rfl, SqL.of hb, at_ints l2, rfl, _, rfl, ite2 (fun e => ?_) (fun e => ?_)⟩
    · have e' : ws.getD 0 0 = os.getD 0 0 := by
        have := of_decide_eq_true e
        injection this with z
        exact Int.ofNat.inj z
      refine ⟨.ref a, rfl, .ref a, _, rfl, .inl ⟨_, SqL.of ha, rfl⟩, _, _, rfl, rfl, _, rfl, ite2 (fun e1 => ?_) (fun e1 => ?_)⟩
      · have h1 : 1 < ws.length := by
          have := of_decide_eq_true e1
          rw [intsV_length] at this
          omega
        have wp : wpair ws os = (ws.getD 1 0, os.getD 0 0) := by unfold wpair; rw [if_pos e', if_pos h1]
        rw [wp] at q
        exact ⟨.ref a, rfl, a, _, 1, _, rfl, rfl, SqL.of ha, at_ints h1, .ref b, rfl, b, _, 0, _, rfl, rfl, SqL.of hb, at_ints l2, sz2, q⟩
      · have h1 : ¬ 1 < ws.length := fun z => e1 (by rw [intsV_length]; exact decide_eq_true (by omega))
        refine ⟨.ref b, rfl, .ref b, _, rfl, .inl ⟨_, SqL.of hb, rfl⟩, _, _, rfl, rfl, _, rfl, ite2 (fun e2 => ?_) (fun e2 => ?_)⟩
        · have h2 : 1 < os.length := by
            have := of_decide_eq_true e2
            rw [intsV_length] at this
            omega
          have wp : wpair ws os = (ws.getD 0 0, os.getD 1 0) := by unfold wpair; rw [if_pos e', if_neg h1, if_pos h2]
          rw [wp] at q
          exact ⟨.ref a, rfl, a, _, 0, _, rfl, rfl, SqL.of ha, at_ints l1, .ref b, rfl, b, _, 1, _, rfl, rfl, SqL.of hb, at_ints h2, sz2, q⟩
        · have h2 : ¬ 1 < os.length := fun z => e2 (by rw [intsV_length]; exact decide_eq_true (by omega))
          have wp : wpair ws os = (ws.getD 0 0, os.getD 0 0) := by unfold wpair; rw [if_pos e', if_neg h1, if_neg h2]
          rw [wp] at q
          exact ⟨.ref a, rfl, a, _, 0, _, rfl, rfl, SqL.of ha, at_ints l1, .ref b, rfl, b, _, 0, _, rfl, rfl, SqL.of hb, at_ints l2, sz2, q⟩
    · have e' : ¬ ws.getD 0 0 = os.getD 0 0 := fun z => e (by rw [z]; simp)
      have wp : wpair ws os = (ws.getD 0 0, os.getD 0 0) := by unfold wpair; rw [if_neg e']
      rw [wp] at q
      exact ⟨.ref a, rfl, a, _, 0, _, rfl, rfl, SqL.of ha, at_ints l1, .ref b, rfl, b, _, 0, _, rfl, rfl, SqL.of hb, at_ints l2, sz2, q⟩
end
end K82
end

section
set_option maxHeartbeats 4000000
/-! a generator's for, by a walk; places in lists put together -/
namespace GF
open PySem PySem.Spec PyProof.Rows L2 GenW
theorem gfor_it {J : It} {n : Nat} {G : Hp → Prop} {Y : Nat → Hp → V → Hp → Prop} (w : Walk J n G Y) {g : TG} {tb : TGf} {D : GEndsF} {i0 : Nat} {σ : L2.St} {Hw H : Hp} (Pv : Nat → Nat → L2.St → Hp → Hp → Prop) (h0 : Pv 0 i0 σ Hw H)
    (hG : ∀ j i σ Hw H, j ≤ n → Pv j i σ Hw H → G H) (hs : ∀ j x i σ Hw H H', j < n → Pv j i σ Hw H → Y j H x H' → g x σ H' fun σ2 H2 => tb { D with nx := Pv (j + 1), ct := Pv (j + 1), bk := D.nx } i σ2 Hw H2)
    (hd : ∀ i σ Hw H, Pv n i σ Hw H → D.nx i σ Hw H) :
    ∃ W : Nat → Nat → Nat → L2.St → Hp → Hp → Prop, (∃ m, W 0 m i0 σ Hw H) ∧ ∀ j m i σ Hw H, W j m i σ Hw H →
      (J.stop j H ∧ D.nx i σ Hw H) ∨ (J.go j H ∧ ∃ N : Nat → L2.St → Hp → Hp → Prop, (∀ i' σ' Hw' H', N i' σ' Hw' H' → ∃ m', m' < m ∧ W (j + 1) m' i' σ' Hw' H') ∧
        ∀ x H', J.yld j H x H' → g x σ H' fun σ2 H2 => tb { D with nx := N, ct := N, bk := D.nx } i σ2 Hw H2) := by
  refine ⟨fun j m i σ Hw H => m = n - j ∧ j ≤ n ∧ Pv j i σ Hw H, ⟨n, by simp, Nat.zero_le _, h0⟩, ?_⟩
  rintro j m i σ Hw H ⟨rfl, hj, p⟩
  have q := hG j i σ Hw H hj p
  by_cases hlt : j < n
  · exact .inr ⟨w.goes j H hlt q, Pv (j + 1), fun i' σ' Hw' H' p' => ⟨n - (j + 1), by omega, rfl, hlt, p'⟩, fun x H' y => hs j x i σ Hw H H' hlt p (w.yields j H x H' hlt q y)⟩
  · have e : j = n := by omega
    subst e
    exact .inl ⟨w.stops H q, hd i σ Hw H p⟩
theorem flat_succ {α β : Type} {l : List α} {f : α → List β} {j : Nat} {x : α} (h : l[j]? = some x) : (l.take (j + 1)).flatMap f = (l.take j).flatMap f ++ f x := by
  rw [List.take_add_one, h, List.flatMap_append]
  simp
theorem flat_at {α β : Type} {f : α → List β} {r : Nat} {x : α} {y : β} : ∀ {l : List α} {j : Nat}, l[j]? = some x → (f x)[r]? = some y → (l.flatMap f)[((l.take j).flatMap f).length + r]? = some y
  | [], j, h, _ => by simp at h
  | a :: l, 0, h, hr => by
    have e : a = x := by simpa using h
    subst e
    rw [List.take_zero, List.flatMap_nil, List.length_nil, Nat.zero_add, List.flatMap_cons, List.getElem?_append_left (List.getElem?_eq_some_iff.mp hr).1]
    exact hr
  | a :: l, j + 1, h, hr => by
    have h' : l[j]? = some x := by simpa using h
    have q := flat_at h' hr
    rw [List.take_succ_cons, List.flatMap_cons, List.flatMap_cons, List.length_append, List.getElem?_append_right (by omega)]
    have e : (f a).length + ((l.take j).flatMap f).length + r - (f a).length = ((l.take j).flatMap f).length + r := by omega
    rw [e]
    exact q
end GF
end

section
set_option maxHeartbeats 4000000
/-! the steps from a pair -/
namespace K82
open PySem PySem.Spec PyProof.Rows L2 GF
theorem ix_tupK {X : Cx} {K : PySem.W.Frag} (e : X.K = K) : IxR X (rIxT K) := by
  subst e
  exact ix_tup
def wr (c : Ch) (i : Nat) (b : Str) (u : Nat) : List Nat := wordsOf (rowC c i) b u (rowC c i).length
abbrev Step := (Nat × Nat) × (Nat × Nat)
def outV (c : Ch) (a b : Nat) (k : Str) (u v : Nat) : Step := ((u, v), wpair (wr c a k u) (wr c b k v))
def outU (c : Ch) (us : Nat → Str → List Nat) (a b : Nat) (k : Str) (u : Nat) : List Step := (us b k).map (outV c a b k u)
def outB (c : Ch) (us : Nat → Str → List Nat) (a b : Nat) (k : Str) : List Step := (us a k).flatMap (outU c us a b k)
def outsT (c : Ch) (bl : Nat → List Str) (us : Nat → Str → List Nat) (a b : Nat) : List Step := (bl a).flatMap (outB c us a b)
def StepAt (H : Hp) (x : V) (o : Step) : Prop := ∃ t t1 t2 : Addr, x = .ref t ∧ H t = some (.tup [.ref t1, .ref t2]) ∧ H t1 = some (.tup [.int (o.1.1 : Nat), .int (o.1.2 : Nat)]) ∧ H t2 = some (.tup [.int (o.2.1 : Nat), .int (o.2.2 : Nat)])
def twinS (Gv : Hp) (outs : List Step) : Strm := { n := outs.length, item := fun i x _ H1 => ∃ o, outs[i]? = some o ∧ StepAt H1 x o, stb := Same Gv, fin := fun _ _ => True }
def spTwin : SpS := fun vs H S => ∃ (G pr : Addr) (Gv : Hp) (c : Ch) (bl : Nat → List Str) (us : Nat → Str → List Nat) (a b : Nat), vs = [.ref G, .ref pr] ∧ GrpsF Gv G c bl us ∧ Same Gv H ∧ H pr = some (.tup [.int (a : Nat), .int (b : Nat)]) ∧ a < c.length ∧ b < c.length ∧
  S = twinS Gv (outsT c bl us a b)
theorem val_str {bl : List Str} {hf : Str → Addr} {x : Str} (nd : bl.Nodup) (hx : x ∈ bl) : valV (bl.map fun b => ((.inr b : Key), V.ref (hf b))) (.inr x) = some (.ref (hf x)) := by
  refine val_mem (kv := ((.inr x : Key), V.ref (hf x))) ?_ (List.mem_map_of_mem hx)
  rw [List.map_map]
  refine List.Pairwise.map _ (fun a b h => ?_) nd
  intro z
  exact h (Sum.inr.inj z)
theorem val_off {bl : List Str} {hf : Str → Addr} {x : Str} (hx : x ∉ bl) : valV (bl.map fun b => ((.inr b : Key), V.ref (hf b))) (.inr x) = none := by
  cases e : valV (bl.map fun b => ((.inr b : Key), V.ref (hf b))) (.inr x) with
  | none => rfl
  | some v =>
    obtain ⟨kv, h1, h2⟩ := List.mem_map.mp (valV_in e)
    obtain ⟨b, hb, rfl⟩ := List.mem_map.mp h1
    have : b = x := Sum.inr.inj h2
    exact absurd (this ▸ hb) hx
section
variable {P : Program} {w : World} {K : PySem.W.Frag} {mg : Str → Option Value} {base : Heap} {ad : Str → Addr} {fd : Str → FuncData}
theorem gsTwin : GScope ["groups", "pair", "first", "second", "block", "to", "words", "beside", "others"] ["groups", "pair"] (defScope sTwinSteps) := ⟨rfl, rfl, rfl, by decide +kernel, rfl, by decide +kernel, by decide +kernel⟩
theorem ok_twin_steps (X : Tx K mg ad fd) : GFnS P w K mg base 3 (ad "twin_steps") (fd "twin_steps") ["groups", "pair"] spTwin := by
  obtain ⟨oc, od0, kV0, doc, pm, an, cdv, ct, osl, ef, lk, hcd⟩ := X.F_twin_steps.ex
  rw [ef] at lk ⊢
  refine gfnS_of lk hcd gsTwin (fun n => by rfl) (fun vs H S h => ?_) (fun A outer s H vs S pn T hr h => ?_)
  · obtain ⟨G, pr, _, _, _, _, _, _, rfl, _⟩ := h
    rfl
  · obtain ⟨G, pr, Gv, c, bl, us, a, b, rfl, gf, sm, hp, ha, hb, rfl⟩ := h
    have G_word_pair := ok_word_pair (P := P) (w := w) (base := base) X
    have HR_word_pair : Room 1 (A.deeper (envOfC "twin_steps" (defScope sTwinSteps) s.heap.objs.size (ad "twin_steps") cdv)) := hr.mono (by decide)
    have hu1 : (A.deeper (envOfC "twin_steps" (defScope sTwinSteps) s.heap.objs.size (ad "twin_steps") cdv)).units + 1 < cLine := by have := hr.un; omega
    refine ⟨_, gsf_cons (gsf_ps T fun b => ps_par (i := 2) (j := 3) rfl gsTwin.nd rfl rfl (by decide) rfl rfl (by exact (pa_cons (pe_ix (ix_listK (K := K) rfl) (pv 0) (pe_ix (ix_tupK (K := K) rfl) (pv 1) pe_int (fun _ _ => rfl)) (fun _ _ => rfl)) (pa_cons (pe_ix (ix_listK (K := K) rfl) (pv 0) (pe_ix (ix_tupK (K := K) rfl) (pv 1) pe_int (fun _ _ => rfl)) (fun _ _ => rfl)) pa_nil))) (by rfl))
      (gsf_one (gsf_for T (fun b => pi_keys (pv 2)) (fun b => pg_name (i := 4) gsTwin.nd rfl (.inl rfl))
        (gsf_one (gsf_for T (fun b => pi_items (pe_dget hu1 (pv 2) (pv 4) (fun _ _ => rfl))) (fun b => pg_tupK (n := 2) (K := K) rfl rfl (pgs_cons (pg_name (i := 5) gsTwin.nd rfl (.inl rfl)) (pgs_cons (pg_name (i := 6) gsTwin.nd rfl (.inl rfl)) pgs_nil)))
          (gsf_one (gsf_for T (fun b => pi_items (pe_freeze (pe_dget2 hu1 (pv 3) (pv 4) pe_dnewK ⟨rfl, rfl, rfl, rfl⟩))) (fun b => pg_tupK (n := 2) (K := K) rfl rfl (pgs_cons (pg_name (i := 7) gsTwin.nd rfl (.inl rfl)) (pgs_cons (pg_name (i := 8) gsTwin.nd rfl (.inl rfl)) pgs_nil)))
            (gsf_one (gsf_yield T (fun b => pe_tup (pa_cons (pe_tup (pa_cons (pv 5) (pa_cons (pv 7) pa_nil))) (pa_cons (pe_call G_word_pair HR_word_pair (by rfl) X.g_word_pair X.F_word_pair.kp X.b_word_pair .nil pass0 (pa_cons (pv 6) (pa_cons (pv 8) pa_nil))) pa_nil))))))))))), ?_⟩
    obtain ⟨⟨gs, eG, lg, kg⟩, nd, has, off⟩ := id gf
    have hga : ∃ g, gs[a]? = some g := ⟨gs[a]'(by omega), List.getElem?_eq_getElem (by omega)⟩
    have hgb : ∃ g, gs[b]? = some g := ⟨gs[b]'(by omega), List.getElem?_eq_getElem (by omega)⟩
    obtain ⟨ga, hga⟩ := hga
    obtain ⟨gb, hgb⟩ := hgb
    obtain ⟨oa, hfa, eA, sA⟩ := kg a ga hga
    obtain ⟨ob, hfb, eB, sB⟩ := kg b gb hgb
    have at_ : ∀ {i : Nat} {g : Addr}, gs[i]? = some g → atI (gs.map V.ref) (i : Int) = some (.ref g) := fun h => atI_nat (by rw [List.getElem?_map, h]; rfl)
    refine ⟨.ref G, rfl, .ref pr, rfl, pr, _, 0, .int (a : Nat), rfl, rfl, SqT.of hp, atI_nat (j := 0) rfl, G, _, a, .ref ga, rfl, rfl, SqL.of (sm _ _ eG), at_ hga, .ref G, rfl, .ref pr, rfl, pr, _, 1, .int (b : Nat), rfl, rfl, SqT.of hp, atI_nat (j := 1) rfl, G, _, b, .ref gb, rfl, rfl, SqL.of (sm _ _ eG), at_ hgb, _, _, rfl, ?_⟩
    refine ⟨.ref ga, rfl, ga, oa, rfl, .inl ⟨_, sm _ _ eA, ?_⟩⟩
    refine gfor_it (w := walk_keys (d := ga) (o := oa)) (fun j i σ Hw H' => ∃ r4 r5 r6 r7 r8, σ = [some (.ref G), some (.ref pr), some (.ref ga), some (.ref gb), r4, r5, r6, r7, r8] ∧ i = (((bl a).take j).flatMap (outB c us a b)).length ∧ Same Gv H' ∧ Same Hw H')
      ⟨_, _, _, _, _, rfl, rfl, sm, Same.refl⟩ (fun j i σ Hw H' _ ⟨_, _, _, _, _, _, _, s1, _⟩ => s1 _ _ eA) ?_ ?_
    · rintro j x i σ Hw H1x H1 hj ⟨r4, r5, r6, r7, r8, rfl, rfl, s1, sw1⟩ ⟨rfl, k, v, hk, rfl⟩
      rw [List.length_map] at hj
      obtain ⟨blk, hblk⟩ : ∃ x, (bl a)[j]? = some x := ⟨(bl a)[j], List.getElem?_eq_getElem hj⟩
      rw [List.getElem?_map, hblk] at hk
      cases hk
      have inA : blk ∈ bl a := List.mem_of_getElem? hblk
      obtain ⟨o1, hk1, lf1, eh1, L1⟩ := sA blk inA
      refine ⟨.ref ga, rfl, .str blk, rfl, ga, _, rfl, .inl ⟨_, .inr blk, .inr ⟨oa, s1 _ _ eA⟩, rfl, (val_str (nd a) inA).symm⟩, hfa blk, o1, hk1, rfl, s1 _ _ eh1, ?_⟩
      refine gfor_it (w := walk_items (d := hfa blk) (o := o1) (kvs := hk1)) (fun m i σ Hw H' => ∃ r5 r6 r7 r8, σ = [some (.ref G), some (.ref pr), some (.ref ga), some (.ref gb), some (.str blk), r5, r6, r7, r8] ∧ i = (((bl a).take j).flatMap (outB c us a b)).length + (((us a blk).take m).flatMap (outU c us a b blk)).length ∧ Same Gv H' ∧ Same Hw H')
        ⟨_, _, _, _, rfl, by simp, s1, sw1⟩ (fun m i σ Hw H' _ ⟨_, _, _, _, _, _, s2, _⟩ => s2 _ _ eh1) ?_ ?_
      · rintro m x i σ Hw H2 H3 hm ⟨r5, r6, r7, r8, rfl, rfl, s2, sw2⟩ ⟨T1, u1, u2, rfl, hT1, rfl, e1, e2⟩
        have lu : hk1.length = (us a blk).length := by rw [L1.eq, List.length_map]
        obtain ⟨u, hu⟩ : ∃ u, (us a blk)[m]? = some u := ⟨(us a blk)[m]'(by omega), List.getElem?_eq_getElem (by omega)⟩
        have ekm : hk1[m]? = some ((.inl (u : Int) : Key), V.ref (lf1 u)) := by rw [L1.eq, List.getElem?_map, hu]; rfl
        have e1 : hk1[m]?.map (fun kv => kV kv.1) = some u1 := e1
        have e2 : hk1[m]?.map Prod.snd = some u2 := e2
        rw [ekm] at e1 e2
        obtain rfl : V.int (u : Int) = u1 := Option.some.inj e1
        obtain rfl : V.ref (lf1 u) = u2 := Option.some.inj e2
        obtain ⟨eu, nu⟩ := L1.lst u (List.mem_of_getElem? hu)
        have s3 := Same.at_ s2 (none_back s2 hT1) (o := .tup [V.int (u : Int), V.ref (lf1 u)])
        have sw3 := Same.at_ sw2 (none_back sw2 hT1) (o := .tup [V.int (u : Int), V.ref (lf1 u)])
        refine ⟨T1, _, rfl, SqT.of upd_same, rfl, _, _, rfl, _, _, rfl, rfl, ?_⟩
        generalize (upd H2 T1 (.tup [V.int (u : Int), V.ref (lf1 u)])) = H3 at s3 sw3 ⊢
        refine ⟨.ref gb, rfl, gb, rfl, .inl ⟨_, .inr ⟨ob, s3 _ _ eB⟩⟩, .str blk, rfl, fun e he => ⟨_, .inl ⟨_, .inr blk, .inr ⟨ob, Same.new he _ _ (s3 _ _ eB)⟩, rfl, rfl⟩, ?_⟩⟩
        have s4 := Same.at_ s3 (none_back s3 he) (o := .dK [])
        have sw4 := Same.at_ sw3 (none_back sw3 he) (o := .dK [])
        by_cases inB : blk ∈ bl b
        · obtain ⟨o2, hk2, lf2, eh2, L2⟩ := sB blk inB
          rw [val_str (nd b) inB]
          refine .inl ⟨hfb blk, o2, hk2, rfl, s4 _ _ eh2, ?_⟩
          have lv : hk2.length = (us b blk).length := by rw [L2.eq, List.length_map]
          refine gfor_it (w := walk_items (d := hfb blk) (o := o2) (kvs := hk2)) (fun q i σ Hw H' => ∃ r7 r8, σ = [some (.ref G), some (.ref pr), some (.ref ga), some (.ref gb), some (.str blk), some (.int (u : Int)), some (.ref (lf1 u)), r7, r8] ∧ i = (((bl a).take j).flatMap (outB c us a b)).length + (((us a blk).take m).flatMap (outU c us a b blk)).length + q ∧ Same Gv H' ∧ Same Hw H')
            ⟨_, _, rfl, rfl, s4, sw4⟩ (fun q i σ Hw H' _ ⟨_, _, _, _, s5, _⟩ => s5 _ _ eh2) ?_ ?_
          · rintro q x i σ Hw H5 H6 hq ⟨r7, r8, rfl, rfl, s5, sw5⟩ ⟨T2, u1, u2, rfl, hT2, rfl, e1, e2⟩
            obtain ⟨v, hv⟩ : ∃ v, (us b blk)[q]? = some v := ⟨(us b blk)[q]'(by omega), List.getElem?_eq_getElem (by omega)⟩
            have ekq : hk2[q]? = some ((.inl (v : Int) : Key), V.ref (lf2 v)) := by rw [L2.eq, List.getElem?_map, hv]; rfl
            have e1 : hk2[q]?.map (fun kv => kV kv.1) = some u1 := e1
            have e2 : hk2[q]?.map Prod.snd = some u2 := e2
            rw [ekq] at e1 e2
            obtain rfl : V.int (v : Int) = u1 := Option.some.inj e1
            obtain rfl : V.ref (lf2 v) = u2 := Option.some.inj e2
            obtain ⟨ev, nv⟩ := L2.lst v (List.mem_of_getElem? hv)
            have s6 := Same.at_ s5 (none_back s5 hT2) (o := .tup [V.int (v : Int), V.ref (lf2 v)])
            have sw6 := Same.at_ sw5 (none_back sw5 hT2) (o := .tup [V.int (v : Int), V.ref (lf2 v)])
            refine ⟨T2, _, rfl, SqT.of upd_same, rfl, _, _, rfl, _, _, rfl, rfl, ?_⟩
            generalize (upd H5 T2 (.tup [V.int (v : Int), V.ref (lf2 v)])) = H6 at s6 sw6 ⊢
            have out : (outsT c bl us a b)[(((bl a).take j).flatMap (outB c us a b)).length + (((us a blk).take m).flatMap (outU c us a b blk)).length + q]? = some (outV c a b blk u v) := by
              rw [Nat.add_assoc]
              refine flat_at hblk (flat_at hu ?_)
              show ((us b blk).map (outV c a b blk u))[q]? = _
              rw [List.getElem?_map, hv]; rfl
            refine ⟨.int (u : Int), rfl, .int (v : Int), rfl, sz2, fun t1 n1 => ⟨.ref (lf1 u), rfl, .ref (lf2 v), rfl, lf1 u, lf2 v, wr c a blk u, wr c b blk v, rfl, Same.new n1 _ _ (s6 _ _ eu), Same.new n1 _ _ (s6 _ _ ev), nu, nv, fun t2 n2 => ⟨sz2, fun t nt => ?_⟩⟩⟩
            have x1 := Same.new n1 (H := H6) (o := .tup [V.int (u : Int), V.int (v : Int)])
            have x2 := Same.new n2 (o := .tup [V.int ((wpair (wr c a blk u) (wr c b blk v)).1 : Nat), V.int ((wpair (wr c a blk u) (wr c b blk v)).2 : Nat)])
            have x3 := Same.new nt (o := .tup [V.ref t1, V.ref t2])
            refine ⟨(List.getElem?_eq_some_iff.mp out).1, ⟨_, out, t, t1, t2, rfl, upd_same, x3 _ _ (x2 _ _ upd_same), x3 _ _ upd_same⟩, Same.trans sw6 (Same.trans x1 (Same.trans x2 x3)), fun H2 st => ⟨_, _, rfl, by omega, st, Same.refl⟩⟩
          · rintro i σ Hw H5 ⟨r7, r8, rfl, rfl, s5, sw5⟩
            refine ⟨_, _, _, _, rfl, ?_, s5, sw5⟩
            rw [flat_succ hu, List.length_append]
            have : (outU c us a b blk u).length = (us b blk).length := List.length_map ..
            omega
        · rw [val_off inB]
          refine .inr ⟨e, [], rfl, upd_same, fun od => ⟨e, od, [], rfl, upd_same, ?_⟩⟩
          have s5 := Same.at_ s4 (none_back s3 he) (o := .frz od (.dK []))
          have sw5 := Same.at_ sw4 (none_back sw3 he) (o := .frz od (.dK []))
          have e5 : (upd (upd H3 e (.dK [])) e (.frz od (.dK []))) e = some (.frz od (.dK [])) := upd_same
          generalize (upd (upd H3 e (.dK [])) e (.frz od (.dK []))) = H5 at s5 sw5 e5 ⊢
          refine gfor_it (w := walk_items (d := e) (o := od) (kvs := [])) (fun q i σ Hw H' => ∃ r7 r8, σ = [some (.ref G), some (.ref pr), some (.ref ga), some (.ref gb), some (.str blk), some (.int (u : Int)), some (.ref (lf1 u)), r7, r8] ∧ i = (((bl a).take j).flatMap (outB c us a b)).length + (((us a blk).take m).flatMap (outU c us a b blk)).length ∧ Same Gv H' ∧ Same Hw H' ∧ H' e = some (.frz od (.dK [])))
            ⟨_, _, rfl, rfl, s5, sw5, e5⟩ (fun q i σ Hw H' _ ⟨_, _, _, _, _, _, z⟩ => z) (fun q x i σ Hw H5 H6 hq => absurd hq (Nat.not_lt_zero _)) ?_
          rintro i σ Hw H5 ⟨r7, r8, rfl, rfl, s5, sw5, _⟩
          refine ⟨_, _, _, _, rfl, ?_, s5, sw5⟩
          rw [flat_succ hu, List.length_append]
          have : (outU c us a b blk u).length = (us b blk).length := List.length_map ..
          rw [off b blk inB, List.length_nil] at this
          omega
      · rintro i σ Hw H2 ⟨r5, r6, r7, r8, rfl, rfl, s2, sw2⟩
        refine ⟨_, _, _, _, _, rfl, ?_, s2, sw2⟩
        have lu : hk1.length = (us a blk).length := by rw [L1.eq, List.length_map]
        rw [flat_succ hblk, List.length_append, lu, List.take_length]
        rfl
    · rintro i σ Hw H1 ⟨r4, r5, r6, r7, r8, rfl, rfl, s1, sw1⟩
      rw [List.length_map, List.take_length]
      exact ⟨rfl, True.intro, sw1⟩
end
end K82
end

section
set_option maxHeartbeats 4000000
/-! the texts behind a pair -/
namespace K82
open PySem PySem.Spec PyProof.Rows L2
def kk (x : Nat × Nat) : List Key := [.inl (x.1 : Int), .inl (x.2 : Int)]
def ppV (x : Nat × Nat) : List V := [.int (x.1 : Int), .int (x.2 : Int)]
theorem kk_V (x : Nat × Nat) : (kk x).map kV = ppV x := rfl
theorem kk_inj {x y : Nat × Nat} (h : kk x = kk y) : x = y := by
  unfold kk at h
  injection h with h1 h2
  injection h2 with h3 _
  have e1 := Sum.inl.inj h1
  have e2 := Sum.inl.inj h3
  exact Prod.ext (by omega) (by omega)
/-- what is known of the pairs that were met: the j-th one, where it came from, by which words -/
structure MetAt (H : Hp) (M : Addr) (ks : List (Nat × Nat)) (par : Nat → Nat) (wd : Nat → Nat × Nat) (sz : Nat) : Prop where
  nd : ks.Nodup
  at_ : ∃ vs : List V, H M = some (.dT (ks.zipWith (fun k v => (kk k, v)) vs)) ∧ vs.length = ks.length ∧ vs[0]? = some .non ∧ ∀ (j : Nat) (k : Nat × Nat), 0 < j → ks[j]? = some k →
    ∃ (t p w : Addr) (k' : Nat × Nat), vs[j]? = some (.ref t) ∧ H t = some (.tup [.ref p, .ref w]) ∧ par j < j ∧ ks[par j]? = some k' ∧ H p = some (.tup (ppV k')) ∧ H w = some (.tup (ppV (wd j))) ∧ (wd j).1 < sz ∧ (wd j).2 < sz
theorem zip_get {ks : List (Nat × Nat)} {vs : List V} (l : vs.length = ks.length) {j : Nat} {k : Nat × Nat} {v : V} (hk : ks[j]? = some k) (hv : vs[j]? = some v) : (ks.zipWith (fun k v => (kk k, v)) vs)[j]? = some (kk k, v) := by
  rw [List.getElem?_zipWith, hk, hv]
theorem zip_keys : ∀ {ks : List (Nat × Nat)} {vs : List V}, vs.length = ks.length → (ks.zipWith (fun k v => (kk k, v)) vs).map (·.1) = ks.map kk
  | [], [], _ => rfl
  | [], _ :: _, h => by cases h
  | _ :: _, [], h => by cases h
  | k :: ks, v :: vs, h => by
    rw [List.zipWith_cons_cons, List.map_cons, List.map_cons, zip_keys (by simpa using h)]
theorem zip_nd {ks : List (Nat × Nat)} {vs : List V} (l : vs.length = ks.length) (nd : ks.Nodup) : ((ks.zipWith (fun k v => (kk k, v)) vs).map (·.1)).Nodup := by
  rw [zip_keys l]
  exact List.Pairwise.map _ (fun a b h z => h (kk_inj z)) nd
theorem met_val {ks : List (Nat × Nat)} {vs : List V} (l : vs.length = ks.length) (nd : ks.Nodup) {j : Nat} {k : Nat × Nat} {v : V} (hk : ks[j]? = some k) (hv : vs[j]? = some v) : valV (ks.zipWith (fun k v => (kk k, v)) vs) (kk k) = some v :=
  val_mem (kv := (kk k, v)) (zip_nd l nd) (List.mem_of_getElem? (zip_get l hk hv))
theorem met_off {ks : List (Nat × Nat)} {vs : List V} (l : vs.length = ks.length) {k : Nat × Nat} (h : k ∉ ks) : valV (ks.zipWith (fun k v => (kk k, v)) vs) (kk k) = none := by
  cases e : valV (ks.zipWith (fun k v => (kk k, v)) vs) (kk k) with
  | none => rfl
  | some v =>
    have hm := valV_in e
    rw [zip_keys l] at hm
    obtain ⟨x, hx, he⟩ := List.mem_map.mp hm
    exact absurd (kk_inj he ▸ hx) h
/-- the way back from the j-th pair: the words that led to it, the last ones first -/
def backW (par : Nat → Nat) (wd : Nat → Nat × Nat) : Nat → Nat → List (Nat × Nat)
  | 0, _ => []
  | n + 1, j => if j = 0 then [] else wd j :: backW par wd n (par j)
def spTextsTo : Sp := fun vs H Q _ => ∃ (M pr w : Addr) (ks : List (Nat × Nat)) (par : Nat → Nat) (wd : Nat → Nat × Nat) (sz j : Nat) (k x : Nat × Nat), vs = [.ref M, .ref pr, .ref w] ∧ MetAt H M ks par wd sz ∧ ks.length ≤ 100000 ∧ ks[j]? = some k ∧ H pr = some (.tup (ppV k)) ∧ H w = some (.tup (ppV x)) ∧
  ∀ (t l1 l2 : Addr) (H' : Hp), Same H H' → H l1 = none → H l2 = none → H' t = some (.tup [.ref l1, .ref l2]) → H' l1 = some (.lst (intsV (((x :: backW par wd (j + 1) j).map (·.1)).reverse))) → H' l2 = some (.lst (intsV (((x :: backW par wd (j + 1) j).map (·.2)).reverse))) → Q (.ref t) H'
theorem none_same {H H' : Hp} {L : Addr} (s : Same H H') (z : H' L = none) : H L = none := by
  cases e : H L with
  | none => rfl
  | some o => rw [s _ _ e] at z; cases z
theorem sz1 {a : V} : [a].length ≤ sizeLine := by rw [sizeLine_eq]; exact (by decide : 1 ≤ 16777216)
theorem intsV_app (l m : List Nat) : intsV (l ++ m) = intsV l ++ intsV m := List.map_append ..
theorem back_more {par : Nat → Nat} {wd : Nat → Nat × Nat} {L : Nat} (hp : ∀ j, 0 < j → j < L → par j < j) : ∀ (n m j : Nat), j < n → j < m → j < L → backW par wd n j = backW par wd m j
  | 0, _, j, h, _, _ => absurd h (Nat.not_lt_zero j)
  | _ + 1, 0, j, _, h, _ => absurd h (Nat.not_lt_zero j)
  | n + 1, m + 1, j, h1, h2, h3 => by
    show (if j = 0 then [] else wd j :: backW par wd n (par j)) = (if j = 0 then [] else wd j :: backW par wd m (par j))
    by_cases z : j = 0
    · rw [if_pos z, if_pos z]
    · have := hp j (by omega) h3
      rw [if_neg z, if_neg z, back_more hp n m (par j) (by omega) (by omega) (by omega)]
section
variable {P : Program} {w : World} {K : PySem.W.Frag} {mg : Str → Option Value} {base : Heap} {ad : Str → Addr} {fd : Str → FuncData}
theorem scTextsTo : FnScope ["met", "pair", "words", "one", "other"] ["met", "pair", "words"] (defScope sTextsTo) := ⟨rfl, rfl, rfl, by decide +kernel, rfl, by decide +kernel, by decide +kernel⟩
theorem ok_texts_to (X : Tx K mg ad fd) : FnOk P w K mg base CX0 1 (ad "texts_to") (fd "texts_to") ["met", "pair", "words"] spTextsTo := by
  refine X.F_texts_to.ok scTextsTo (fun vs H Q E h => ?_) (fun cdv A outer s H vs Q E hr h => ?_)
  · obtain ⟨M, pr, w, ks, par, wd, sz, j, k, x, rfl, _⟩ := h
    rfl
  · obtain ⟨M, pr, w, ks, par, wd, sz, j, k, x, rfl, met, lk, hj, ep, ew, q⟩ := h
    have hu1 : (A.deeper (envOfC "texts_to" (defScope sTextsTo) s.heap.objs.size (ad "texts_to") cdv)).units + 1 < cLine := by have := hr.un; omega
    refine ⟨_, (pss_cons (ps_par (i := 3) (j := 4) rfl scTextsTo.nd rfl rfl (by decide) rfl rfl (by exact (pa_cons (pe_lst (pa_cons (pe_ix ix_tup (pv 2) pe_int (fun _ _ => rfl)) pa_nil)) (pa_cons (pe_lst (pa_cons (pe_ix ix_tup (pv 2) pe_int (fun _ _ => rfl)) pa_nil)) pa_nil))) (by rfl))
  (pss_cons (ps_while PassesOwn.never (pt_cmpR op_notN (pe_dget hu1 (pv 0) (pv 1) (fun _ _ => rfl)) pe_non (nomark _))
  (pss_cons (ps_asg (by exact (pe_dget hu1 (pv 0) (pv 1) (fun _ _ => rfl))) (pg_tup rfl (pgs_cons (pg_name (i := 1) scTextsTo.nd rfl (.inl rfl)) (pgs_cons (pg_name (i := 2) scTextsTo.nd rfl (.inl rfl)) pgs_nil))))
  (pss_cons (ps_expr (by exact (pe_bm PySem.F.plainAttrs_list PySem.F.slot_list_append PySem.F.type_list_append mt_append (pv 3) (pa_cons (pe_ix ix_tup (pv 2) pe_int (fun _ _ => rfl)) pa_nil))))
  (pss_one (ps_expr (by exact (pe_bm PySem.F.plainAttrs_list PySem.F.slot_list_append PySem.F.type_list_append mt_append (pv 4) (pa_cons (pe_ix ix_tup (pv 2) pe_int (fun _ _ => rfl)) pa_nil))))))))
  (pss_one (ps_ret (by exact (pe_tup (pa_cons (pe_revL (pv 3)) (pa_cons (pe_revL (pv 4)) pa_nil)))))))), ?_⟩
    obtain ⟨nd, vs, eM, lv, v0, kj⟩ := id met
    have hpar : ∀ m, 0 < m → m < ks.length → par m < m := fun m h1 h2 => by
      obtain ⟨_, _, _, _, _, _, h, _⟩ := kj m _ h1 (List.getElem?_eq_getElem h2)
      exact h
    have jl : j < ks.length := (List.getElem?_eq_some_iff.mp hj).1
    refine ⟨.ref w, rfl, w, _, 0, .int (x.1 : Int), rfl, rfl, SqT.of ew, atI_nat (j := 0) rfl, sz1, fun L1 n1 => ⟨.ref w, rfl, w, _, 1, .int (x.2 : Int), rfl, rfl, SqT.of (Same.new n1 _ _ ew), atI_nat (j := 1) rfl, sz1, fun L2 n2 => ⟨_, _, rfl, ?_⟩⟩⟩
    have n2' := none_back (Same.new n1) n2
    have n12 : L1 ≠ L2 := fun z => by rw [← z, upd_same] at n2; cases n2
    have S0 : Same H (upd (upd H L1 (.lst [.int (x.1 : Int)])) L2 (.lst [.int (x.2 : Int)])) := Same.trans (Same.new n1) (Same.new n2)
    have e1 : (upd (upd H L1 (.lst [.int (x.1 : Int)])) L2 (.lst [.int (x.2 : Int)])) L1 = some (.lst (intsV ([x].map (·.1)))) := by rw [upd_ne n12, upd_same]; rfl
    have e2 : (upd (upd H L1 (.lst [.int (x.1 : Int)])) L2 (.lst [.int (x.2 : Int)])) L2 = some (.lst (intsV ([x].map (·.2)))) := by rw [upd_same]; rfl
    generalize (upd (upd H L1 (.lst [.int (x.1 : Int)])) L2 (.lst [.int (x.2 : Int)])) = H1 at S0 e1 e2 ⊢
    refine ⟨fun m σ H' => ∃ (pr' w' : Addr) (k' : Nat × Nat) (acc : List (Nat × Nat)), σ = [some (.ref M), some (.ref pr'), some (.ref w'), some (.ref L1), some (.ref L2)] ∧ ks[m]? = some k' ∧ H' pr' = some (.tup (ppV k')) ∧ acc ++ backW par wd (m + 1) m = x :: backW par wd (j + 1) j ∧ acc.length + m ≤ j + 1 ∧ Same H H' ∧ H' L1 = some (.lst (intsV (acc.map (·.1)))) ∧ H' L2 = some (.lst (intsV (acc.map (·.2)))),
      ⟨j, pr, w, k, [x], rfl, hj, S0 _ _ ep, rfl, by simp; omega, S0, e1, e2⟩, ?_⟩
    rintro m σ H2 ⟨pr', w', k', acc, rfl, hm, ep', hacc, hl, s2, eL1, eL2⟩
    have ml : m < ks.length := (List.getElem?_eq_some_iff.mp hm).1
    by_cases z : m = 0
    · subst z
      refine ⟨.ref M, rfl, .ref pr', rfl, M, .non, rfl, .inr ⟨_, kk k', pr', .inl (s2 _ _ eM), rfl, ep', (met_val lv nd hm v0).symm⟩, rfl, _, rfl, iteF ?_⟩
      have hb : backW par wd (0 + 1) 0 = [] := rfl
      rw [hb, List.append_nil] at hacc
      subst hacc
      have rev : ∀ l : List Nat, (intsV l).reverse = intsV l.reverse := fun l => by unfold intsV; rw [List.map_reverse]
      refine ⟨.ref L1, rfl, L1, _, rfl, SqL.of eL1, fun R1 m1 => ⟨.ref L2, rfl, L2, _, rfl, SqL.of (Same.new m1 _ _ eL2), fun R2 m2 => ⟨sz2, fun t nt => ?_⟩⟩⟩
      have x1 := Same.new m1 (H := H2) (o := .lst (intsV ((x :: backW par wd (j + 1) j).map (·.1))).reverse)
      have x2 := Same.new m2 (o := .lst (intsV ((x :: backW par wd (j + 1) j).map (·.2))).reverse)
      have x3 := Same.new nt (o := .tup [.ref R1, .ref R2])
      refine q t R1 R2 _ (Same.trans s2 (Same.trans x1 (Same.trans x2 x3))) (none_same s2 m1) (none_same (Same.trans s2 x1) m2) upd_same ?_ ?_
      · rw [← rev]
        exact x3 _ _ (x2 _ _ upd_same)
      · rw [← rev]
        exact x3 _ _ upd_same
    · obtain ⟨t, p, wv, k2, hv, et, hpm, hk2, ep2, ew2, _⟩ := kj m k' (by omega) hm
      have g : DGet H2 M (.ref pr') (some (.ref t)) := .inr ⟨_, kk k', pr', .inl (s2 _ _ eM), rfl, ep', (met_val lv nd hm hv).symm⟩
      refine ⟨.ref M, rfl, .ref pr', rfl, M, .ref t, rfl, g, rfl, _, rfl, iteT ?_⟩
      have la : acc.length ≤ 100000 := by omega
      have n1p : ∀ {b o}, H b = some o → b ≠ L1 := fun e => ne_of_none e n1
      have n2p : ∀ {b o}, H b = some o → b ≠ L2 := fun e => ne_of_none e n2'
      refine ⟨_, fun σ' H' h => h, .ref M, rfl, .ref pr', rfl, M, .ref t, rfl, g, t, _, rfl, SqT.of (s2 _ _ et), rfl, .ref p, _, rfl, .ref wv, _, rfl, rfl, ?_⟩
      refine ⟨.ref L1, rfl, .inl ⟨rfl, _, SqL.of eL1⟩, .ref wv, rfl, wv, _, 0, .int ((wd m).1 : Int), rfl, rfl, SqT.of (s2 _ _ ew2), atI_nat (j := 0) rfl, L1, _, _, rfl, rfl, eL1, by rw [intsV_length, List.length_map, sizeLine_eq]; omega, ?_⟩
      have eL2' : (upd H2 L1 (.lst (intsV (acc.map (·.1)) ++ [.int ((wd m).1 : Int)]))) L2 = some (.lst (intsV (acc.map (·.2)))) := by rw [upd_ne n12.symm]; exact eL2
      have ew2' : (upd H2 L1 (.lst (intsV (acc.map (·.1)) ++ [.int ((wd m).1 : Int)]))) wv = some (.tup (ppV (wd m))) := by rw [upd_ne (n1p ew2)]; exact s2 _ _ ew2
      refine ⟨.ref L2, rfl, .inl ⟨rfl, _, SqL.of eL2'⟩, .ref wv, rfl, wv, _, 1, .int ((wd m).2 : Int), rfl, rfl, SqT.of ew2', atI_nat (j := 1) rfl, L2, _, _, rfl, rfl, eL2', by rw [intsV_length, List.length_map, sizeLine_eq]; omega, ?_⟩
      have s3 : Same H (upd (upd H2 L1 (.lst (intsV (acc.map (·.1)) ++ [.int ((wd m).1 : Int)]))) L2 (.lst (intsV (acc.map (·.2)) ++ [.int ((wd m).2 : Int)]))) := fun b o e => by rw [upd_ne (n2p e), upd_ne (n1p e)]; exact s2 _ _ e
      refine ⟨par m, hpm, p, wv, k2, acc ++ [wd m], rfl, hk2, s3 _ _ ep2, ?_, by rw [List.length_append, List.length_singleton]; omega, s3, ?_, ?_⟩
      · rw [← hacc, List.append_assoc]
        congr 1
        show wd m :: backW par wd (par m + 1) (par m) = (if m = 0 then [] else wd m :: backW par wd m (par m))
        rw [if_neg z]
        congr 1
        exact back_more hpar _ _ _ (by omega) (by omega) (by omega)
      · rw [upd_ne n12, upd_same, List.map_append, intsV_app]; rfl
      · rw [upd_same, List.map_append, intsV_app]; rfl
end
end K82
end

section
set_option maxHeartbeats 4000000
/-! the search for a clash, without Python -/
namespace K82
open PySem PySem.Spec PyProof.Rows L2
/-- in state a the word x writes the block k and leads to u -/
def Lk (c : Ch) (a x : Nat) (k : Str) (u : Nat) : Prop := (rowC c a)[x]? = some (k, u)
theorem lk_way {c : Ch} {ws : List Nat} {s a x u : Nat} {k : Str} (h : (wayF c ws s).2 = a) (l : Lk c a x k u) : wayF c (ws ++ [x]) s = ((wayF c ws s).1 ++ [k], u) := by
  rw [wayF_snoc, h, List.getD_eq_getElem?_getD, show (rowC c a)[x]? = some (k, u) from l]
  rfl
theorem mem_outs {c : Ch} {bl : Nat → List Str} {us : Nat → Str → List Nat} {a b : Nat} {o : Step} : o ∈ outsT c bl us a b ↔ ∃ k u v, k ∈ bl a ∧ u ∈ us a k ∧ v ∈ us b k ∧ o = outV c a b k u v := by
  unfold outsT outB outU
  rw [List.mem_flatMap]
  constructor
  · rintro ⟨k, hk, h⟩
    obtain ⟨u, hu, h2⟩ := List.mem_flatMap.mp h
    obtain ⟨v, hv, rfl⟩ := List.mem_map.mp h2
    exact ⟨k, u, v, hk, hu, hv, rfl⟩
  · rintro ⟨k, u, v, hk, hu, hv, rfl⟩
    exact ⟨k, hk, List.mem_flatMap.mpr ⟨u, hu, List.mem_map_of_mem hv⟩⟩
/-- what groups tell -/
structure GrpsM (c : Ch) (bl : Nat → List Str) (us : Nat → Str → List Nat) : Prop where
  has : ∀ i, i < c.length → ∀ b, b ∈ bl i ↔ hasB (rowC c i) b (rowC c i).length
  us_ : ∀ i b u, i < c.length → (u ∈ us i b ↔ wr c i b u ≠ [])
theorem GrpsF.math {H : Hp} {l : Addr} {c : Ch} {bl : Nat → List Str} {us : Nat → Str → List Nat} (G : GrpsF H l c bl us) : GrpsM c bl us := by
  obtain ⟨⟨gs, e, lg, k⟩, nd, has, off⟩ := G
  refine ⟨has, fun i b u hi => ?_⟩
  obtain ⟨g, hg⟩ : ∃ g, gs[i]? = some g := ⟨gs[i]'(by omega), List.getElem?_eq_getElem (by omega)⟩
  obtain ⟨o, hf, e1, k1⟩ := k i g hg
  by_cases hb : b ∈ bl i
  · obtain ⟨o2, hk, lf, e2, L⟩ := k1 b hb
    constructor
    · intro hu
      exact (L.lst u hu).2
    · intro hu
      by_cases z : u ∈ us i b
      · exact z
      · exact absurd (L.off u z) hu
  · rw [off i b hb]
    constructor
    · intro h; cases h
    · intro h
      exact absurd ((has i hi b).mpr (words_hasB h)) hb
theorem wr_lk {c : Ch} {i x u : Nat} {b : Str} : x ∈ wr c i b u ↔ Lk c i x b u := by
  unfold wr Lk
  rw [mem_words]
  constructor
  · exact fun h => h.2
  · exact fun h => ⟨(List.getElem?_eq_some_iff.mp h).1, h⟩
theorem outs_sound {c : Ch} {bl : Nat → List Str} {us : Nat → Str → List Nat} (G : GrpsM c bl us) {a b : Nat} (ha : a < c.length) (hb : b < c.length) {o : Step} (h : o ∈ outsT c bl us a b) :
    ∃ k, Lk c a o.2.1 k o.1.1 ∧ Lk c b o.2.2 k o.1.2 := by
  obtain ⟨k, u, v, hk, hu, hv, rfl⟩ := mem_outs.mp h
  have n1 := (G.us_ a k u ha).mp hu
  have n2 := (G.us_ b k v hb).mp hv
  obtain ⟨m1, m2⟩ := wpair_mem n1 n2
  exact ⟨k, wr_lk.mp m1, wr_lk.mp m2⟩
theorem wr_nodup (c : Ch) (i : Nat) (b : Str) (u : Nat) : (wr c i b u).Nodup := List.nodup_range.sublist List.filter_sublist
theorem outs_full {c : Ch} {bl : Nat → List Str} {us : Nat → Str → List Nat} (G : GrpsM c bl us) {a b x y u v : Nat} {k : Str} (ha : a < c.length) (hb : b < c.length) (h1 : Lk c a x k u) (h2 : Lk c b y k v) :
    ∃ o ∈ outsT c bl us a b, o.1 = (u, v) ∧ (a = b → u = v → x ≠ y → o.2.1 ≠ o.2.2) := by
  have m1 := wr_lk.mpr h1
  have m2 := wr_lk.mpr h2
  refine ⟨outV c a b k u v, mem_outs.mpr ⟨k, u, v, (G.has a ha k).mpr ?_, (G.us_ a k u ha).mpr (List.ne_nil_of_mem m1), (G.us_ b k v hb).mpr (List.ne_nil_of_mem m2), rfl⟩, rfl, fun e1 e2 nxy => ?_⟩
  · exact ⟨x, u, (List.getElem?_eq_some_iff.mp h1).1, h1⟩
  · subst e1 e2
    show (wpair (wr c a k u) (wr c a k u)).1 ≠ (wpair (wr c a k u) (wr c a k u)).2
    have nd := wr_nodup c a k u
    generalize wr c a k u = l at m1 m2 nd
    match l, m1, m2, nd with
    | [], m1, _, _ => cases m1
    | [z], m1, m2, _ =>
      have e1 : x = z := by simpa using m1
      have e2 : y = z := by simpa using m2
      exact absurd (e1.trans e2.symm) nxy
    | z :: z2 :: l, _, _, nd =>
      have n : z ≠ z2 := by
        have := (List.nodup_cons.mp nd).1
        intro e
        exact this (by simp [e])
      have w : wpair (z :: z2 :: l) (z :: z2 :: l) = (z2, z) := by
        unfold wpair
        rw [if_pos rfl, if_pos (by simp)]
        rfl
      rw [w]
      exact n.symm
/-- two different texts with one row and one last state -/
structure Clash (c : Ch) (sz : Nat) (ws os : List Nat) : Prop where
  ne : ws ≠ os
  w1 : ∀ x ∈ ws, x < sz
  w2 : ∀ x ∈ os, x < sz
  way : wayF c ws 0 = wayF c os 0
/-- the pairs that were met, as they stand -/
structure Bfs (c : Ch) (ks : List (Nat × Nat)) (par : Nat → Nat) (wd : Nat → Nat × Nat) (dp : Nat → Nat) : Prop where
  k0 : ks[0]? = some (0, 0)
  d0 : dp 0 = 0
  lt : ∀ k ∈ ks, k.1 < c.length ∧ k.2 < c.length
  st : ∀ j k, 0 < j → ks[j]? = some k → par j < j ∧ dp j = dp (par j) + 1 ∧ ∃ k' b, ks[par j]? = some k' ∧ Lk c k'.1 (wd j).1 b k.1 ∧ Lk c k'.2 (wd j).2 b k.2 ∧ (k.1 = k.2 → k'.1 = k'.2 ∧ (wd j).1 = (wd j).2)
  mono : ∀ i j, i ≤ j → j < ks.length → dp i ≤ dp j
/-- the pair k at depth d is done: its steps are no clash and lead to pairs that were met -/
def SweptO (ks : List (Nat × Nat)) (dp : Nat → Nat) (d : Nat) (k : Nat × Nat) (o : Step) : Prop := (o.1.1 = o.1.2 → k.1 = k.2 ∧ o.2.1 = o.2.2) ∧ ∃ j, ks[j]? = some o.1 ∧ dp j ≤ d + 1
def Swept (c : Ch) (bl : Nat → List Str) (us : Nat → Str → List Nat) (ks : List (Nat × Nat)) (dp : Nat → Nat) (i : Nat) : Prop := ∀ k, ks[i]? = some k → ∀ o ∈ outsT c bl us k.1 k.2, SweptO ks dp (dp i) k o
/-- the texts behind the j-th pair -/
def tx1 (par : Nat → Nat) (wd : Nat → Nat × Nat) (j : Nat) : List Nat := ((backW par wd (j + 1) j).map (·.1)).reverse
def tx2 (par : Nat → Nat) (wd : Nat → Nat × Nat) (j : Nat) : List Nat := ((backW par wd (j + 1) j).map (·.2)).reverse
section
variable {c : Ch} {ks : List (Nat × Nat)} {par : Nat → Nat} {wd : Nat → Nat × Nat} {dp : Nat → Nat}
theorem Bfs.par_lt (B : Bfs c ks par wd dp) {j : Nat} (h : 0 < j) (hl : j < ks.length) : par j < j := (B.st j _ h (List.getElem?_eq_getElem hl)).1
theorem Bfs.back (B : Bfs c ks par wd dp) {j : Nat} (h : 0 < j) (hl : j < ks.length) : backW par wd (j + 1) j = wd j :: backW par wd (par j + 1) (par j) := by
  show (if j = 0 then [] else wd j :: backW par wd j (par j)) = _
  have := B.par_lt h hl
  rw [if_neg (by omega), back_more (fun m h1 h2 => B.par_lt h1 h2) j (par j + 1) (par j) (by omega) (by omega) (by omega)]
theorem Bfs.texts (B : Bfs c ks par wd dp) : ∀ (j : Nat) (k : Nat × Nat), ks[j]? = some k → ∃ bs : List Str, wayF c (tx1 par wd j) 0 = (bs, k.1) ∧ wayF c (tx2 par wd j) 0 = (bs, k.2) ∧ (k.1 = k.2 → tx1 par wd j = tx2 par wd j) ∧ (tx1 par wd j).length = dp j ∧ (tx2 par wd j).length = dp j := by
  intro j
  induction j using Nat.strongRecOn with
  | ind j ih =>
    intro k hk
    by_cases z : j = 0
    · subst z
      rw [B.k0] at hk
      cases hk
      have t1 : tx1 par wd 0 = [] := rfl
      have t2 : tx2 par wd 0 = [] := rfl
      rw [t1, t2]
      exact ⟨[], rfl, rfl, fun _ => rfl, B.d0.symm, B.d0.symm⟩
    · obtain ⟨hp, hd, k', b, hk', l1, l2, hs⟩ := B.st j k (by omega) hk
      obtain ⟨bs, w1, w2, w3, w4, w5⟩ := ih (par j) hp k' hk'
      have eb := B.back (by omega) (List.getElem?_eq_some_iff.mp hk).1
      have e1 : tx1 par wd j = tx1 par wd (par j) ++ [(wd j).1] := by unfold tx1; rw [eb, List.map_cons, List.reverse_cons]
      have e2 : tx2 par wd j = tx2 par wd (par j) ++ [(wd j).2] := by unfold tx2; rw [eb, List.map_cons, List.reverse_cons]
      refine ⟨bs ++ [b], ?_, ?_, fun e => ?_, ?_, ?_⟩
      · rw [e1, lk_way (by rw [w1]) l1, w1]
      · rw [e2, lk_way (by rw [w2]) l2, w2]
      · obtain ⟨h1, h2⟩ := hs e
        rw [e1, e2, w3 h1, h2]
      · rw [e1, List.length_append, w4, hd]; rfl
      · rw [e2, List.length_append, w5, hd]; rfl
/-- a step that tells a clash -/
theorem Bfs.found {bl : Nat → List Str} {us : Nat → Str → List Nat} {sz : Nat} (B : Bfs c ks par wd dp) (G : GrpsM c bl us) (rows : ∀ r ∈ c, r.length = sz) {A : Nat} {k : Nat × Nat} (hA : ks[A]? = some k) {o : Step} (ho : o ∈ outsT c bl us k.1 k.2) (e : o.1.1 = o.1.2) (d : k.1 ≠ k.2 ∨ o.2.1 ≠ o.2.2) :
    Clash c sz (tx1 par wd A ++ [o.2.1]) (tx2 par wd A ++ [o.2.2]) := by
  have hk := B.lt k (List.mem_of_getElem? hA)
  obtain ⟨b, l1, l2⟩ := outs_sound G hk.1 hk.2 ho
  obtain ⟨bs, w1, w2, w3, w4, w5⟩ := B.texts A k hA
  have small : ∀ {a x u : Nat} {b : Str}, a < c.length → Lk c a x b u → x < sz := fun {a x u b} ha l => by
    have h2 : rowC c a ∈ c := by
      unfold rowC
      rw [List.getD_eq_getElem?_getD, List.getElem?_eq_getElem ha]
      exact List.getElem_mem ha
    rw [← rows _ h2]
    exact (List.getElem?_eq_some_iff.mp l).1
  have back : ∀ (j : Nat), j < ks.length → (∀ x ∈ tx1 par wd j, x < sz) ∧ ∀ x ∈ tx2 par wd j, x < sz := by
    intro j
    induction j using Nat.strongRecOn with
    | ind j ih =>
      intro hl
      by_cases z : j = 0
      · subst z
        exact ⟨(fun x hx => by cases hx), fun x hx => by cases hx⟩
      · obtain ⟨hp, hd, k', b, hk', m1, m2, hs⟩ := B.st j _ (by omega) (List.getElem?_eq_getElem hl)
        have hk2 := B.lt k' (List.mem_of_getElem? hk')
        obtain ⟨i1, i2⟩ := ih (par j) hp (by omega)
        have eb := B.back (by omega) hl
        have e1 : tx1 par wd j = tx1 par wd (par j) ++ [(wd j).1] := by unfold tx1; rw [eb, List.map_cons, List.reverse_cons]
        have e2 : tx2 par wd j = tx2 par wd (par j) ++ [(wd j).2] := by unfold tx2; rw [eb, List.map_cons, List.reverse_cons]
        rw [e1, e2]
        refine ⟨fun x hx => ?_, fun x hx => ?_⟩
        · rcases List.mem_append.mp hx with y | y
          · exact i1 x y
          · rw [List.mem_singleton.mp y]; exact small hk2.1 m1
        · rcases List.mem_append.mp hx with y | y
          · exact i2 x y
          · rw [List.mem_singleton.mp y]; exact small hk2.2 m2
  obtain ⟨b1, b2⟩ := back A (List.getElem?_eq_some_iff.mp hA).1
  refine ⟨fun z => ?_, fun x hx => ?_, fun x hx => ?_, ?_⟩
  · obtain ⟨z1, z2⟩ := List.append_inj' z rfl
    have z3 : o.2.1 = o.2.2 := by simpa using z2
    refine d.elim (fun y => y ?_) (fun y => y z3)
    have q : k.1 = k.2 := by
      have h1 : (wayF c (tx1 par wd A) 0).2 = k.1 := by rw [w1]
      rw [z1, w2] at h1
      exact h1.symm
    exact q
  · rcases List.mem_append.mp hx with y | y
    · exact b1 x y
    · rw [List.mem_singleton.mp y]; exact small hk.1 l1
  · rcases List.mem_append.mp hx with y | y
    · exact b2 x y
    · rw [List.mem_singleton.mp y]; exact small hk.2 l2
  · rw [lk_way (by rw [w1]) l1, lk_way (by rw [w2]) l2, w1, w2, e]
theorem way_at {c : Ch} {ws : List Nat} {s n x : Nat} (hx : ws[n]? = some x) : wayF c (ws.take (n + 1)) s = ((wayF c (ws.take n) s).1 ++ [((rowC c (wayF c (ws.take n) s).2).getD x ("", 0)).1], ((rowC c (wayF c (ws.take n) s).2).getD x ("", 0)).2) := by
  rw [List.take_add_one, hx]
  exact wayF_snoc c x (ws.take n) s
theorem way_split {c : Ch} : ∀ (n : Nat) (ws : List Nat) (s : Nat), wayF c ws s = ((wayF c (ws.take n) s).1 ++ (wayF c (ws.drop n) (wayF c (ws.take n) s).2).1, (wayF c (ws.drop n) (wayF c (ws.take n) s).2).2)
  | 0, ws, s => by rw [List.take_zero, List.drop_zero]; rfl
  | n + 1, [], s => rfl
  | n + 1, w :: ws, s => by
    have q := way_split (c := c) n ws ((rowC c s).getD w ("", 0)).2
    show ((((rowC c s).getD w ("", 0)).1 :: (wayF c ws ((rowC c s).getD w ("", 0)).2).1), (wayF c ws ((rowC c s).getD w ("", 0)).2).2) = _
    rw [q]
    rfl
theorem way_state {c : Ch} (wf : WfC c) {sz : Nat} (rows : ∀ r ∈ c, r.length = sz) : ∀ (ws : List Nat) (s : Nat), s < c.length → (∀ x ∈ ws, x < sz) → (wayF c ws s).2 < c.length
  | [], s, h, _ => h
  | w :: ws, s, h, hw => by
    refine way_state wf rows ws _ ?_ (fun x hx => hw x (List.mem_cons_of_mem _ hx))
    have h2 : rowC c s ∈ c := by
      unfold rowC
      rw [List.getD_eq_getElem?_getD, List.getElem?_eq_getElem h]
      exact List.getElem_mem h
    have hl : w < (rowC c s).length := by rw [rows _ h2]; exact hw w List.mem_cons_self
    rw [List.getD_eq_getElem?_getD, List.getElem?_eq_getElem hl]
    exact rowC_lt wf (List.getElem_mem hl)
/-- the pairs of a clash that no shorter clash precedes -/
theorem clash_none {bl : Nat → List Str} {us : Nat → Str → List Nat} {sz : Nat} (B : Bfs c ks par wd dp) (G : GrpsM c bl us) (wf : WfC c) (rows : ∀ r ∈ c, r.length = sz) (A : Nat) (hA : A ≤ ks.length) (sw : ∀ i, i < A → Swept c bl us ks dp i) (n : Nat) (hn : ∀ i, i < ks.length → A ≤ i → n ≤ dp i) :
    ∀ ws os, Clash c sz ws os → n < ws.length := by
  -- the least clash
  have least : ∀ (m : Nat) (ws os : List Nat), ws.length = m → Clash c sz ws os → n < ws.length := by
    intro m
    induction m using Nat.strongRecOn with
    | ind m ih =>
      intro ws os hm C
      refine Classical.byContradiction fun hle => ?_
      have hle : ws.length ≤ n := Nat.le_of_not_lt hle
      have lw : ws.length = os.length := by
        have := congrArg (fun x => x.1.length) C.way
        have this : (wayF c ws 0).1.length = (wayF c os 0).1.length := this
        rw [wayF_len, wayF_len] at this
        exact this
      have shorter : ∀ ws' os', ws'.length < ws.length → ¬ Clash c sz ws' os' := fun ws' os' h C' => by
        have := ih ws'.length (by omega) ws' os' rfl C'
        omega
      have blocks : ∀ j, j ≤ ws.length → (wayF c (ws.take j) 0).1 = (wayF c (os.take j) 0).1 := fun j hj => by
        have h1 := way_split (c := c) j ws 0
        have h2 := way_split (c := c) j os 0
        have e := C.way
        rw [h1, h2] at e
        have e1 := (Prod.mk.inj e).1
        refine (List.append_inj e1 ?_).1
        rw [wayF_len, wayF_len, List.length_take, List.length_take, lw]
      have t1 : ∀ j, ∀ x ∈ ws.take j, x < sz := fun j x hx => C.w1 x (List.mem_of_mem_take hx)
      have t2 : ∀ j, ∀ x ∈ os.take j, x < sz := fun j x hx => C.w2 x (List.mem_of_mem_take hx)
      have st1 : ∀ j, (wayF c (ws.take j) 0).2 < c.length := fun j => way_state wf rows _ 0 wf.1 (t1 j)
      have st2 : ∀ j, (wayF c (os.take j) 0).2 < c.length := fun j => way_state wf rows _ 0 wf.1 (t2 j)
      have same : ∀ j, j < ws.length → (wayF c (ws.take j) 0).2 = (wayF c (os.take j) 0).2 → ws.take j = os.take j := fun j hj e => by
        refine Classical.byContradiction fun z => shorter (ws.take j) (os.take j) (by rw [List.length_take]; omega) ⟨z, t1 j, t2 j, Prod.ext (blocks j (by omega)) e⟩
      -- one step of both
      have step : ∀ j, j < ws.length → ∃ (x y : Nat) (b : Str), ws[j]? = some x ∧ os[j]? = some y ∧ Lk c (wayF c (ws.take j) 0).2 x b (wayF c (ws.take (j + 1)) 0).2 ∧ Lk c (wayF c (os.take j) 0).2 y b (wayF c (os.take (j + 1)) 0).2 := fun j hj => by
        have hj2 : j < os.length := by omega
        have ex : ws[j]? = some ws[j] := List.getElem?_eq_getElem hj
        have ey : os[j]? = some os[j] := List.getElem?_eq_getElem hj2
        have hx := C.w1 _ (List.getElem_mem hj)
        have hy := C.w2 _ (List.getElem_mem hj2)
        have row : ∀ {a z : Nat}, a < c.length → z < sz → (rowC c a)[z]? = some ((rowC c a).getD z ("", 0)) := fun {a z} ha hz => by
          have h2 : rowC c a ∈ c := by
            unfold rowC
            rw [List.getD_eq_getElem?_getD, List.getElem?_eq_getElem ha]
            exact List.getElem_mem ha
          have hl : z < (rowC c a).length := by rw [rows _ h2]; exact hz
          rw [List.getD_eq_getElem?_getD, List.getElem?_eq_getElem hl]
          rfl
        have b1 := blocks (j + 1) (by omega)
        have b0 := blocks j (by omega)
        have w1 := way_at (c := c) (s := 0) ex
        have w2 := way_at (c := c) (s := 0) ey
        rw [w1, w2] at b1 ⊢
        have b2 : (wayF c (ws.take j) 0).1 ++ [((rowC c (wayF c (ws.take j) 0).2).getD ws[j] ("", 0)).1] = (wayF c (os.take j) 0).1 ++ [((rowC c (wayF c (os.take j) 0).2).getD os[j] ("", 0)).1] := b1
        have b3 := (List.append_inj' b2 rfl).2
        have b4 : ((rowC c (wayF c (ws.take j) 0).2).getD ws[j] ("", 0)).1 = ((rowC c (wayF c (os.take j) 0).2).getD os[j] ("", 0)).1 := by simpa using b3
        have r1 := row (st1 j) hx
        have r2 := row (st2 j) hy
        refine ⟨ws[j], os[j], ((rowC c (wayF c (ws.take j) 0).2).getD ws[j] ("", 0)).1, ex, ey, r1, ?_⟩
        show (rowC c (wayF c (os.take j) 0).2)[os[j]]? = some (((rowC c (wayF c (ws.take j) 0).2).getD ws[j] ("", 0)).1, _)
        rw [b4]
        exact r2
      have lpos : 0 < ws.length := by
        refine Nat.pos_of_ne_zero fun z => C.ne ?_
        have e1 := List.length_eq_zero_iff.mp z
        have e2 := List.length_eq_zero_iff.mp (lw.symm.trans z)
        rw [e1, e2]
      -- the pairs ahead of the last step were met
      have met : ∀ j, j < ws.length → ∃ i, i < A ∧ ks[i]? = some ((wayF c (ws.take j) 0).2, (wayF c (os.take j) 0).2) ∧ dp i ≤ j := by
        intro j
        have low : ∀ i, i < ks.length → dp i ≤ j → j < n → i < A := fun i hi hd hj => by
          refine Classical.byContradiction fun z => ?_
          have := hn i hi (by omega)
          omega
        induction j with
        | zero =>
          intro _
          have h0 : 0 < ks.length := (List.getElem?_eq_some_iff.mp B.k0).1
          exact ⟨0, low 0 h0 (by rw [B.d0]; exact Nat.le_refl _) (by omega), B.k0, by rw [B.d0]; exact Nat.le_refl _⟩
        | succ j ih2 =>
          intro hj
          obtain ⟨i, hi, hk, hd⟩ := ih2 (fun i hi hd hj' => by
            refine Classical.byContradiction fun z => ?_
            have := hn i hi (by omega)
            omega) (by omega)
          obtain ⟨x, y, b, ex, ey, l1, l2⟩ := step j (by omega)
          obtain ⟨o, ho, e1, _⟩ := outs_full G (st1 j) (st2 j) l1 l2
          obtain ⟨_, i2, hk2, hd2⟩ := sw i hi _ hk o ho
          rw [e1] at hk2
          exact ⟨i2, low i2 (List.getElem?_eq_some_iff.mp hk2).1 (by omega) (by omega), hk2, by omega⟩
      obtain ⟨i, hi, hk, hd⟩ := met (ws.length - 1) (by omega)
      obtain ⟨x, y, b, ex, ey, l1, l2⟩ := step (ws.length - 1) (by omega)
      have ew : ws.length - 1 + 1 = ws.length := by omega
      rw [ew] at l1 l2
      have f1 : ws.take ws.length = ws := List.take_length
      have f2 : os.take ws.length = os := by rw [lw]; exact List.take_length
      rw [f1] at l1
      rw [f2] at l2
      obtain ⟨o, ho, e1, e2⟩ := outs_full G (st1 _) (st2 _) l1 l2
      obtain ⟨h1, _⟩ := sw i hi _ hk o ho
      have eo : o.1.1 = o.1.2 := by rw [e1]; exact congrArg (·.2) C.way
      obtain ⟨h2, h3⟩ := h1 eo
      have h2 : (wayF c (ws.take (ws.length - 1)) 0).2 = (wayF c (os.take (ws.length - 1)) 0).2 := h2
      have es := same _ (by omega) h2
      refine e2 h2 (congrArg (·.2) C.way) (fun z => C.ne ?_) h3
      have g1 : ws.take (ws.length - 1 + 1) = ws.take (ws.length - 1) ++ [x] := by rw [List.take_add_one, ex]; rfl
      have g2 : os.take (ws.length - 1 + 1) = os.take (ws.length - 1) ++ [y] := by rw [List.take_add_one, ey]; rfl
      rw [ew, f1] at g1
      rw [ew, f2] at g2
      refine g1.trans (Eq.trans ?_ g2.symm)
      rw [es, z]
  exact fun ws os C => least _ ws os rfl C
end
end K82
end

section
set_option maxHeartbeats 4000000
/-! checks of a coder; pairs that are met -/
namespace K82
open PySem PySem.Spec PyProof.Rows L2
section
variable {X : Cx} {k : Nat} {f C : Addr} {fd : FuncData} {ps : List Str} {sp : Sp}
/-- len(x), x an instance with a length of its own -/
def rOwnI (C : Addr) (sp : Sp) : List V → Hp → VK → Prop := fun xs H Q => ∃ a dx fs, xs = [.ref a] ∧ H a = some (.ins C dx fs) ∧ sp [.ref a] H (fun v H' => ∃ n : Int, v = .int n ∧ (0 ≤ n ∧ n < 2 ^ 63) ∧ Q (.int n) H') E0
theorem call_lenO (F : FnOk X.prog X.w X.K X.mg X.base CX0 k f fd ps sp) (hr : Room (k + 1) X.A) (hb : Binds X.K fd ps []) (hs : PySem.W.findIn X.K (.ref C) "__len__" = some (some (.ref f))) (hf : PySem.W.isFn X.K (.ref f) = true) : CallR X (.builtin "len") (rOwnI C sp) := by
  intro pins s σ H xs us Q I r h
  obtain ⟨a, dx, fs, rfl, ha, q⟩ := h
  obtain ⟨u, rfl, ru⟩ := vals1 r
  obtain rfl : u = Value.ref a := ru
  obtain ⟨od, J⟩ := ins_inst I ha
  obtain ⟨m, hF⟩ := I.fr
  refine PySem.W.len_K hF I.ok.mod.kin J hs hf (wpAny_mono (run_at F hr.in1 rfl hb pass0 I (.cons (show RelV (.ref a) (.ref a) from rfl) .nil) q) (fun r s' z => ?_) fun _ _ z => z)
  obtain ⟨v', H', I', rv, n, rfl, hn, q'⟩ := z
  obtain ⟨t, rfl⟩ := rv
  exact ⟨hn, ⟨.int n, H', I'.tok _, ⟨_, rfl⟩, q'⟩⟩
end
structure CoderW (K : PySem.W.Frag) (mg : Str → Option Value) (ad : Str → Addr) (fd : Str → FuncData) : Prop where
  m_follow : Meth K (ad "Coder") "follow" (ad "Coder.follow")
  ln : PySem.W.findIn K (.ref (ad "Coder")) "__len__" = some (some (.ref (ad "Coder.__len__")))
  lnf : PySem.W.isFn K (.ref (ad "Coder.__len__")) = true
def spCheckStates (C R : Addr) : Sp := fun vs H Q _ => ∃ (a : Addr) (p q : Int) (c : Ch) (lead : Str), vs = [.ref a] ∧ CodO C R H a p q c lead ∧ c.length ≤ 64 ∧ Q .non H
section
variable {P : Program} {w : World} {K : PySem.W.Frag} {mg : Str → Option Value} {base : Heap} {ad : Str → Addr} {fd : Str → FuncData}
theorem scCheckStates : FnScope ["coder"] ["coder"] (defScope sCheckStates) := ⟨rfl, rfl, rfl, by decide +kernel, rfl, by decide +kernel, by decide +kernel⟩
theorem ok_check_states (X : Tx K mg ad fd) (CC : CoderC K mg ad fd) (CM : CoderM K mg ad fd) (CH : CoderW K mg ad fd) : FnOk P w K mg base CX0 3 (ad "check_states") (fd "check_states") ["coder"] (spCheckStates (ad "Coder") (ad "Rate")) := by
  have G_len := ok_clen (P := P) (w := w) (base := base) X CC CM
  refine X.F_check_states.ok scCheckStates (fun vs H Q E h => ?_) (fun cdv A outer s H vs Q E hr h => ?_)
  · obtain ⟨a, p, q, c, lead, rfl, _⟩ := h
    rfl
  · obtain ⟨a, p, q, c, lead, rfl, cod, cl, k⟩ := h
    obtain ⟨_, hMF⟩ := X.g_MOST_FOLLOWED
    have HR_len : Room 2 _ := hr
    refine ⟨_, (pss_one (ps_if (pt_cmpR op_gt (pe_callB (call_lenO G_len HR_len CM.b_len CH.ln CH.lnf) (by rfl) X.m_len (by decide +kernel) (pa_cons (pv 0) pa_nil)) (pe_glob (v := .int 64) (by rfl) hMF ⟨_, rfl⟩) (nomark _))
  (pss_one ps_never)
  pss_nil)), ?_⟩
    obtain ⟨dx, r, l, e, _⟩ := id cod
    refine ⟨.ref a, rfl, a, dx, _, rfl, e, a, p, q, c, lead, rfl, cod, _, rfl, ⟨by omega, by omega⟩, _, _, rfl, rfl, _, rfl, ite2 (fun z => ?_) fun _ => k⟩
    have := of_decide_eq_true z
    omega
end
/-! ### the order -/
theorem ref_inj {a b : List Addr} (h : a.map V.ref = b.map V.ref) : a = b := by
  induction a generalizing b with
  | nil => cases b with
    | nil => rfl
    | cons y b => cases h
  | cons x a ih => cases b with
    | nil => cases h
    | cons y b =>
      rw [List.map_cons, List.map_cons] at h
      obtain ⟨h1, h2⟩ := List.cons.inj h
      rw [V.ref.inj h1, ih h2]
theorem at_snoc {α β : Type} {as : List α} {bs : List β} (l : as.length = bs.length) {a : α} {b : β} {j : Nat} {x : α} (h : (as ++ [a])[j]? = some x) : (as[j]? = some x ∧ ∀ y, bs[j]? = some y → (bs ++ [b])[j]? = some y) ∨ (x = a ∧ (bs ++ [b])[j]? = some b) := by
  by_cases q : j < as.length
  · rw [List.getElem?_append_left q] at h
    exact .inl ⟨h, fun y hy => by rw [List.getElem?_append_left (by omega)]; exact hy⟩
  · rw [List.getElem?_append_right (by omega)] at h
    have z : j - as.length = 0 := by
      by_cases q : j - as.length = 0
      · exact q
      · rw [List.getElem?_eq_none (by simp; omega)] at h
        cases h
    rw [z] at h
    cases h
    have : j = bs.length := by omega
    subst this
    exact .inr ⟨rfl, by simp⟩
def OrdAt (H : Hp) (O : Addr) (ks : List (Nat × Nat)) : Prop := ∃ ps : List Addr, H O = some (.lst (ps.map V.ref)) ∧ ps.length = ks.length ∧ ∀ (i : Nat) (p : Addr), ps[i]? = some p → ∃ k, ks[i]? = some k ∧ H p = some (.tup (ppV k))
theorem OrdAt.same {H H' : Hp} {O : Addr} {ks : List (Nat × Nat)} (h : OrdAt H O ks) (s : Same H H') : OrdAt H' O ks := by
  obtain ⟨ps, e, l, k⟩ := h
  exact ⟨ps, s _ _ e, l, fun i p hp => let ⟨k', h1, h2⟩ := k i p hp; ⟨k', h1, s _ _ h2⟩⟩
theorem MetAt.same {H H' : Hp} {M : Addr} {ks : List (Nat × Nat)} {par : Nat → Nat} {wd : Nat → Nat × Nat} {sz : Nat} (h : MetAt H M ks par wd sz) (s : Same H H') : MetAt H' M ks par wd sz := by
  obtain ⟨nd, vs, e, l, v0, k⟩ := h
  refine ⟨nd, vs, s _ _ e, l, v0, fun j k' h1 h2 => ?_⟩
  obtain ⟨t, p, w, k2, a1, a2, a3, a4, a5, a6, a7⟩ := k j k' h1 h2
  exact ⟨t, p, w, k2, a1, s _ _ a2, a3, a4, s _ _ a5, s _ _ a6, a7⟩
/-- the dict at M is written: tuples stay -/
theorem OrdAt.putM {H : Hp} {O M : Addr} {ks : List (Nat × Nat)} {kvs : List (List Key × V)} {o : HO} (h : OrdAt H O ks) (eM : H M = some (.dT kvs)) : OrdAt (upd H M o) O ks := by
  obtain ⟨ps, e, l, k⟩ := h
  exact ⟨ps, by rw [upd_ne (fun z => by rw [z, eM] at e; cases e)]; exact e, l, fun i p hp => let ⟨k', h1, h2⟩ := k i p hp; ⟨k', h1, by rw [upd_ne (fun z => by rw [z, eM] at h2; cases h2)]; exact h2⟩⟩
theorem OrdAt.snoc {H : Hp} {O : Addr} {ks : List (Nat × Nat)} (h : OrdAt H O ks) {p : Addr} {k : Nat × Nat} (ep : H p = some (.tup (ppV k))) {ps : List Addr} (eO : H O = some (.lst (ps.map V.ref))) : OrdAt (upd H O (.lst (ps.map V.ref ++ [V.ref p]))) O (ks ++ [k]) := by
  obtain ⟨ps', e, l, kk'⟩ := h
  have : ps = ps' := ref_inj (HO.lst.inj (Option.some.inj (eO.symm.trans e)))
  subst this
  have tp : ∀ {a : Addr} {xs : List V}, H a = some (.tup xs) → (upd H O (.lst (ps.map V.ref ++ [V.ref p]))) a = some (.tup xs) := fun {a xs} ea => by
    rw [upd_ne (fun z => by rw [z, e] at ea; cases ea)]; exact ea
  refine ⟨ps ++ [p], by rw [upd_same, List.map_append]; rfl, by rw [List.length_append, List.length_append, l]; rfl, fun i q hq => ?_⟩
  rcases at_snoc (b := k) l hq with ⟨h1, h2⟩ | ⟨rfl, h2⟩
  · obtain ⟨k', h3, h4⟩ := kk' i q h1
    exact ⟨k', h2 _ h3, tp h4⟩
  · exact ⟨k, h2, tp ep⟩
def setN {α : Type} (f : Nat → α) (n : Nat) (v : α) : Nat → α := fun i => if i = n then v else f i
theorem setN_same {α : Type} {f : Nat → α} {n : Nat} {v : α} : setN f n v n = v := if_pos rfl
theorem setN_ne {α : Type} {f : Nat → α} {n i : Nat} {v : α} (h : i ≠ n) : setN f n v i = f i := if_neg h
theorem zip_snoc : ∀ {ks : List (Nat × Nat)} {vs : List V} (k : Nat × Nat) (v : V), vs.length = ks.length → (ks ++ [k]).zipWith (fun k v => (kk k, v)) (vs ++ [v]) = ks.zipWith (fun k v => (kk k, v)) vs ++ [(kk k, v)]
  | [], [], _, _, _ => rfl
  | [], _ :: _, _, _, h => by cases h
  | _ :: _, [], _, _, h => by cases h
  | a :: ks, b :: vs, k, v, h => by
    rw [List.cons_append, List.cons_append, List.zipWith_cons_cons, zip_snoc k v (by simpa using h), List.zipWith_cons_cons]; rfl
theorem MetAt.put {H : Hp} {M : Addr} {ks : List (Nat × Nat)} {par : Nat → Nat} {wd : Nat → Nat × Nat} {sz : Nat} (h : MetAt H M ks par wd sz) {k k' x : Nat × Nat} {A : Nat} {kvs : List (List Key × V)} {t p w : Addr} (eM : H M = some (.dT kvs)) (nk : k ∉ ks) (h0 : 0 < ks.length)
    (et : H t = some (.tup [.ref p, .ref w])) (hA : ks[A]? = some k') (ep : H p = some (.tup (ppV k'))) (ew : H w = some (.tup (ppV x))) (x1 : x.1 < sz) (x2 : x.2 < sz) :
    MetAt (upd H M (.dT (putK kvs (kk k) (.ref t)))) M (ks ++ [k]) (setN par ks.length A) (setN wd ks.length x) sz := by
  obtain ⟨nd, vs, e, l, v0, kj⟩ := h
  rw [eM] at e
  have ek : kvs = ks.zipWith (fun k v => (kk k, v)) vs := HO.dT.inj (Option.some.inj e)
  have vn := met_off (ks := ks) (vs := vs) l nk
  rw [← ek] at vn
  have pk : putK kvs (kk k) (.ref t) = kvs ++ [(kk k, .ref t)] := by
    unfold putK
    rw [valV_any, vn]
    rfl
  have tp : ∀ {a : Addr} {xs : List V}, H a = some (.tup xs) → (upd H M (.dT (putK kvs (kk k) (.ref t)))) a = some (.tup xs) := fun {a xs} ea => by
    rw [upd_ne (fun z => by rw [z, eM] at ea; cases ea)]; exact ea
  refine ⟨?_, vs ++ [.ref t], by rw [upd_same, pk, ek, zip_snoc k (.ref t) l], by rw [List.length_append, List.length_append, l]; rfl, by rw [List.getElem?_append_left (by omega)]; exact v0, fun j k2 hj hk2 => ?_⟩
  · rw [List.nodup_append]
    exact ⟨nd, by simp, fun a ha b hb => by
      have eb : b = k := by simpa using hb
      intro z
      rw [z, eb] at ha
      exact nk ha⟩
  · by_cases z : j < ks.length
    · rw [List.getElem?_append_left z] at hk2
      obtain ⟨t', p', w', k3, a1, a2, a3, a4, a5, a6, a7⟩ := kj j k2 hj hk2
      rw [setN_ne (by omega), setN_ne (by omega)]
      refine ⟨t', p', w', k3, by rw [List.getElem?_append_left (by omega)]; exact a1, tp a2, a3, by rw [List.getElem?_append_left (by omega)]; exact a4, tp a5, tp a6, a7⟩
    · have hj2 : j = ks.length := by
        have := (List.getElem?_eq_some_iff.mp hk2).1
        rw [List.length_append, List.length_singleton] at this
        omega
      subst hj2
      rw [setN_same, setN_same]
      have la := (List.getElem?_eq_some_iff.mp hA).1
      exact ⟨t, p, w, k', by rw [List.getElem?_append_right (by omega), l]; simp, tp et, la, by rw [List.getElem?_append_left la]; exact hA, tp ep, tp ew, x1, x2⟩
theorem MetAt.putO {H : Hp} {M O : Addr} {ks : List (Nat × Nat)} {par : Nat → Nat} {wd : Nat → Nat × Nat} {sz : Nat} {xs ys : List V} (h : MetAt H M ks par wd sz) (eO : H O = some (.lst xs)) : MetAt (upd H O (.lst ys)) M ks par wd sz := by
  obtain ⟨nd, vs, e, l, v0, k⟩ := h
  have tp : ∀ {a : Addr} {xs : List V}, H a = some (.tup xs) → (upd H O (.lst ys)) a = some (.tup xs) := fun {a xs} ea => by
    rw [upd_ne (fun z => by rw [z, eO] at ea; cases ea)]; exact ea
  refine ⟨nd, vs, by rw [upd_ne (fun z => by rw [z, eO] at e; cases e)]; exact e, l, v0, fun j k' h1 h2 => ?_⟩
  obtain ⟨t, p, w, k2, a1, a2, a3, a4, a5, a6, a7⟩ := k j k' h1 h2
  exact ⟨t, p, w, k2, a1, tp a2, a3, a4, tp a5, tp a6, a7⟩
section
variable {c : Ch} {ks : List (Nat × Nat)} {par : Nat → Nat} {wd : Nat → Nat × Nat} {dp : Nat → Nat}
theorem Bfs.put (B : Bfs c ks par wd dp) {bl : Nat → List Str} {us : Nat → Str → List Nat} (G : GrpsM c bl us) (wf : WfC c) {A : Nat} {k : Nat × Nat} (hA : ks[A]? = some k) {o : Step} (ho : o ∈ outsT c bl us k.1 k.2) (hs : o.1.1 = o.1.2 → k.1 = k.2 ∧ o.2.1 = o.2.2) (hd : ∀ j, j < ks.length → dp j ≤ dp A + 1) :
    Bfs c (ks ++ [o.1]) (setN par ks.length A) (setN wd ks.length o.2) (setN dp ks.length (dp A + 1)) := by
  have la := (List.getElem?_eq_some_iff.mp hA).1
  have h0 : 0 < ks.length := by omega
  have hk := B.lt k (List.mem_of_getElem? hA)
  obtain ⟨b, l1, l2⟩ := outs_sound G hk.1 hk.2 ho
  refine ⟨by rw [List.getElem?_append_left h0]; exact B.k0, by rw [setN_ne (by omega)]; exact B.d0, fun x hx => ?_, fun j k2 hj hk2 => ?_, fun i j hij hj => ?_⟩
  · rcases List.mem_append.mp hx with y | y
    · exact B.lt x y
    · rw [List.mem_singleton.mp y]
      exact ⟨rowC_lt wf (List.mem_of_getElem? l1), rowC_lt wf (List.mem_of_getElem? l2)⟩
  · by_cases z : j < ks.length
    · rw [List.getElem?_append_left z] at hk2
      obtain ⟨h1, h2, k', b', h3, h4⟩ := B.st j k2 hj hk2
      rw [setN_ne (by omega), setN_ne (by omega), setN_ne (by omega), setN_ne (by omega)]
      exact ⟨h1, h2, k', b', by rw [List.getElem?_append_left (by omega)]; exact h3, h4⟩
    · have hj2 : j = ks.length := by
        have := (List.getElem?_eq_some_iff.mp hk2).1
        rw [List.length_append, List.length_singleton] at this
        omega
      subst hj2
      rw [List.getElem?_append_right (Nat.le_refl _)] at hk2
      have ek : o.1 = k2 := by simpa using hk2
      subst ek
      rw [setN_same, setN_same, setN_same, setN_ne (by omega)]
      exact ⟨la, rfl, k, b, by rw [List.getElem?_append_left la]; exact hA, l1, l2, hs⟩
  · rw [List.length_append, List.length_singleton] at hj
    by_cases z : j < ks.length
    · rw [setN_ne (by omega), setN_ne (by omega)]
      exact B.mono i j hij z
    · have : j = ks.length := by omega
      subst this
      rw [setN_same]
      by_cases y : i = ks.length
      · rw [y, setN_same]; exact Nat.le_refl _
      · rw [setN_ne y]
        exact hd i (by omega)
theorem SweptO.put {d : Nat} {k x : Nat × Nat} {o : Step} {e : Nat} (h : SweptO ks dp d k o) : SweptO (ks ++ [x]) (setN dp ks.length e) d k o := by
  obtain ⟨h1, j, h2, h3⟩ := h
  have lj := (List.getElem?_eq_some_iff.mp h2).1
  exact ⟨h1, j, by rw [List.getElem?_append_left lj]; exact h2, by rw [setN_ne (by omega)]; exact h3⟩
theorem Swept.put {bl : Nat → List Str} {us : Nat → Str → List Nat} {i : Nat} {x : Nat × Nat} {e : Nat} (h : Swept c bl us ks dp i) (hi : i < ks.length) : Swept c bl us (ks ++ [x]) (setN dp ks.length e) i := fun k hk o ho => by
  rw [List.getElem?_append_left hi] at hk
  have := (h k hk o ho).put (x := x) (e := e)
  rw [setN_ne (by omega)]
  exact this
end
end K82
end

section
set_option maxHeartbeats 4000000
/-! clash -/
namespace K82
open PySem PySem.Spec PyProof.Rows L2 GF
def spClash (C R : Addr) : Sp := fun vs H Q _ => ∃ (a : Addr) (p q : Int) (c : Ch) (lead : Str) (sz : Nat), vs = [.ref a] ∧ CodO C R H a p q c lead ∧ WfC c ∧ c.length ≤ 64 ∧ 1 ≤ sz ∧ sz ≤ 64 ∧ (∀ r ∈ c, r.length = sz) ∧
  ((∀ ws os, ¬ Clash c sz ws os) → ∀ H', Same H H' → Q .non H') ∧
  ∀ (ws os : List Nat) (t l1 l2 : Addr) (H' : Hp), Clash c sz ws os → (∀ ws' os', Clash c sz ws' os' → ws.length ≤ ws'.length) → ws.length ≤ 64 * c.length → Same H H' → H l1 = none → H l2 = none → H' t = some (.tup [.ref l1, .ref l2]) → H' l1 = some (.lst (intsV ws)) → H' l2 = some (.lst (intsV os)) → Q (.ref t) H'
theorem Bfs.dp_le {c : Ch} {ks : List (Nat × Nat)} {par : Nat → Nat} {wd : Nat → Nat × Nat} {dp : Nat → Nat} (B : Bfs c ks par wd dp) : ∀ j, j < ks.length → dp j ≤ j := by
  intro j
  induction j using Nat.strongRecOn with
  | ind j ih =>
    intro hj
    by_cases z : j = 0
    · subst z; rw [B.d0]; exact Nat.le_refl _
    · obtain ⟨h1, h2, _⟩ := B.st j _ (by omega) (List.getElem?_eq_getElem hj)
      have := ih (par j) h1 (by omega)
      omega
theorem dec_nat {a b : Nat} : decide (V.int (a : Int) = V.int (b : Int)) = decide (a = b) := by
  rw [Bool.eq_iff_iff, decide_eq_true_iff, decide_eq_true_iff]
  constructor
  · intro h
    exact Int.ofNat.inj (V.int.inj h)
  · intro h; rw [h]
theorem ifT {b : Bool} {A B : Prop} (h : b = true) (x : A) : if b = true then A else B := by rw [if_pos h]; exact x
theorem ifF {b : Bool} {A B : Prop} (h : b = false) (x : B) : if b = true then A else B := by rw [if_neg (by rw [h]; exact Bool.false_ne_true)]; exact x
theorem tif_of {c : TT} {t u : TS} {D : Ends} {σ : L2.St} {H : Hp} (b : Bool) (hc : ∀ Q : Bool → Hp → Prop, Q b H → c σ H Q) (h : if b = true then t D σ H else u D σ H) : tIfS c t u D σ H := hc _ h
theorem pairs_len {ks : List (Nat × Nat)} {n : Nat} (nd : ks.Nodup) (h : ∀ k ∈ ks, k.1 < n ∧ k.2 < n) (hn : n ≤ 64) : ks.length ≤ 64 * n := by
  have e : ks.length = (ks.map fun k => k.1 * 64 + k.2).length := by rw [List.length_map]
  rw [e]
  refine nodup_len ?_ fun x hx => ?_
  · refine List.pairwise_map.mpr (List.Pairwise.imp_of_mem (fun {a b} ha hb hne e => hne ?_) nd)
    have h1 := h a ha
    have h2 := h b hb
    exact Prod.ext (by omega) (by omega)
  · obtain ⟨k, hk, rfl⟩ := List.mem_map.mp hx
    have := h k hk
    omega
section
variable {P : Program} {w : World} {K : PySem.W.Frag} {mg : Str → Option Value} {base : Heap} {ad : Str → Addr} {fd : Str → FuncData}
theorem scClash : FnScope ["coder", "groups", "order", "met", "at", "pair", "further", "words"] ["coder"] (defScope sClash) := ⟨rfl, rfl, rfl, by decide +kernel, rfl, by decide +kernel, by decide +kernel⟩
theorem ok_clash (X : Tx K mg ad fd) (RC : RateC K mg ad fd) (CC : CoderC K mg ad fd) (CM : CoderM K mg ad fd) (CP : CoderP K mg ad fd) (CE : CoderE K mg ad fd) (CH : CoderW K mg ad fd) : FnOk P w K mg base CX0 5 (ad "clash") (fd "clash") ["coder"] (spClash (ad "Coder") (ad "Rate")) := by
  have G_check_coder := ok_check_coder (P := P) (w := w) (base := base) X RC CC CE
  have G_check_states := ok_check_states (P := P) (w := w) (base := base) X CC CM CH
  have G_groups_of := ok_groups_of (P := P) (w := w) (base := base) X CC CM CP
  have G_twin_steps := ok_twin_steps (P := P) (w := w) (base := base) X
  have G_texts_to := ok_texts_to (P := P) (w := w) (base := base) X
  refine X.F_clash.ok scClash (fun vs H Q E h => ?_) (fun cdv A outer s H vs Q E hr h => ?_)
  · obtain ⟨a, p, q, c, lead, sz, rfl, _⟩ := h
    rfl
  · obtain ⟨a, p, q, c, lead, sz, rfl, cod, wf, cl, szl, szu, rows, kn, ks⟩ := h
    have HR_check_coder : Room 1 _ := hr.mono (by decide)
    have HR_check_states : Room 3 _ := hr.mono (by decide)
    have HR_groups_of : Room 2 _ := hr.mono (by decide)
    have HR_twin_steps : Room 4 _ := hr
    have HR_texts_to : Room 1 _ := hr.mono (by decide)
    have hu1 : (A.deeper (envOfC "clash" (defScope sClash) s.heap.objs.size (ad "clash") cdv)).units + 1 < cLine := by have := hr.un; omega
    refine ⟨_, (pss_cons (ps_expr (by exact (pe_call G_check_coder HR_check_coder (by rfl) X.g_check_coder X.F_check_coder.kp X.b_check_coder .nil pass0 (pa_cons (pv 0) pa_nil))))
  (pss_cons (ps_expr (by exact (pe_call G_check_states HR_check_states (by rfl) X.g_check_states X.F_check_states.kp X.b_check_states .nil pass0 (pa_cons (pv 0) pa_nil))))
  (pss_cons (ps_set (i := 1) scClash.nd rfl (.inl rfl) (by exact (pe_lock (pe_call G_groups_of HR_groups_of (by rfl) X.g_groups_of X.F_groups_of.kp X.b_groups_of .nil pass0 (pa_cons (pv 0) pa_nil)))))
  (pss_cons (ps_set (i := 2) scClash.nd rfl (.inl rfl) (by exact (pe_lst (pa_cons (pe_tup (pa_cons pe_int (pa_cons pe_int pa_nil))) pa_nil))))
  (pss_cons (ps_set (i := 3) scClash.nd rfl (.inl rfl) (by exact (pe_disp1T hu1 (pe_tup (pa_cons pe_int (pa_cons pe_int pa_nil))) pe_non)))
  (pss_cons (ps_set (i := 4) scClash.nd rfl (.inl rfl) (by exact pe_int))
  (pss_cons (ps_while PassesOwn.never (pt_cmpR op_lt (pv 4) (pe_callB call_len (by rfl) X.m_len (by decide +kernel) (pa_cons (pv 2) pa_nil)) (nomark _))
  (pss_cons (ps_set (i := 5) scClash.nd rfl (.inl rfl) (by exact (pe_ix ix_list (pv 2) (pv 4) (fun _ _ => rfl))))
  (pss_cons (ps_aug (i := 4) scClash.nd rfl (.inl rfl) pe_int ip_add)
  (pss_one (ps_forG G_twin_steps HR_twin_steps (by rfl) X.g_twin_steps X.F_twin_steps.kp X.b_twin_steps (pa_cons (pv 1) (pa_cons (pv 5) pa_nil)) (fun _ _ _ h _ _ => h) PassesOwn.never rfl (pg_tup rfl (pgs_cons (pg_name (i := 6) scClash.nd rfl (.inl rfl)) (pgs_cons (pg_name (i := 7) scClash.nd rfl (.inl rfl)) pgs_nil)))
  (pss_cons (ps_if (PW.pt (pw_and (pt_cmpR op_eq (pe_ix ix_tup (pv 6) pe_int (fun _ _ => rfl)) (pe_ix ix_tup (pv 6) pe_int (fun _ _ => rfl)) (nomark _)) (pw_and1 (PW.pt (pw_or (pt_cmpR op_ne (pe_ix ix_tup (pv 5) pe_int (fun _ _ => rfl)) (pe_ix ix_tup (pv 5) pe_int (fun _ _ => rfl)) (nomark _)) (pw_or1 (pt_cmpR op_ne (pe_ix ix_tup (pv 7) pe_int (fun _ _ => rfl)) (pe_ix ix_tup (pv 7) pe_int (fun _ _ => rfl)) (nomark _))))))))
  (pss_one (ps_ret (by exact (pe_call G_texts_to HR_texts_to (by rfl) X.g_texts_to X.F_texts_to.kp X.b_texts_to .nil pass0 (pa_cons (pv 3) (pa_cons (pv 5) (pa_cons (pv 7) pa_nil)))))))
  pss_nil)
  (pss_one (ps_if (pt_cmp (pc_dnotin hu1 (pv 6) (pv 3)))
  (pss_cons (ps_asg (by exact (pe_tup (pa_cons (pv 5) (pa_cons (pv 7) pa_nil)))) (pg_sub (pv 3) (pv 6) (set_dict hu1)))
  (pss_one (ps_expr (by exact (pe_bm PySem.F.plainAttrs_list PySem.F.slot_list_append PySem.F.type_list_append mt_append (pv 2) (pa_cons (pv 6) pa_nil))))))
  pss_nil))))))))
  (pss_one (ps_ret (by exact pe_non)))))))))), ?_⟩
    refine ⟨.ref a, rfl, a, p, q, c, lead, rfl, cod, .ref a, rfl, a, p, q, c, lead, rfl, cod, cl, .ref a, rfl, a, p, q, c, lead, rfl, cod, by omega, fun r hr => ⟨by rw [rows r hr]; omega, by rw [rows r hr]; omega⟩, fun G H1 s1 nG gG => ⟨fun b => H b = none, fun Gv L => ?_⟩⟩
    obtain ⟨bl, us, gf⟩ := gG.read.locked s1 L
    have sG := L.same s1
    have GM := gf.math
    refine ⟨sz2, fun t0 n0 => ⟨sz1, fun O nO M nM => ⟨sz2, fun t1 n1 => ⟨_, _, rfl, ?_, t1, kk (0, 0), rfl, upd_same, ?_⟩⟩⟩⟩
    · rw [upd_ne (fun z => by rw [← z, upd_same] at n1; cases n1), upd_same]
    have nO' : Gv O = none := none_back (Same.new n0) nO
    have nM1 := none_back (Same.new nO) nM
    have nM' : Gv M = none := none_back (Same.new n0) nM1
    have nOM : O ≠ M := fun z => by rw [← z, upd_same] at nM; cases nM
    have sM1 : Same (upd (upd Gv t0 (.tup [.int 0, .int 0])) O (.lst [.ref t0])) (upd (upd (upd (upd Gv t0 (.tup [.int 0, .int 0])) O (.lst [.ref t0])) M (.dT [])) t1 (.tup [.int 0, .int 0])) := Same.trans (Same.new nM) (Same.new n1)
    have sF : Same (upd (upd Gv t0 (.tup [.int 0, .int 0])) O (.lst [.ref t0])) (upd (upd (upd (upd (upd Gv t0 (.tup [.int 0, .int 0])) O (.lst [.ref t0])) M (.dT [])) t1 (.tup [.int 0, .int 0])) M (.dT [(kk (0, 0), .non)])) := Same.at_ sM1 nM
    have sA : Same Gv (upd (upd (upd (upd (upd Gv t0 (.tup [.int 0, .int 0])) O (.lst [.ref t0])) M (.dT [])) t1 (.tup [.int 0, .int 0])) M (.dT [(kk (0, 0), .non)])) := Same.trans (Same.trans (Same.new n0) (Same.new nO)) sF
    have ord0 : OrdAt (upd (upd (upd (upd (upd Gv t0 (.tup [.int 0, .int 0])) O (.lst [.ref t0])) M (.dT [])) t1 (.tup [.int 0, .int 0])) M (.dT [(kk (0, 0), .non)])) O [(0, 0)] := by
      refine OrdAt.same ⟨[t0], upd_same, rfl, fun i p hp => ?_⟩ sF
      cases i with
      | zero =>
        cases hp
        exact ⟨(0, 0), rfl, Same.new nO _ _ upd_same⟩
      | succ i => simp at hp
    have met0 : MetAt (upd (upd (upd (upd (upd Gv t0 (.tup [.int 0, .int 0])) O (.lst [.ref t0])) M (.dT [])) t1 (.tup [.int 0, .int 0])) M (.dT [(kk (0, 0), .non)])) M [(0, 0)] (fun _ => 0) (fun _ => (0, 0)) sz := by
      refine ⟨by simp, [.non], upd_same, rfl, rfl, fun j k hj hk => ?_⟩
      cases j with
      | zero => omega
      | succ j => simp at hk
    generalize (upd (upd (upd (upd (upd Gv t0 (.tup [.int 0, .int 0])) O (.lst [.ref t0])) M (.dT [])) t1 (.tup [.int 0, .int 0])) M (.dT [(kk (0, 0), .non)])) = H2 at sA ord0 met0 ⊢
    have b0 : Bfs c [(0, 0)] (fun _ => 0) (fun _ => (0, 0)) (fun _ => 0) := by
      refine ⟨rfl, rfl, fun k hk => ?_, fun j k hj hk => ?_, fun _ _ _ _ => Nat.le_refl _⟩
      · rw [List.mem_singleton.mp hk]; exact ⟨wf.1, wf.1⟩
      · cases j with
        | zero => omega
        | succ j => simp at hk
    refine ⟨fun m σ H' => ∃ (ks : List (Nat × Nat)) (par : Nat → Nat) (wd : Nat → Nat × Nat) (dp : Nat → Nat) (A : Nat) (r5 r6 r7 : Option V), σ = [some (.ref a), some (.ref G), some (.ref O), some (.ref M), some (.int (A : Nat)), r5, r6, r7] ∧ m = 5000 - A ∧ Same Gv H' ∧ OrdAt H' O ks ∧ MetAt H' M ks par wd sz ∧ Bfs c ks par wd dp ∧ A ≤ ks.length ∧ (∀ i, i < A → Swept c bl us ks dp i) ∧ (∀ j, j < ks.length → A < ks.length → dp j ≤ dp A + 1),
      ⟨5000, _, _, _, _, 0, _, _, _, rfl, rfl, sA, ord0, met0, b0, Nat.zero_le _, fun i hi => absurd hi (Nat.not_lt_zero i), fun j _ _ => Nat.zero_le _⟩, ?_⟩
    rintro m σ H3 ⟨ks', par, wd, dp, A, r5, r6, r7, rfl, rfl, s3, ord, met, B, lA, sw, dd⟩
    have kl := pairs_len met.nd B.lt cl
    obtain ⟨ps, eO, lp, kp⟩ := id ord
    refine ⟨.int (A : Nat), rfl, .ref O, rfl, .ref O, _, rfl, .inl ⟨_, SqL.of eO, rfl⟩, _, _, rfl, rfl, _, rfl, ite2 (fun z => ?_) (fun z => ?_)⟩
    · have lA2 : A < ks'.length := by
        have := of_decide_eq_true z
        rw [List.length_map, lp] at this
        omega
      obtain ⟨k, hk⟩ : ∃ k, ks'[A]? = some k := ⟨ks'[A], List.getElem?_eq_getElem lA2⟩
      obtain ⟨p0, hp0⟩ : ∃ p0, ps[A]? = some p0 := ⟨ps[A]'(by omega), List.getElem?_eq_getElem (by omega)⟩
      obtain ⟨k', hk', ep⟩ := kp A p0 hp0
      rw [hk] at hk'
      cases hk'
      have lk := B.lt k (List.mem_of_getElem? hk)
      refine ⟨_, fun σ' H' h => ⟨5000 - (A + 1), by omega, h⟩, .ref O, rfl, .int (A : Nat), rfl, O, _, (A : Nat), .ref p0, rfl, rfl, SqL.of eO, atI_nat (by rw [List.getElem?_map, hp0]; rfl), ?_⟩
      refine ⟨.int (A : Nat), rfl, (A : Int), 1, rfl, rfl, .ref G, rfl, .ref p0, rfl, twinS Gv (outsT c bl us k.1 k.2), ⟨G, p0, Gv, c, bl, us, k.1, k.2, rfl, gf, s3, ep, lk.1, lk.2, rfl⟩,
        fun r σ H' => ∃ (ks : List (Nat × Nat)) (par : Nat → Nat) (wd : Nat → Nat × Nat) (dp : Nat → Nat) (r6 r7 : Option V), σ = [some (.ref a), some (.ref G), some (.ref O), some (.ref M), some (.int ((A : Int) + 1)), some (.ref p0), r6, r7] ∧ Same Gv H' ∧ OrdAt H' O ks ∧ MetAt H' M ks par wd sz ∧ Bfs c ks par wd dp ∧ A < ks.length ∧ ks[A]? = some k ∧ H' p0 = some (.tup (ppV k)) ∧
          (∀ i, i < A → Swept c bl us ks dp i) ∧ (∀ o ∈ (outsT c bl us k.1 k.2).take r, SweptO ks dp (dp A) k o) ∧ (∀ j, j < ks.length → dp j ≤ dp A + 1),
        ⟨ks', par, wd, dp, _, _, rfl, s3, ord, met, B, lA2, hk, ep, sw, (fun o ho => by rw [List.take_zero] at ho; cases ho), fun j hj => dd j hj lA2⟩, ?_⟩
      rintro r σ H4 ⟨ks2, par2, wd2, dp2, r6, r7, rfl, s4, ord4, met4, B4, lA4, hk4, ep4, sw4, so4, dd4⟩
      refine ⟨s4, fun er H5 _ sw5 => ?_, fun hr' x H5 ⟨o, ho, t, t1, t2, ex, et, et1, et2⟩ sw5 => ?_⟩
      · subst er
        refine ⟨ks2, par2, wd2, dp2, A + 1, _, _, _, rfl, rfl, Same.trans s4 sw5, ord4.same sw5, met4.same sw5, B4, lA4, fun i hi => ?_, fun j hj hA1 => ?_⟩
        · by_cases z : i < A
          · exact sw4 i z
          · have : i = A := by omega
            subst this
            intro k2 hk2 o ho
            rw [hk4] at hk2
            cases hk2
            exact so4 o (by rw [show (twinS Gv (outsT c bl us k.1 k.2)).n = (outsT c bl us k.1 k.2).length from rfl, List.take_length]; exact ho)
        · have := B4.mono A (A + 1) (by omega) hA1
          have := dd4 j hj
          omega
      · subst ex
        have s5 := Same.trans s4 sw5
        have ord5 := ord4.same sw5
        have met5 := met4.same sw5
        have ep5 := sw5 _ _ ep4
        refine ⟨t, _, rfl, SqT.of et, rfl, .ref t1, _, rfl, .ref t2, _, rfl, rfl, ?_⟩
        have mo : o ∈ outsT c bl us k.1 k.2 := List.mem_of_getElem? ho
        refine tif_of (decide (o.1.1 = o.1.2 ∧ (k.1 ≠ k.2 ∨ o.2.1 ≠ o.2.2))) (fun Q' hQ => ?_) ?_
        · refine ⟨.ref t1, rfl, t1, _, 0, _, rfl, rfl, SqT.of et1, atI_nat (j := 0) rfl, .ref t1, rfl, t1, _, 1, _, rfl, rfl, SqT.of et1, atI_nat (j := 1) rfl, rfl, _, rfl, ?_⟩
          by_cases e : o.1.1 = o.1.2
          · refine ifT (by rw [dec_nat]; exact decide_eq_true e) ?_
            refine ⟨.ref p0, rfl, p0, _, 0, _, rfl, rfl, SqT.of ep5, atI_nat (j := 0) rfl, .ref p0, rfl, p0, _, 1, _, rfl, rfl, SqT.of ep5, atI_nat (j := 1) rfl, rfl, _, rfl, ?_⟩
            by_cases d : k.1 = k.2
            · refine ifF (by rw [dec_nat, decide_eq_true d]; rfl) ?_
              refine ⟨.ref t2, rfl, t2, _, 0, _, rfl, rfl, SqT.of et2, atI_nat (j := 0) rfl, .ref t2, rfl, t2, _, 1, _, rfl, rfl, SqT.of et2, atI_nat (j := 1) rfl, rfl, _, rfl, ?_⟩
              rw [dec_nat]
              have : (!decide (o.2.1 = o.2.2)) = decide (o.1.1 = o.1.2 ∧ (k.1 ≠ k.2 ∨ o.2.1 ≠ o.2.2)) := by
                by_cases y : o.2.1 = o.2.2
                · rw [decide_eq_true y, decide_eq_false]
                  · rfl
                  · exact fun z => z.2.elim (fun q => q d) (fun q => q y)
                · rw [decide_eq_false y, decide_eq_true]
                  · rfl
                  · exact ⟨e, .inr y⟩
              rw [this]
              exact hQ
            · refine ifT (by rw [dec_nat, decide_eq_false d]; rfl) ?_
              rw [decide_eq_true (show o.1.1 = o.1.2 ∧ (k.1 ≠ k.2 ∨ o.2.1 ≠ o.2.2) from ⟨e, .inl d⟩)] at hQ
              exact hQ
          · refine ifF (by rw [dec_nat]; exact decide_eq_false e) ?_
            rw [decide_eq_false (show ¬ (o.1.1 = o.1.2 ∧ (k.1 ≠ k.2 ∨ o.2.1 ≠ o.2.2)) from fun z => e z.1)] at hQ
            exact hQ
        · by_cases det : o.1.1 = o.1.2 ∧ (k.1 ≠ k.2 ∨ o.2.1 ≠ o.2.2)
          · rw [decide_eq_true det]
            refine iteT ?_
            have kl5 := pairs_len met5.nd B4.lt cl
            refine ⟨.ref M, rfl, .ref p0, rfl, .ref t2, rfl, M, p0, t2, ks2, par2, wd2, sz, A, k, o.2, rfl, met5, by omega, hk4, ep5, et2, fun tt l1 l2 H6 s6 n6 m6 e6 e7 e8 => ?_⟩
            have F := B4.found GM rows hk4 mo det.1 det.2
            obtain ⟨bs, w1, w2, w3, w4, w5⟩ := B4.texts A k hk4
            have le : (tx1 par2 wd2 A ++ [o.2.1]).length = dp2 A + 1 := by rw [List.length_append, w4]; rfl
            have bd : dp2 A ≤ A := B4.dp_le A lA4
            refine ks _ _ tt l1 l2 H6 F (fun ws' os' C => ?_) (by omega) (Same.trans sG (Same.trans s5 s6)) (none_same (Same.trans sG s5) n6) (none_same (Same.trans sG s5) m6) e6 ?_ ?_
            · have := clash_none B4 GM wf rows A (by omega) sw4 (dp2 A) (fun i h1 h2 => B4.mono A i h2 h1) ws' os' C
              omega
            · rw [e7]
              rw [List.map_cons, List.reverse_cons]; rfl
            · rw [e8]
              rw [List.map_cons, List.reverse_cons]; rfl
          · rw [decide_eq_false det]
            refine iteF ?_
            have hs : o.1.1 = o.1.2 → k.1 = k.2 ∧ o.2.1 = o.2.2 := fun e => ⟨Classical.byContradiction fun y => det ⟨e, .inl y⟩, Classical.byContradiction fun y => det ⟨e, .inr y⟩⟩
            obtain ⟨nd5, vs5, eM5, lv5, v05, kj5⟩ := id met5
            have g : ∀ v, valV (ks2.zipWith (fun k v => (kk k, v)) vs5) (kk o.1) = v → DGet H5 M (.ref t1) v := fun v hv => .inr ⟨_, kk o.1, t1, .inl eM5, rfl, et1, hv.symm⟩
            have kl5 := pairs_len met5.nd B4.lt cl
            have tk : ∀ {P : Step → Prop}, (∀ o' ∈ (outsT c bl us k.1 k.2).take r, P o') → P o → ∀ o' ∈ (outsT c bl us k.1 k.2).take (r + 1), P o' := fun h1 h2 o' ho' => by
              rw [List.take_add_one, ho] at ho'
              rcases List.mem_append.mp ho' with y | y
              · exact h1 o' y
              · rw [show o' = o by simpa using y]; exact h2
            by_cases inn : o.1 ∈ ks2
            · obtain ⟨j, hj, ej⟩ := List.mem_iff_getElem.mp inn
              have hj2 : ks2[j]? = some o.1 := by rw [List.getElem?_eq_getElem hj, ej]
              have hv : ∃ v, vs5[j]? = some v := ⟨vs5[j]'(by omega), List.getElem?_eq_getElem (by omega)⟩
              obtain ⟨v, hv⟩ := hv
              refine ⟨.ref t1, rfl, .ref M, rfl, M, _, rfl, g _ (met_val lv5 nd5 hj2 hv), _, rfl, iteF ?_⟩
              exact ⟨ks2, par2, wd2, dp2, _, _, rfl, s5, ord5, met5, B4, lA4, hk4, ep5, sw4, tk so4 ⟨hs, j, hj2, dd4 j hj⟩, dd4⟩
            · refine ⟨.ref t1, rfl, .ref M, rfl, M, _, rfl, g _ (met_off lv5 inn), _, rfl, iteT ?_⟩
              refine ⟨.ref p0, rfl, .ref t2, rfl, sz2, fun tt ntt => ?_⟩
              have st := Same.new ntt (o := .tup [.ref p0, .ref t2])
              have s6 := Same.trans s5 st
              have ord6 := ord5.same st
              have met6 := met5.same st
              have ett : (upd H5 tt (.tup [.ref p0, .ref t2])) tt = some (.tup [.ref p0, .ref t2]) := upd_same
              have ep6 := st _ _ ep5
              have et1' := st _ _ et1
              have et2' := st _ _ et2
              have eM6 := st _ _ eM5
              generalize (upd H5 tt (.tup [.ref p0, .ref t2])) = H6 at st s6 ord6 met6 ett ep6 et1' et2' eM6 ⊢
              have lz : (ks2.zipWith (fun k v => (kk k, v)) vs5).length < sizeLine := by rw [List.length_zipWith, sizeLine_eq]; omega
              refine ⟨.ref M, rfl, .ref t1, rfl, M, _, rfl, .inr ⟨_, kk o.1, t1, eM6, rfl, et1', lz, rfl⟩, ?_⟩
              obtain ⟨b0', l1, l2⟩ := outs_sound GM lk.1 lk.2 mo
              have small : ∀ {a x u : Nat} {b : Str}, a < c.length → Lk c a x b u → x < sz := fun {a x u b} ha l => by
                have h2 : rowC c a ∈ c := by
                  unfold rowC
                  rw [List.getD_eq_getElem?_getD, List.getElem?_eq_getElem ha]
                  exact List.getElem_mem ha
                rw [← rows _ h2]
                exact (List.getElem?_eq_some_iff.mp l).1
              have met7 := met6.put (k := o.1) (x := o.2) (t := tt) (w := t2) eM6 inn (by omega) ett hk4 ep6 et2' (small lk.1 l1) (small lk.2 l2)
              have ord7 : OrdAt (upd H6 M (.dT (putK (ks2.zipWith (fun k v => (kk k, v)) vs5) (kk o.1) (.ref tt)))) O ks2 := ord6.putM eM6
              have tpM : ∀ {a : Addr} {xs : List V}, H6 a = some (.tup xs) → (upd H6 M (.dT (putK (ks2.zipWith (fun k v => (kk k, v)) vs5) (kk o.1) (.ref tt)))) a = some (.tup xs) := fun {a xs} ea => by
                rw [upd_ne (fun z => by rw [z, eM6] at ea; cases ea)]; exact ea
              have s7 : Same Gv (upd H6 M (.dT (putK (ks2.zipWith (fun k v => (kk k, v)) vs5) (kk o.1) (.ref tt)))) := fun b u e => by rw [upd_ne (ne_of_none e nM')]; exact s6 _ _ e
              have ep7 := tpM ep6
              have et7 := tpM et1'
              generalize (upd H6 M (.dT (putK (ks2.zipWith (fun k v => (kk k, v)) vs5) (kk o.1) (.ref tt)))) = H7 at met7 ord7 s7 ep7 et7 ⊢
              obtain ⟨ps7, eO7, lp7, kp7⟩ := id ord7
              refine ⟨.ref O, rfl, .inl ⟨rfl, _, SqL.of eO7⟩, .ref t1, rfl, O, _, _, rfl, rfl, eO7, by rw [List.length_map, lp7, sizeLine_eq]; omega, ?_⟩
              have ord8 := ord7.snoc (k := o.1) et7 eO7
              have met8 := met7.putO (ys := ps7.map V.ref ++ [V.ref t1]) eO7
              have s8 : Same Gv (upd H7 O (.lst (ps7.map V.ref ++ [V.ref t1]))) := fun b u e => by rw [upd_ne (ne_of_none e nO')]; exact s7 _ _ e
              have B8 := B4.put GM wf hk4 mo hs dd4
              have dA : setN dp2 ks2.length (dp2 A + 1) A = dp2 A := setN_ne (by omega)
              refine ⟨_, _, _, _, _, _, rfl, s8, ord8, met8, B8, by rw [List.length_append]; omega, by rw [List.getElem?_append_left lA4]; exact hk4, by rw [upd_ne (fun z => by rw [z, eO7] at ep7; cases ep7)]; exact ep7, fun i hi => (sw4 i hi).put (by omega), ?_, fun j hj => ?_⟩
              · rw [dA]
                refine tk (fun o' ho' => (so4 o' ho').put) ⟨hs, ks2.length, by rw [List.getElem?_append_right (Nat.le_refl _)]; simp, by rw [setN_same]; exact Nat.le_refl _⟩
              · rw [dA]
                rw [List.length_append, List.length_singleton] at hj
                by_cases z : j = ks2.length
                · rw [z, setN_same]; exact Nat.le_refl _
                · rw [setN_ne z]; exact dd4 j (by omega)
    · have lA2 : A = ks'.length := by
        have : ¬ (A : Int) < ((ps.map V.ref).length : Nat) := fun y => z (decide_eq_true y)
        rw [List.length_map, lp] at this
        omega
      refine kn (fun ws os C => ?_) _ (Same.trans sG s3)
      have := clash_none B GM wf rows A (by omega) sw ws.length (fun i h1 h2 => by omega) ws os C
      omega
end
end K82
end

section
set_option maxHeartbeats 4000000
/-! texts, of any kind -/
namespace K82
open PySem PySem.Spec PyProof.Rows L2
def isSeqD : PyData → Bool
  | .list _ => true | .tuple _ => true | _ => false
def elsD : PyData → List PyData
  | .list ds => ds | .tuple ds => ds | _ => []
def spSeq : Sp := fun vs H Q _ => ∃ (v : V) (d : PyData), vs = [v] ∧ Dx H v d ∧ ∀ H', Same H H' → Q (.bl (isSeqD d)) H'
def iSeq (K : PySem.W.Frag) (tl : TE) : TI := fun σ H R => iList K tl σ H R ∨ iTup K tl σ H R
theorem pi_seq {X : Cx} {tg l : Expr} {tl : TE} (hl : PE X l tl) : PI X tg l (iSeq X.K tl) := ⟨fun pins s σ H R I h => h.elim (fun h => (pi_list hl).run pins s σ H R I h) fun h => (pi_tup hl).run pins s σ H R I h⟩
/-- a comprehension that gives f i at the i-th turn -/
theorem lc_map {J : It} {n : Nat} {G : Hp → Prop} {Y : Nat → Hp → V → Hp → Prop} (w : Walk J n G Y) {j : Nat} {te : TE} {vs : List Nat} {σ : L2.St} {H1 : Hp} {D : Addr} {Qd : Hp → Prop} (f : Nat → V) (hn : H1 D = none) (hsz : n ≤ 100000)
    (hG : ∀ i H, i ≤ n → Same H1 H → G H) (hw : ∀ x, wipe ((wipe σ vs).set j (some x)) vs = wipe σ vs)
    (hstep : ∀ i x H H', i < n → Same H1 H → Y i H x H' → Same H H' ∧ ∀ Q : VK, (∀ H2, Same H' H2 → Q (f i) H2) → te ((wipe σ vs).set j (some x)) H' Q)
    (hend : ∀ H', Same H1 H' → H' D = some (.lst ((List.range n).map f)) → Qd H') :
    ∃ W : Nat → Nat → Hp → Prop, (∃ m, W 0 m (upd H1 D (.lst []))) ∧ ∀ i m H, W i m H →
      (J.stop i H ∧ Qd H) ∨ (J.go i H ∧ ∃ Nx : Hp → Prop, (∀ H', Nx H' → ∃ m', m' < m ∧ W (i + 1) m' H') ∧ ∀ x H', J.yld i H x H' → gName j x (wipe σ vs) H' fun σ2 H2 => wipe σ2 vs = wipe σ vs ∧ tYes σ2 H2 fun b H3 =>
        if b = true then te σ2 H3 fun y H4 => ∃ acc, H4 D = some (.lst acc) ∧ acc.length < sizeLine ∧ Nx (upd H4 D (.lst (acc ++ [y]))) else Nx H3) := by
  refine lc_it (w := w) (g := gName j) (tt := tYes) (fun i H' => Same H1 H' ∧ H' D = some (.lst ((List.range i).map f))) ⟨Same.new hn, upd_same⟩ (fun i H hi hP => hG i H hi hP.1) (fun i x H' H2 hi hP hy => ?_) (fun H' hP => hend H' hP.1 hP.2)
  obtain ⟨s, eD⟩ := hP
  obtain ⟨s2, st⟩ := hstep i x H' H2 hi s hy
  refine ⟨hw x, ?_⟩
  show te _ _ _
  refine st _ fun H3 s3 => ⟨_, s3 _ _ (s2 _ _ eD), ?_, ?_, ?_⟩
  · rw [List.length_map, List.length_range, sizeLine_eq]; omega
  · intro c o e
    rw [upd_ne (ne_of_none e hn)]
    exact s3 _ _ (s2 _ _ (s _ _ e))
  · rw [upd_same, List.range_succ, List.map_append]; rfl
/-- is it a text of words below n -/
def textD (n : Int) (d : PyData) : Bool := isSeqD d && (elsD d).all (betweenD 0 (n - 1))
def spIsText : Sp := fun vs H Q _ => ∃ (v : V) (d : PyData) (n : Int), vs = [v, .int n] ∧ Dx H v d ∧ (∀ e ∈ elsD d, Tame e) ∧ (elsD d).length ≤ 1000 ∧ ∀ H', Same H H' → Q (.bl (textD n d)) H'
theorem range_map {α β : Type} {l : List α} {f : Nat → β} {g : α → β} (h : ∀ (i : Nat) (x : α), l[i]? = some x → f i = g x) : (List.range l.length).map f = l.map g := by
  refine List.ext_getElem (by simp) fun i h1 h2 => ?_
  rw [List.getElem_map, List.getElem_map, List.getElem_range]
  exact h i _ (List.getElem?_eq_getElem _)
theorem seq_of {H : Hp} {v : V} {d : PyData} (h : Dx H v d) (s : isSeqD d = true) : ∃ a vs, v = .ref a ∧ (H a = some (.lst vs) ∨ H a = some (.tup vs)) ∧ DxAll H vs (elsD d) := by
  cases h with
  | lst e t => exact ⟨_, _, rfl, .inl e, t⟩
  | tup e t => exact ⟨_, _, rfl, .inr e, t⟩
  | _ => cases s
section
variable {P : Program} {w : World} {K : PySem.W.Frag} {mg : Str → Option Value} {base : Heap} {ad : Str → Addr} {fd : Str → FuncData}
theorem kit_seq {K : PySem.W.Frag} (d : PyData) : PySem.W.kitAny K (.type (tyN d)) [.type "list", .type "tuple"] = some (isSeqD d) := by
  have k : ∀ {T U : String} {b : Bool}, kitB T U = some b → PySem.W.kitOne K (.type T) (.type U) = some b := fun e => kit_ty (K := K) e
  unfold PySem.W.kitAny
  cases d with
  | list ds => rw [show tyN (.list ds) = "list" from rfl, k (show kitB "list" "list" = some true by decide +kernel)]; rfl
  | tuple ds => rw [show tyN (.tuple ds) = "tuple" from rfl, k (show kitB "tuple" "list" = some false by decide +kernel)]; unfold PySem.W.kitAny; rw [k (show kitB "tuple" "tuple" = some true by decide +kernel)]; rfl
  | dict ds => rw [show tyN (.dict ds) = "dict" from rfl, k (show kitB "dict" "list" = some false by decide +kernel)]; unfold PySem.W.kitAny; rw [k (show kitB "dict" "tuple" = some false by decide +kernel)]; rfl
  | none => rw [show tyN .none = "NoneType" from rfl, k (show kitB "NoneType" "list" = some false by decide +kernel)]; unfold PySem.W.kitAny; rw [k (show kitB "NoneType" "tuple" = some false by decide +kernel)]; rfl
  | bool b => rw [show tyN (.bool b) = "bool" from rfl, k (show kitB "bool" "list" = some false by decide +kernel)]; unfold PySem.W.kitAny; rw [k (show kitB "bool" "tuple" = some false by decide +kernel)]; rfl
  | int b => rw [show tyN (.int b) = "int" from rfl, k (show kitB "int" "list" = some false by decide +kernel)]; unfold PySem.W.kitAny; rw [k (show kitB "int" "tuple" = some false by decide +kernel)]; rfl
  | str b => rw [show tyN (.str b) = "str" from rfl, k (show kitB "str" "list" = some false by decide +kernel)]; unfold PySem.W.kitAny; rw [k (show kitB "str" "tuple" = some false by decide +kernel)]; rfl
theorem ok_is_listD (X : Tx K mg ad fd) : FnOk P w K mg base CX0 1 (ad "is_list") (fd "is_list") ["value"] spSeq := by
  refine X.F_is_list.ok scIsList (fun vs H Q E h => ?_) (fun cdv A outer s H vs Q E hr h => ?_)
  · obtain ⟨v, d, rfl, _⟩ := h
    rfl
  · obtain ⟨v, d, rfl, hd, k⟩ := h
    refine ⟨_, (pss_one (ps_ret (by exact (pe_callB call_isiT (by rfl) X.m_isinstance (by decide +kernel) (pa_cons (pv 0) (pa_cons (pe_tup (pa_cons (pe_bltn (v := .ty "list") (by rfl) X.m_list (by decide +kernel) rfl) (pa_cons (pe_bltn (v := .ty "tuple") (by rfl) X.m_tuple (by decide +kernel) rfl) pa_nil))) pa_nil)))))), ?_⟩
    exact ⟨v, rfl, (by show 2 ≤ sizeLine; decide), fun t ht => ⟨v, t, _, _, _, _, rfl, upd_same, .cons (.ty _) (.cons (.ty _) .nil), dx_ty (hd.same (Same.new ht)), kit_seq d, k _ (Same.new ht)⟩⟩
theorem scIsText : FnScope ["value", "size", "word"] ["value", "size"] (defScope sIsText) := ⟨rfl, rfl, rfl, by decide +kernel, rfl, by decide +kernel, by decide +kernel⟩
theorem ok_is_text (X : Tx K mg ad fd) : FnOk P w K mg base CX0 3 (ad "is_text") (fd "is_text") ["value", "size"] spIsText := by
  have G_is_list := ok_is_listD (P := P) (w := w) (base := base) X
  have G_is_between := ok_is_between (P := P) (w := w) (base := base) X
  refine X.F_is_text.ok scIsText (fun vs H Q E h => ?_) (fun cdv A outer s H vs Q E hr h => ?_)
  · obtain ⟨v, d, n, rfl, _⟩ := h
    rfl
  · obtain ⟨v, d, n, rfl, hd, ht, ln, k⟩ := h
    have HR_is_list : Room 1 _ := hr.mono (by decide)
    have HR_is_between : Room 2 _ := hr
    refine ⟨_, (pss_one (ps_ret (by exact (pe_and (pe_call G_is_list HR_is_list (by rfl) X.g_is_list X.F_is_list.kp X.b_is_list .nil pass0 (pa_cons (pv 0) pa_nil)) (pe_one (pe_callB (cr_all rfl) (by rfl) X.m_all (by decide +kernel) (pa_cons (pe_lc (own := [("word", 2)]) (g := gName 2) rfl scIsText.nd (pi_seq (pv 0)) (blkOk_by (own := [("word", 2)]) (N := ["value", "size", "word"]) (sc := defScope sIsText) (by decide +kernel)) (fun _ _ _ _ _ => pg_name (i := 2) scIsText.nd rfl (Or.inl rfl)) (fun _ _ _ _ _ => pts_nil) (fun _ _ _ _ _ => (pe_call G_is_between HR_is_between (by rfl) X.g_is_between X.F_is_between.kp X.b_is_between .nil pass0 (pa_cons (pv 2) (pa_cons pe_int (pa_cons (pe_op op_sub (pv 1) pe_int) pa_nil)))))) pa_nil))))))), ?_⟩
    refine ⟨v, rfl, v, d, rfl, hd, fun H1 s1 => ?_⟩
    cases e : isSeqD d with
    | false =>
      have q := k H1 s1
      rw [show textD n d = false by unfold textD; rw [e]; rfl] at q
      exact ⟨_, rfl, iteF q⟩
    | true =>
      obtain ⟨a, vs, rfl, ha, all⟩ := seq_of hd e
      have lv : vs.length = (elsD d).length := all.length
      have fin : ∀ (D : Addr) (H' : Hp), Same H1 H' → H' D = some (.lst ((List.range vs.length).map fun i => V.bl (((elsD d).map (betweenD 0 (n - 1))).getD i false))) → ∃ (bs : List Bool), H' D = some (.lst (bs.map V.bl)) ∧ bs.all id = textD n d := fun D H' _ eD => by
        refine ⟨(elsD d).map (betweenD 0 (n - 1)), ?_, ?_⟩
        · rw [eD, lv]
          congr 2
          rw [List.map_map]
          refine range_map fun i x hx => ?_
          rw [List.getD_eq_getElem?_getD, List.getElem?_map, hx]
          rfl
        · unfold textD
          rw [e, Bool.true_and, List.all_map]
          rfl
      have step : ∀ (D : Addr) (i : Nat) (x : V) (Hc : Hp), i < vs.length → Same H1 Hc → vs[i]? = some x → ∀ Q' : VK, (∀ H2, Same Hc H2 → Q' (V.bl (((elsD d).map (betweenD 0 (n - 1))).getD i false)) H2) →
          ∃ d', Dx Hc x d' ∧ Tame d' ∧ ∀ H2, Same Hc H2 → Q' (.bl (betweenD 0 (n - 1) d')) H2 := fun D i x Hc hi sc hx Q' hQ => by
        obtain ⟨d', h1, h2⟩ := all.from_ hx
        refine ⟨d', h2.same (Same.trans s1 sc), ht d' (List.mem_of_getElem? h1), fun H2 s2 => ?_⟩
        have := hQ H2 s2
        rw [List.getD_eq_getElem?_getD, List.getElem?_map, h1] at this
        exact this
      refine ⟨_, rfl, iteT ?_⟩
      rcases ha with ha | ha
      · refine .inl ⟨.ref a, rfl, a, rfl, ⟨_, SqL.of (s1 _ _ ha)⟩, fun D hD => ?_⟩
        refine lc_map (w := walk_list (K := K) (a := a) (xs := vs)) (fun i => V.bl (((elsD d).map (betweenD 0 (n - 1))).getD i false)) hD (by omega) (fun i Hc _ sc => SqL.of (sc _ _ (s1 _ _ ha))) (fun _ => rfl) (fun i x Hc Hd hi sc y => ?_) (fun H' s' eD => ?_)
        · obtain ⟨rfl, hx⟩ := y
          refine ⟨Same.refl, fun Q' hQ => ?_⟩
          obtain ⟨d', h1, h2, h3⟩ := step D i x _ hi sc hx Q' hQ
          exact ⟨x, rfl, .int n, rfl, n, 1, rfl, rfl, x, d', 0, n - 1, rfl, h1, h2, h3⟩
        · obtain ⟨bs, e1, e2⟩ := fin D H' s' eD
          refine ⟨D, bs, rfl, SqL.of e1, ?_⟩
          rw [e2]
          exact k H' (Same.trans s1 s')
      · refine .inr ⟨.ref a, rfl, a, rfl, ⟨_, SqT.of (s1 _ _ ha)⟩, fun D hD => ?_⟩
        refine lc_map (w := walk_tup (K := K) (a := a) (xs := vs)) (fun i => V.bl (((elsD d).map (betweenD 0 (n - 1))).getD i false)) hD (by omega) (fun i Hc _ sc => SqT.of (sc _ _ (s1 _ _ ha))) (fun _ => rfl) (fun i x Hc Hd hi sc y => ?_) (fun H' s' eD => ?_)
        · obtain ⟨rfl, hx⟩ := y
          refine ⟨Same.refl, fun Q' hQ => ?_⟩
          obtain ⟨d', h1, h2, h3⟩ := step D i x _ hi sc hx Q' hQ
          exact ⟨x, rfl, .int n, rfl, n, 1, rfl, rfl, x, d', 0, n - 1, rfl, h1, h2, h3⟩
        · obtain ⟨bs, e1, e2⟩ := fin D H' s' eD
          refine ⟨D, bs, rfl, SqL.of e1, ?_⟩
          rw [e2]
          exact k H' (Same.trans s1 s')
end
end K82
end

section
set_option maxHeartbeats 4000000
/-! draws -/
namespace K82
open PySem PySem.Spec PyProof.Rows L2
/-! ### promises -/
def spDraw : Sp := fun vs H Q _ => ∃ (p : Addr) (n : Int), vs = [.ref p, .int n] ∧ PotAt H p ∧ 1 ≤ n ∧ n.natAbs.log2 < 9000 ∧
  ∀ (d : Int) (H' : Hp), 0 ≤ d → d < n → PotAt H' p → But p H H' → Q (.int d) H'
def spPot (K : PySem.W.Frag) : Sp := fun vs H Q _ => ∃ (a : Addr) (ns : List Int) (k : Int), vs = [.ref a, .int k] ∧ SqL K H a (ns.map V.int) ∧ 0 ≤ k ∧ k < 1000 ∧
  ∀ (p : Addr) (H' : Hp), H p = none → PotAt H' p → Same H H' → Q (.ref p) H'
/-- an element of a list, or a sign of a text -/
def spPick (K : PySem.W.Frag) : Sp := fun vs H Q _ => ∃ (p : Addr) (v : V), vs = [.ref p, v] ∧ PotAt H p ∧
  ((∃ z : Str, v = .str z ∧ 0 < z.length ∧ z.length ≤ 1000 ∧ ∀ (c : Nat) (H' : Hp), c ∈ z.cps.toList → PotAt H' p → But p H H' → Q (.str ⟨#[c]⟩) H') ∨
   (∃ (a : Addr) (xs : List V), v = .ref a ∧ a ≠ p ∧ H a = some (.lst xs) ∧ 0 < xs.length ∧ xs.length ≤ 1000 ∧ ∀ (x : V) (H' : Hp), x ∈ xs → PotAt H' p → But p H H' → Q x H'))
section
variable {P : Program} {w : World} {K : PySem.W.Frag} {mg : Str → Option Value} {base : Heap} {ad : Str → Addr} {fd : Str → FuncData}
theorem call_divmodP {X : Cx} : CallR X (.builtin "divmod") (fun xs H Q => ∃ i j, xs = [.int i, .int j] ∧ (0 < j ∧ j.natAbs.log2 < 9000) ∧ ∀ p, H p = none → Q (.ref p) (upd H p (.tup [.int (i / j), .int (i % j)]))) := by
  intro pins s σ H xs us Q I r h
  obtain ⟨i, j, e, c, q⟩ := h
  exact call_divmodW pins s σ H xs us Q I r ⟨i, j, e, ⟨c.1, PyProof.noPylong_of_log2 c.2⟩, q⟩
theorem scDraw : FnScope ["_law_pot_here", "_law_size", "_law_digit"] ["_law_pot_here", "_law_size"] (defScope sDraw) := ⟨rfl, rfl, rfl, by decide +kernel, rfl, by decide +kernel, by decide +kernel⟩
theorem ok_draw (X : Tx K mg ad fd) : FnOk P w K mg base CX0 1 (ad "_law_draw") (fd "_law_draw") ["_law_pot_here", "_law_size"] spDraw := by
  refine X.F__law_draw.ok scDraw (fun vs H Q E h => ?_) (fun cdv A outer s H vs Q E hr h => ?_)
  · obtain ⟨p, n, rfl, _⟩ := h
    rfl
  · obtain ⟨p, n, rfl, ⟨x, y, hp, hx, hy, hy2⟩, hn, hlog, q⟩ := h
    refine ⟨_, (pss_cons (ps_if (pt_cmpR op_gt (pe_ix ix_list (pv 0) pe_int (fun _ _ => rfl)) pe_int (nomark _))
  (pss_cons (ps_asg (by exact (pe_callB call_divmodP (by rfl) X.m_divmod (by decide +kernel) (pa_cons (pe_ix ix_list (pv 0) pe_int (fun _ _ => rfl)) (pa_cons (pv 1) pa_nil)))) (pg_tup rfl (pgs_cons (pg_sub (pv 0) pe_int set_list) (pgs_cons (pg_name (i := 2) scDraw.nd rfl (.inl rfl)) pgs_nil))))
  (pss_one (ps_ret (by exact (pv 2)))))
  pss_nil)
  (pss_cons (ps_asg (by exact (pe_op op_mod (pe_callTy call_int1 (by rfl) X.m_int (by decide +kernel) (pa_cons (pe_op op_add (pe_op op_mul (pe_ix ix_list (pv 0) pe_int (fun _ _ => rfl)) pe_int) pe_int) pa_nil)) pe_int)) (pg_sub (pv 0) pe_int set_list))
  (pss_one (ps_ret (by exact (pe_op op_mod (pe_callTy call_int1 (by rfl) X.m_int (by decide +kernel) (pa_cons (pe_op op_fdiv (pe_op op_mod (pe_callTy call_int1 (by rfl) X.m_int (by decide +kernel) (pa_cons (pe_op op_mul (pe_ix ix_list (pv 0) pe_int (fun _ _ => rfl)) (pe_ix ix_list (pv 0) pe_int (fun _ _ => rfl))) pa_nil)) pe_int) pe_int) pa_nil)) (pv 1))))))), ?_⟩
    refine ⟨.ref p, rfl, p, _, 0, .int x, rfl, rfl, SqL.of hp, atI_nat (j := 0) rfl, _, _, rfl, rfl, _, rfl, ite2 (fun e => ?_) (fun e => ?_)⟩
    · have h0 : 0 < x := of_decide_eq_true e
      refine ⟨.ref p, rfl, p, _, 0, .int x, rfl, rfl, SqL.of hp, atI_nat (j := 0) rfl, .int n, rfl, x, n, rfl, ⟨by omega, hlog⟩, fun t ht => ?_⟩
      have npt : p ≠ t := ne_of_none hp ht
      have hp' : (upd H t (.tup [.int (x / n), .int (x % n)])) p = some (.lst [.int x, .int y]) := by rw [upd_ne npt]; exact hp
      refine ⟨t, [.int (x / n), .int (x % n)], rfl, SqT.of upd_same, rfl, .int (x / n), _, rfl, .ref p, rfl, p, [.int x, .int y], 0, 0, rfl, rfl, hp', rfl, .int (x % n), [], rfl, rfl, .int (x % n), rfl, ?_⟩
      refine q _ _ (Int.emod_nonneg _ (by omega)) (Int.emod_lt_of_pos _ (by omega)) ⟨x / n, y, upd_same, Int.ediv_nonneg hx (by omega), hy, hy2⟩ ?_
      exact (But.new ht).trans But.upd
    · refine ⟨.ref p, rfl, p, _, 1, .int y, rfl, rfl, SqL.of hp, atI_nat (j := 1) rfl, y, 41201, rfl, rfl, .inr ⟨by decide, by decide⟩, _, _, rfl, rfl, .inl ⟨_, rfl, _, _, rfl, rfl, (by show (0 : Int) < 2147483587; decide), .ref p, rfl, p, [.int x, .int y], 1, 1, rfl, rfl, hp, rfl, ?_⟩⟩
      have y1 : 0 ≤ (y * 41201 + 12347) % 2147483587 := Int.emod_nonneg _ (by decide)
      have y2 : (y * 41201 + 12347) % 2147483587 < 2147483587 := Int.emod_lt_of_pos _ (by decide)
      refine ⟨.ref p, rfl, p, _, 1, (.int ((y * 41201 + 12347) % 2147483587)), rfl, rfl, SqL.of upd_same, atI_nat (j := 1) rfl, .ref p, rfl, p, _, 1, (.int ((y * 41201 + 12347) % 2147483587)), rfl, rfl, SqL.of upd_same, atI_nat (j := 1) rfl, ((y * 41201 + 12347) % 2147483587), ((y * 41201 + 12347) % 2147483587), rfl, rfl, .inl ⟨by omega, by omega⟩, .inl ⟨_, rfl, _, _, rfl, rfl, (by show (0 : Int) < 2147483549; decide), _, _, rfl, rfl, ⟨by decide, by decide⟩, .inl ⟨_, rfl, .int n, rfl, _, n, rfl, rfl, (by show 0 < n; omega), ?_⟩⟩⟩
      exact q _ _ (Int.emod_nonneg _ (by omega)) (Int.emod_lt_of_pos _ (by omega)) ⟨x, ((y * 41201 + 12347) % 2147483587), upd_same, hx, y1, by omega⟩ But.upd
theorem scPick : FnScope ["_law_pot_here", "_law_some"] ["_law_pot_here", "_law_some"] (defScope sPick) := ⟨rfl, rfl, rfl, by decide +kernel, rfl, by decide +kernel, by decide +kernel⟩
theorem log_small {n : Int} (h0 : 0 ≤ n) (h : n < 2 ^ 64) : n.natAbs.log2 < 9000 := by
  by_cases hn : n = 0
  · subst hn; decide
  · have h2 : n.natAbs < 2 ^ 64 := by omega
    have := (Nat.log2_lt (n := n.natAbs) (k := 64) (by omega)).mpr h2
    omega
theorem ok_pick (X : Tx K mg ad fd) : FnOk P w K mg base CX0 2 (ad "_law_pick") (fd "_law_pick") ["_law_pot_here", "_law_some"] (spPick K) := by
  have G__law_draw : FnOk P w K mg base CX0 1 (ad "_law_draw") (fd "_law_draw") ["_law_pot_here", "_law_size"] spDraw := ok_draw X
  refine X.F__law_pick.ok scPick (fun vs H Q E h => ?_) (fun cdv A outer s H vs Q E hr h => ?_)
  · obtain ⟨p, v, rfl, _⟩ := h
    rfl
  · obtain ⟨p, v, rfl, hp, h⟩ := h
    have HR__law_draw := hr
    refine ⟨_, (pss_one (ps_ret (by exact (pe_ix ix_seq (pv 1) (pe_call G__law_draw HR__law_draw (by rfl) X.g__law_draw X.F__law_draw.kp X.b__law_draw .nil pass0 (pa_cons (pv 0) (pa_cons (pe_callB call_len (by rfl) X.m_len (by decide +kernel) (pa_cons (pv 1) pa_nil)) pa_nil))) (fun _ _ => rfl))))), ?_⟩
    rcases h with ⟨z, rfl, z0, z1, q⟩ | ⟨a, xs, rfl, hap, ha, x0, x1, q⟩
    · refine ⟨.str z, rfl, .ref p, rfl, .str z, rfl, .str z, z.length, rfl, ⟨by rw [sizeLine_eq]; omega, rfl⟩, p, (z.length : Int), rfl, hp, by omega, log_small (by omega) (by omega), fun d H' d0 d1 hp' hb => ?_⟩
      obtain ⟨j, rfl⟩ := Int.eq_ofNat_of_zero_le d0
      have hj : j < z.cps.toList.length := by
        have e : z.cps.toList.length = z.length := by simp [Str.length]
        omega
      have hg : z.cps.toList[j]? = some z.cps.toList[j] := List.getElem?_eq_getElem hj
      refine .inr (.inr ⟨z, (j : Int), z.cps.toList[j], rfl, rfl, by rw [sizeLine_eq]; omega, atI_nat hg, ?_⟩)
      exact q _ _ (List.getElem_mem hj) hp' hb
    · refine ⟨.ref a, rfl, .ref p, rfl, .ref a, rfl, .ref a, xs.length, rfl, .inl ⟨_, SqL.of ha, rfl⟩, p, (xs.length : Int), rfl, hp, by omega, log_small (by omega) (by omega), fun d H' d0 d1 hp' hb => ?_⟩
      obtain ⟨j, rfl⟩ := Int.eq_ofNat_of_zero_le d0
      have hj : j < xs.length := by omega
      refine .inl ⟨a, xs, (j : Int), xs[j], rfl, rfl, SqL.of (hb _ _ hap ha), atI_nat (List.getElem?_eq_getElem hj), ?_⟩
      exact q _ _ (List.getElem_mem hj) hp' hb
end
end K82
end

section
set_option maxHeartbeats 4000000
/-! the pot -/
namespace K82
open PySem PySem.Spec PyProof.Rows L2
section
variable {P : Program} {w : World} {K : PySem.W.Frag} {mg : Str → Option Value} {base : Heap} {ad : Str → Addr} {fd : Str → FuncData}
theorem scPot : FnScope ["_law_script", "_law_k", "_law_cell"] ["_law_script", "_law_k"] (defScope sPot) := ⟨rfl, rfl, rfl, by decide +kernel, rfl, by decide +kernel, by decide +kernel⟩
theorem ok_pot (X : Tx K mg ad fd) : FnOk P w K mg base CX0 1 (ad "_law_pot") (fd "_law_pot") ["_law_script", "_law_k"] (spPot K) := by
  refine X.F__law_pot.ok scPot (fun vs H Q E h => ?_) (fun cdv A outer s H vs Q E hr h => ?_)
  · obtain ⟨a, ns, k, rfl, _⟩ := h
    rfl
  · obtain ⟨a, ns, k, rfl, hS, hk0, hk1, q⟩ := h
    refine ⟨_, (pss_cons (ps_set (i := 2) scPot.nd rfl (.inl rfl) (by exact (pe_op op_add (pe_op op_mul pe_int (pv 1)) pe_int)))
  (pss_cons (ps_if (pt_cmpR op_lt (pv 1) (pe_callB call_len (by rfl) X.m_len (by decide +kernel) (pa_cons (pv 0) pa_nil)) (nomark _))
  (pss_one (ps_set (i := 2) scPot.nd rfl (.inl rfl) (by exact (pe_callB call_abs (by rfl) X.m_abs (by decide +kernel) (pa_cons (pe_ix ix_list (pv 0) (pv 1) (fun _ _ => rfl)) pa_nil)))))
  pss_nil)
  (pss_one (ps_ret (by exact (pe_lst (pa_cons (pe_callB (call_max2 rfl) (by rfl) X.m_max (by decide +kernel) (pa_cons pe_int (pa_cons (pe_op op_sub (pv 2) (pe_op op_pow pe_int pe_int)) pa_nil))) (pa_cons (pe_op op_add (pe_op op_mod (pe_op op_mul (pe_callTy call_int1 (by rfl) X.m_int (by decide +kernel) (pa_cons (pe_op op_add (pe_op op_mod (pe_callTy call_int1 (by rfl) X.m_int (by decide +kernel) (pa_cons (pv 2) pa_nil)) pe_int) pe_int) pa_nil)) (pe_op op_pow (pe_op op_add (pe_op op_mul pe_int (pv 1)) pe_int) pe_int)) pe_int) pe_int) pa_nil)))))))), ?_⟩
    refine ⟨_, rfl, 31, k, rfl, rfl, .inl ⟨by decide, by decide⟩, _, _, rfl, rfl, .int k, rfl, .ref a, rfl, _, _, rfl, .inl ⟨_, hS, rfl⟩, _, _, rfl, rfl, _, rfl, ite2 (fun e => ?_) (fun e => ?_)⟩
    · have hlt : k < ((ns.map V.int).length : Int) := of_decide_eq_true e
      obtain ⟨j, rfl⟩ := Int.eq_ofNat_of_zero_le hk0
      have hj : j < ns.length := by rw [List.length_map] at hlt; omega
      have hg : (ns.map V.int)[j]? = some (.int ns[j]) := by rw [List.getElem?_map, List.getElem?_eq_getElem hj]; rfl
      refine ⟨.ref a, rfl, .int j, rfl, a, _, _, _, rfl, rfl, hS, atI_nat hg, _, rfl, ?_⟩
      have c0 : 0 ≤ (if ns[j] < 0 then -ns[j] else ns[j]) := by split <;> omega
      generalize (if ns[j] < 0 then -ns[j] else ns[j]) = c at c0
      refine ⟨.int c, rfl, 10, 18, rfl, rfl, ⟨by decide, by decide, by decide⟩, c, 10 ^ 18, rfl, rfl, 0, c - 10 ^ 18, rfl, ?_⟩
      refine ⟨.int c, rfl, .inl ⟨c, rfl, c, 2147483549, rfl, rfl, (by show (0 : Int) < 2147483549; decide), c % 2147483549, 13, rfl, rfl, .inl ⟨_, rfl, ?_⟩⟩⟩
      have y0 : 0 ≤ c % 2147483549 := Int.emod_nonneg _ (by decide)
      have y1 : c % 2147483549 < 2147483549 := Int.emod_lt_of_pos _ (by decide)
      refine ⟨.int (j : Int), rfl, 2, (j : Int), rfl, rfl, .inl ⟨by decide, by decide⟩, _, 5, rfl, rfl, _, 3, rfl, rfl, ⟨by decide, by decide, by omega⟩, _, _, rfl, rfl, .inl ⟨by omega, by omega⟩, _, 2147483477, rfl, rfl, (by show (0 : Int) < 2147483477; decide), _, 1, rfl, rfl, (by show 2 ≤ sizeLine; decide), fun p hp => ?_⟩
      have z0 : 0 ≤ ((c % 2147483549 + 13) * (2 * (j : Int) + 5) ^ 3) % 2147483477 := Int.emod_nonneg _ (by decide)
      have z1 : ((c % 2147483549 + 13) * (2 * (j : Int) + 5) ^ 3) % 2147483477 < 2147483477 := Int.emod_lt_of_pos _ (by decide)
      exact q p _ hp ⟨if c - 10 ^ 18 > 0 then c - 10 ^ 18 else 0, ((c % 2147483549 + 13) * (2 * (j : Int) + 5) ^ 3) % 2147483477 + 1, upd_same, by split <;> omega, by omega, by omega⟩ (Same.new hp)
    · have c0 : 0 ≤ 31 * k + 19 := by omega
      refine ⟨.int (31 * k + 19), rfl, 10, 18, rfl, rfl, ⟨by decide, by decide, by decide⟩, (31 * k + 19), 10 ^ 18, rfl, rfl, 0, (31 * k + 19) - 10 ^ 18, rfl, ?_⟩
      refine ⟨.int (31 * k + 19), rfl, .inl ⟨31 * k + 19, rfl, (31 * k + 19), 2147483549, rfl, rfl, (by show (0 : Int) < 2147483549; decide), (31 * k + 19) % 2147483549, 13, rfl, rfl, .inl ⟨_, rfl, ?_⟩⟩⟩
      have y0 : 0 ≤ (31 * k + 19) % 2147483549 := Int.emod_nonneg _ (by decide)
      have y1 : (31 * k + 19) % 2147483549 < 2147483549 := Int.emod_lt_of_pos _ (by decide)
      refine ⟨.int k, rfl, 2, k, rfl, rfl, .inl ⟨by decide, by decide⟩, _, 5, rfl, rfl, _, 3, rfl, rfl, ⟨by decide, by decide, by omega⟩, _, _, rfl, rfl, .inl ⟨by omega, by omega⟩, _, 2147483477, rfl, rfl, (by show (0 : Int) < 2147483477; decide), _, 1, rfl, rfl, (by show 2 ≤ sizeLine; decide), fun p hp => ?_⟩
      have z0 : 0 ≤ (((31 * k + 19) % 2147483549 + 13) * (2 * k + 5) ^ 3) % 2147483477 := Int.emod_nonneg _ (by decide)
      have z1 : (((31 * k + 19) % 2147483549 + 13) * (2 * k + 5) ^ 3) % 2147483477 < 2147483477 := Int.emod_lt_of_pos _ (by decide)
      exact q p _ hp ⟨if (31 * k + 19) - 10 ^ 18 > 0 then (31 * k + 19) - 10 ^ 18 else 0, (((31 * k + 19) % 2147483549 + 13) * (2 * k + 5) ^ 3) % 2147483477 + 1, upd_same, by split <;> omega, by omega, by omega⟩ (Same.new hp)
end
end K82
end

section
set_option maxHeartbeats 4000000
/-! the law's own kept table -/
namespace K82
open PySem PySem.Spec PyProof.Rows L2
theorem ints_flat (o : List Nat) : (intsV o).all flatV = true := by
  unfold intsV
  rw [List.all_map]
  exact List.all_eq_true.mpr fun x _ => rfl
theorem inV_ints (t : Nat) (o : List Nat) : inV (.int (t : Int)) (intsV o) = decide (t ∈ o) := by
  induction o with
  | nil => rfl
  | cons x o ih =>
    have e : inV (.int (t : Int)) (intsV (x :: o)) = (decide ((t : Int) = (x : Int)) || inV (.int (t : Int)) (intsV o)) := by
      show (eqV (.int (x : Int)) (.int (t : Int)) || inV (.int (t : Int)) (intsV o)) = _
      congr 1
      rw [Bool.eq_iff_iff, decide_eq_true_eq]
      simp only [eqV, beq_iff_eq, decide_eq_true_eq]
      exact ⟨fun z => z.symm, fun z => z.symm⟩
    rw [e, ih, Bool.eq_iff_iff]
    simp only [Bool.or_eq_true, decide_eq_true_eq, List.mem_cons]
    constructor
    · rintro (h | h)
      · exact .inl (by omega)
      · exact .inr h
    · rintro (h | h)
      · exact .inl (by omega)
      · exact .inr h
theorem mt_indexK {X : Cx} {K : PySem.W.Frag} (e : X.K = K) : MtR X "list.index" (rIndex K) := by
  subst e
  exact mt_index
theorem bmK {X : Cx} {K : PySem.W.Frag} {ex : Expr} {T : String} {r : V → List V → Hp → VK → Prop} {to : TE} {t : TA} (eK : X.K = K) (h : PE X ex (tBM X.K T r to t)) : PE X ex (tBM K T r to t) := by
  subst eK
  exact h
theorem idx_first {t : Nat} : ∀ {o : List Nat} {m : Nat}, m < o.idxOf t → o[m]? ≠ some t
  | [], m, h => fun z => by cases z
  | x :: o, m, h => by
    rw [List.idxOf_cons] at h
    by_cases e : x = t
    · rw [show (x == t) = true by simp [e]] at h
      exact absurd h (Nat.not_lt_zero m)
    · rw [show (x == t) = false from beq_eq_false_iff_ne.mpr e] at h
      cases m with
      | zero => exact fun z => e (Option.some.inj z)
      | succ m =>
        have h : m + 1 < o.idxOf t + 1 := h
        intro z
        exact idx_first (t := t) (o := o) (m := m) (Nat.lt_of_succ_lt_succ h) (by simpa using z)
theorem idx_at {o : List Nat} {t : Nat} (h : t ∈ o) : (intsV o)[o.idxOf t]? = some (.int (t : Int)) ∧ ∀ (m : Nat) (z' : V), m < o.idxOf t → (intsV o)[m]? = some z' → eqV z' (.int (t : Int)) = false := by
  have hl := List.idxOf_lt_length_of_mem h
  refine ⟨?_, fun m z' hm hz => ?_⟩
  · unfold intsV
    rw [List.getElem?_map, List.getElem?_eq_getElem hl, List.getElem_idxOf]
    rfl
  · unfold intsV at hz
    rw [List.getElem?_map, List.getElem?_eq_getElem (by omega)] at hz
    cases hz
    have ne : o[m] ≠ t := fun z => idx_first hm (by rw [List.getElem?_eq_getElem (by omega), z])
    show ((o[m] : Int) == (t : Int)) = false
    exact beq_eq_false_iff_ne.mpr fun z => ne (by omega)
section
variable {P : Program} {w : World} {K : PySem.W.Frag} {mg : Str → Option Value} {base : Heap} {ad : Str → Addr} {fd : Str → FuncData}
theorem scKept : FnScope ["_law_codes_here", "_law_order", "_law_at", "_law_block", "_law_later", "_law_spot"] ["_law_codes_here"] (defScope sKept) := ⟨rfl, rfl, rfl, by decide +kernel, rfl, by decide +kernel, by decide +kernel⟩
theorem ok_kept (X : Tx K mg ad fd) : FnOk P w K mg base CX0 1 (ad "_law_kept") (fd "_law_kept") ["_law_codes_here"] spKeptC := by
  refine X.F__law_kept.ok scKept (fun vs H Q E h => ?_) (fun cdv A outer s H vs Q E hr h => ?_)
  · obtain ⟨v, c, rfl, _⟩ := h
    rfl
  · obtain ⟨v, c, rfl, hc, wf, l1, l2, k⟩ := h
    refine ⟨_, (pss_cons (ps_asg (by exact (pe_tup (pa_cons (pe_lst (pa_cons pe_int pa_nil)) (pa_cons pe_int pa_nil)))) (pg_tup rfl (pgs_cons (pg_name (i := 1) scKept.nd rfl (.inr rfl)) (pgs_cons (pg_name (i := 2) scKept.nd rfl (.inl rfl)) pgs_nil))))
  (pss_cons (ps_while PassesOwn.never (pt_cmpR op_lt (pv 2) (pe_callB call_len (by rfl) X.m_len (by decide +kernel) (pa_cons (pv 1) pa_nil)) (nomark _))
  (pss_cons (ps_for PassesOwn.never rfl (pi_list (pe_ix ix_list (pv 0) (pe_ix ix_list (pv 1) (pv 2) (fun _ _ => rfl)) (fun _ _ => rfl))) (pg_tup rfl (pgs_cons (pg_name (i := 3) scKept.nd rfl (.inl rfl)) (pgs_cons (pg_name (i := 4) scKept.nd rfl (.inl rfl)) pgs_nil)))
  (pss_one (ps_if (pt_cmpR op_notIn_seq (pv 4) (pv 1) rfl)
  (pss_one (ps_expr (by exact (pe_bm PySem.F.plainAttrs_list PySem.F.slot_list_append PySem.F.type_list_append mt_append (pv 1) (pa_cons (pv 4) pa_nil)))))
  pss_nil)))
  (pss_one (ps_set (i := 2) scKept.nd rfl (.inl rfl) (by exact (pe_op op_add (pv 2) pe_int))))))
  (pss_one (ps_ret (by exact (pe_lc (own := [("_law_spot", 5)]) (g := gName 5) rfl scKept.nd (pi_list (pv 1)) (blkOk_by (own := [("_law_spot", 5)]) (N := ["_law_codes_here", "_law_order", "_law_at", "_law_block", "_law_later", "_law_spot"]) (sc := defScope sKept) (by decide +kernel)) (fun _ _ _ _ _ => pg_name (i := 5) scKept.nd rfl (Or.inl rfl)) (fun _ _ _ _ _ => pts_nil) (fun _ _ _ _ _ => (pe_lc (own := [("_law_block", 3), ("_law_later", 4)]) (g := gTup K 2 (gCons (gName 3) (gCons (gName 4) (gNil)))) rfl scKept.nd (pi_listK (K := K) rfl (pe_ix (ix_listK (K := K) rfl) (pv 0) (pv 5) (fun _ _ => rfl))) (blkOk_by (own := [("_law_block", 3), ("_law_later", 4)]) (N := ["_law_codes_here", "_law_order", "_law_at", "_law_block", "_law_later", "_law_spot"]) (by kernel_rfl)) (fun _ _ _ _ _ => pg_tupK (K := K) rfl rfl (pgs_cons (pg_name (i := 3) scKept.nd rfl (Or.inl rfl)) (pgs_cons (pg_name (i := 4) scKept.nd rfl (Or.inl rfl)) (pgs_nil)))) (fun _ _ _ _ _ => pts_nil) (fun _ _ _ _ _ => (pe_tup (pa_cons (pv 3) (pa_cons (bmK (K := K) rfl (pe_bm PySem.F.plainAttrs_list PySem.F.slot_list_index PySem.F.type_list_index (mt_indexK (K := K) rfl) (pv 1) (pa_cons (pv 4) pa_nil))) pa_nil)))))))))))), ?_⟩
    obtain ⟨a, cv, ra, ea, all⟩ := hc.list
    subst ra
    refine ⟨(by show 1 ≤ sizeLine; decide), fun O hO => ⟨(by show 2 ≤ sizeLine; decide), fun t ht => ?_⟩⟩
    have nOt : O ≠ t := ne_of_none upd_same ht
    refine ⟨t, [.ref O, .int 0], rfl, SqT.of upd_same, rfl, .ref O, _, rfl, .int 0, _, rfl, rfl, ?_⟩
    refine ⟨fun m σ H' => ∃ (n : Nat) (o : List Nat) (r5 r6 r7 : Option V), σ = [some (.ref a), some (.ref O), some (.int (n : Int)), r5, r6, r7] ∧ m = c.length + 1 - n ∧ n ≤ o.length ∧ n ≤ c.length ∧ Same H H' ∧ H' O = some (.lst (intsV o)) ∧ o.Nodup ∧ (∀ x ∈ o, x < c.length) ∧
      goR c (c.length + 1 - n) n o = reached c, ⟨_, 0, [0], _, _, _, rfl, rfl, Nat.zero_le _, Nat.zero_le _, (Same.new hO).trans (Same.new ht), (upd_ne nOt).trans upd_same, one_nodup, (fun x hx => by rw [List.mem_singleton.mp hx]; exact wf.1), rfl⟩, ?_⟩
    rintro m σ H1 ⟨n, o, r5, r6, r7, rfl, rfl, hn, hn2, S1, eO, nd, lt, go⟩
    have lo : (intsV o).length = o.length := by unfold intsV; rw [List.length_map]
    refine ⟨.int (n : Int), rfl, .ref O, rfl, .ref O, _, rfl, .inl ⟨_, SqL.of eO, rfl⟩, _, _, rfl, rfl, _, rfl, ?_⟩
    rw [lo]
    by_cases hlt : n < o.length
    · rw [decide_eq_true (show (n : Int) < (o.length : Int) by omega)]
      have nlt : n < c.length := Nat.lt_of_lt_of_le hlt (nodup_len nd lt)
      refine iteT ⟨fun σ' H' => ∃ m', m' < c.length + 1 - n ∧ ∃ (n : Nat) (o : List Nat) (r5 r6 r7 : Option V), σ' = [some (.ref a), some (.ref O), some (.int (n : Int)), r5, r6, r7] ∧ m' = c.length + 1 - n ∧ n ≤ o.length ∧ n ≤ c.length ∧ Same H H' ∧ H' O = some (.lst (intsV o)) ∧ o.Nodup ∧ (∀ x ∈ o, x < c.length) ∧
        goR c (c.length + 1 - n) n o = reached c, fun _ _ z => z, ?_⟩
      obtain ⟨t, et⟩ : ∃ t, o[n]? = some t := ⟨_, List.getElem?_eq_getElem hlt⟩
      have tl := lt t (List.mem_of_getElem? et)
      have eot : (intsV o)[n]? = some (.int (t : Int)) := by unfold intsV; rw [List.getElem?_map, et]; rfl
      obtain ⟨a', vs, b, ea', ev, lv, hb, db⟩ := chD_row hc tl
      cases ea'
      obtain ⟨ws, ew0, lw, ents⟩ := rowD_ent db
      have ew := S1 _ _ ew0
      replace ev := S1 _ _ ev
      have nbO : b ≠ O := ne_of_none ew0 hO
      refine ⟨.ref a, rfl, .ref O, rfl, .int (n : Int), rfl, O, _, (n : Int), .int (t : Int), rfl, rfl, SqL.of eO, atI_nat eot, a, _, (t : Int), .ref b, rfl, rfl, SqL.of ev, atI_nat hb, b, rfl, ⟨_, SqL.of ew⟩, ?_⟩
      refine for_list (K := K) (a := b) (xs := ws) (fun j σ H' => ∃ r5 r6 r7, σ = [some (.ref a), some (.ref O), some (.int (n : Int)), r5, r6, r7] ∧ Same H H' ∧ H' b = some (.lst ws) ∧ H' O = some (.lst (intsV (addAll o ((rowC c t).take j))))) ⟨_, _, _, rfl, S1, ew, eO⟩ (fun j σ H' _ ⟨_, _, _, _, _, eb, _⟩ => SqL.of eb) ?_ ?_
      · rintro j x σ H2 hx ⟨r5, r6, r7, rfl, S2, eb2, eO2⟩
        obtain ⟨tt, en, he, rfl, htt⟩ := ents j x hx
        have ht2 := S2 _ _ htt
        have tj : (rowC c t).take (j + 1) = (rowC c t).take j ++ [en] := by
          rw [List.take_add_one, he]; rfl
        have aj : addAll o ((rowC c t).take (j + 1)) = addN (addAll o ((rowC c t).take j)) en.2 := by
          rw [tj]
          unfold addAll
          rw [List.foldl_append]
          rfl
        rw [aj]
        have nd2 : (addAll o ((rowC c t).take j)).Nodup := nodup_addAll nd
        have lt2 : ∀ x ∈ addAll o ((rowC c t).take j), x < c.length := fun x hx => (mem_addAll.mp hx).elim (lt x) fun ⟨e, he, z⟩ => by rw [z]; exact rowC_lt wf (List.mem_of_mem_take he)
        have len2 := nodup_len nd2 lt2
        generalize addAll o ((rowC c t).take j) = o2 at eO2 nd2 lt2 len2 ⊢
        refine ⟨tt, [.str en.1, .int (en.2 : Int)], rfl, SqT.of ht2, rfl, .str en.1, _, rfl, .int (en.2 : Int), _, rfl, rfl, ?_⟩
        refine ⟨.int (en.2 : Int), rfl, .ref O, rfl, O, _, rfl, .inl (SqL.of eO2), rfl, ints_flat o2, _, rfl, ?_⟩
        rw [if_pos rfl, inV_ints]
        unfold addN
        by_cases hin : en.2 ∈ o2
        · rw [if_pos hin, decide_eq_true hin]
          exact iteF ⟨_, _, _, rfl, S2, eb2, eO2⟩
        · rw [if_neg hin, decide_eq_false hin]
          have lo2 : (intsV o2).length = o2.length := by unfold intsV; rw [List.length_map]
          refine iteT ⟨.ref O, rfl, .inl ⟨rfl, _, SqL.of eO2⟩, .int (en.2 : Int), rfl, O, _, _, rfl, rfl, eO2, by rw [lo2, sizeLine_eq]; omega, ?_⟩
          refine ⟨_, _, _, rfl, fun b' u eb' => ?_, (upd_ne nbO).trans eb2, ?_⟩
          · rw [upd_ne (ne_of_none eb' hO)]
            exact S2 _ _ eb'
          · rw [upd_same]
            unfold intsV
            rw [List.map_append]
            rfl
      · rintro σ H2 ⟨r5, r6, r7, rfl, S2, eb2, eO2⟩
        have lj : ws.length = (rowC c t).length := lw
        rw [lj, List.take_length] at eO2
        refine ⟨.int (n : Int), rfl, (n : Int), 1, rfl, rfl, c.length + 1 - (n + 1), by omega, n + 1, addAll o (rowC c t), _, _, _, rfl, rfl, ?_, nlt, S2, eO2, nodup_addAll nd, fun x hx => (mem_addAll.mp hx).elim (lt x) fun ⟨e, he, z⟩ => by rw [z]; exact rowC_lt wf he, ?_⟩
        · obtain ⟨s', hs'⟩ := addAll_pre (r := rowC c t) o
          rw [hs', List.length_append]
          omega
        · rw [← go, show c.length + 1 - n = (c.length + 1 - (n + 1)) + 1 by omega]
          show _ = (match o[n]? with | some i => goR c (c.length + 1 - (n + 1)) (n + 1) (addAll o (rowC c i)) | none => o)
          rw [et]
    · rw [decide_eq_false (show ¬ (n : Int) < (o.length : Int) by omega)]
      refine iteF ?_
      have ro : reached c = o := by
        rw [← go, show c.length + 1 - n = (c.length - n) + 1 by omega]
        show (match o[n]? with | some i => goR c (c.length - n) (n + 1) (addAll o (rowC c i)) | none => o) = o
        rw [List.getElem?_eq_none (by omega)]
      have nd := (reached_ok wf).1
      have lt := (reached_ok wf).2.1
      have clo0 := (reached_ok wf).2.2.1
      rw [ro] at nd lt clo0
      have lo : (intsV o).length = o.length := by unfold intsV; rw [List.length_map]
      refine ⟨.ref O, rfl, O, rfl, ⟨_, SqL.of eO⟩, fun D hD => ?_⟩
      have nDO : D ≠ O := (ne_of_none eO hD).symm
      refine lc_it (w := walk_list (K := K) (a := O) (xs := intsV o)) (g := gName 5) (tt := tYes) (fun i H' => ∃ ls : List Addr, H' D = some (.lst (ls.map V.ref)) ∧ ls.length = i ∧ Same H1 H' ∧ ∀ (m : Nat) (l : Addr), ls[m]? = some l → l ≠ D ∧ ∃ t, o[m]? = some t ∧ RowAt H' l ((rowC c t).map fun e => (e.1, o.idxOf e.2)))
        ⟨[], upd_same, rfl, Same.new hD, fun m l z => by cases z⟩ (fun i H' hi ⟨_, _, _, s, _⟩ => SqL.of (s _ _ eO)) (fun i x H' H'' hi hP hy => ?_) (fun H' hP => ?_)
      · obtain ⟨ls, eD, ll, s1, rows⟩ := hP
        obtain ⟨rfl, hx⟩ := hy
        refine ⟨rfl, yes_of (iteT ?_)⟩
        obtain ⟨t, et, rfl⟩ : ∃ t, o[i]? = some t ∧ x = .int (t : Int) := by
          unfold intsV at hx
          rw [List.getElem?_map] at hx
          cases z : o[i]? with
          | none => rw [z] at hx; cases hx
          | some t => rw [z] at hx; cases hx; exact ⟨t, rfl, rfl⟩
        have tm := List.mem_of_getElem? et
        have tl := lt t tm
        obtain ⟨a', vs, b, ea', ev, lv, hb, db⟩ := chD_row hc tl
        cases ea'
        obtain ⟨ws, ew0, lw, ents⟩ := rowD_ent db
        have S2 := Same.trans S1 s1
        have clo : ∀ e ∈ rowC c t, e.2 ∈ o := by
          exact clo0 t tm
        have eO2 := s1 _ _ eO
        refine ⟨.ref a, rfl, .int (t : Int), rfl, a, _, (t : Int), .ref b, rfl, rfl, SqL.of (S2 _ _ ev), atI_nat hb, b, rfl, ⟨_, SqL.of (S2 _ _ ew0)⟩, fun D2 hD2 => ?_⟩
        refine lc_it (w := walk_list (K := K) (a := b) (xs := ws)) (g := gTup K 2 (gCons (gName 3) (gCons (gName 4) gNil))) (tt := tYes) (fun j G => ∃ ts : List Addr, G D2 = some (.lst (ts.map V.ref)) ∧ ts.length = j ∧ Same H'' G ∧ ∀ (m : Nat) (t' : Addr), ts[m]? = some t' → ∃ e, (rowC c t)[m]? = some e ∧ G t' = some (.tup [.str e.1, .int ((o.idxOf e.2 : Nat) : Int)]))
          ⟨[], upd_same, rfl, Same.new hD2, fun m l z => by cases z⟩ (fun j G hj ⟨_, _, _, s, _⟩ => SqL.of (s _ _ (S2 _ _ ew0))) (fun j y G G' hj hP2 hy => ?_) (fun G hP2 => ?_)
        · obtain ⟨ts, e2, lt2, s2, ok2⟩ := hP2
          obtain ⟨rfl, hy⟩ := hy
          obtain ⟨tt, en, he, rfl, htt⟩ := ents j y hy
          have hin := clo en (List.mem_of_getElem? he)
          obtain ⟨ix1, ix2⟩ := idx_at hin
          have ej : j < (rowC c t).length := (List.getElem?_eq_some_iff.mp he).1
          refine ⟨tt, [.str en.1, .int (en.2 : Int)], rfl, SqT.of (s2 _ _ (S2 _ _ htt)), rfl, .str en.1, _, rfl, .int (en.2 : Int), _, rfl, rfl, rfl, yes_of (iteT ?_)⟩
          have lrow : (rowC c t).length ≤ 1000 := by
            unfold rowC
            rw [List.getD_eq_getElem?_getD, List.getElem?_eq_getElem tl]
            exact l2 _ (List.getElem_mem tl)
          refine ⟨.str en.1, rfl, .ref O, rfl, .inl ⟨rfl, _, SqL.of (s2 _ _ eO2)⟩, .int (en.2 : Int), rfl, O, _, .int (en.2 : Int), o.idxOf en.2, _, rfl, rfl, SqL.of (s2 _ _ eO2), rfl, ints_flat o, ix1, by simp [eqV], ix2, (by show 2 ≤ sizeLine; decide), fun t2 ht2 => ?_⟩
          have n2 : D2 ≠ t2 := ne_of_none e2 ht2
          have St := Same.new ht2 (o := .tup [V.str en.1, .int ((o.idxOf en.2 : Nat) : Int)])
          refine ⟨_, St _ _ e2, by rw [List.length_map, lt2, sizeLine_eq]; omega, ts ++ [t2], by rw [upd_same, List.map_append]; rfl, by rw [List.length_append, lt2]; rfl, fun b' u eb' => ?_, fun m t' hm => ?_⟩
          · rw [upd_ne (ne_of_none eb' hD2)]
            exact St _ _ (s2 _ _ eb')
          · by_cases hlt2 : m < ts.length
            · rw [List.getElem?_append_left hlt2] at hm
              obtain ⟨e', h1, h2⟩ := ok2 m t' hm
              refine ⟨e', h1, ?_⟩
              rw [upd_ne (fun z => by rw [z, e2] at h2; cases h2)]
              exact St _ _ h2
            · rw [List.getElem?_append_right (by omega)] at hm
              have z : m - ts.length = 0 := by
                by_cases q : m - ts.length = 0
                · exact q
                · rw [List.getElem?_eq_none (by simp; omega)] at hm
                  cases hm
              rw [z] at hm
              cases hm
              have mj : m = j := by omega
              subst mj
              exact ⟨en, he, by rw [upd_ne n2.symm]; exact upd_same⟩
        · obtain ⟨ts, e2, lt2, s2, ok2⟩ := hP2
          have eD4 := s2 _ _ eD
          have nDD : D2 ≠ D := (ne_of_none eD hD2).symm
          have row : RowAt G D2 ((rowC c t).map fun e => (e.1, o.idxOf e.2)) := ⟨ts, e2, by rw [List.length_map, lt2, lw], fun m t' hm => by
            obtain ⟨e', h1, h2⟩ := ok2 m t' hm
            exact ⟨_, by rw [List.getElem?_map, h1]; rfl, h2⟩⟩
          refine ⟨_, eD4, by rw [List.length_map, ll, sizeLine_eq]; have := nodup_len nd lt; omega, ls ++ [D2], by rw [upd_same, List.map_append]; rfl, by rw [List.length_append, ll]; rfl, fun b' u eb' => ?_, fun m l hm => ?_⟩
          · rw [upd_ne (ne_of_none eb' hD)]
            exact s2 _ _ (s1 _ _ eb')
          · by_cases hlt2 : m < ls.length
            · rw [List.getElem?_append_left hlt2] at hm
              obtain ⟨nl, t', h1, h2⟩ := rows m l hm
              exact ⟨nl, t', h1, h2.keep nl eD fun b' u nb eb' => by rw [upd_ne nb]; exact s2 _ _ eb'⟩
            · rw [List.getElem?_append_right (by omega)] at hm
              have z : m - ls.length = 0 := by
                by_cases q : m - ls.length = 0
                · exact q
                · rw [List.getElem?_eq_none (by simp; omega)] at hm
                  cases hm
              rw [z] at hm
              cases hm
              have mj : m = i := by omega
              subst mj
              exact ⟨nDD, t, et, row.keep nDD eD4 fun b' u nb eb' => by rw [upd_ne nb]; exact eb'⟩
      · obtain ⟨ls, eD, ll, s1, rows⟩ := hP
        refine k D H' (Same.trans S1 s1) (none_of S1 hD) ?_
        refine .lst eD (dxAll_of (by rw [List.length_map, List.length_map, ll, lo, keptF_length, ro]) fun j v hv => ?_)
        rw [List.getElem?_map] at hv
        cases el : ls[j]? with
        | none => rw [el] at hv; cases hv
        | some l =>
          rw [el] at hv
          cases hv
          obtain ⟨_, t, et, ra⟩ := rows j l el
          refine ⟨_, ?_, ra.dx⟩
          unfold keptF
          rw [ro, List.getElem?_map, List.getElem?_map, et]
          rfl
end
end K82
end

section
set_option maxHeartbeats 4000000
/-! charts on the heap -/
namespace K82
open PySem PySem.Spec PyProof.Rows L2
theorem refs_not_pot {H : Hp} {pt a : Addr} {ls : List Addr} (hp : PotAt H pt) (e : H a = some (.lst (ls.map V.ref))) : a ≠ pt := fun z => by
  obtain ⟨x, y, ep, _⟩ := hp
  rw [z, ep] at e
  match ls, e with
  | [], e => cases e
  | _ :: _, e => cases e
theorem tup_not_pot {H : Hp} {pt a : Addr} {xs : List V} (hp : PotAt H pt) (e : H a = some (.tup xs)) : a ≠ pt := fun z => by
  obtain ⟨x, y, ep, _⟩ := hp
  rw [z, ep] at e
  cases e
/-- the entries stand at ts -/
def EntsAt (H : Hp) (ts : List Addr) (r : List (Str × Nat)) : Prop := ts.length = r.length ∧ ∀ (j : Nat) (t : Addr), ts[j]? = some t → ∃ e, r[j]? = some e ∧ H t = some (.tup [.str e.1, .int e.2])
theorem EntsAt.nil {H : Hp} : EntsAt H [] [] := ⟨rfl, fun j t z => by cases z⟩
theorem EntsAt.mono {H H' : Hp} {ts : List Addr} {r : List (Str × Nat)} (h : EntsAt H ts r) (s : ∀ a xs, H a = some (.tup xs) → H' a = some (.tup xs)) : EntsAt H' ts r :=
  ⟨h.1, fun j t z => let ⟨e, h1, h2⟩ := h.2 j t z; ⟨e, h1, s _ _ h2⟩⟩
theorem EntsAt.snoc {H : Hp} {ts : List Addr} {r : List (Str × Nat)} (h : EntsAt H ts r) {t : Addr} {e : Str × Nat} (ht : H t = some (.tup [.str e.1, .int e.2])) : EntsAt H (ts ++ [t]) (r ++ [e]) := by
  refine ⟨by rw [List.length_append, List.length_append, h.1]; rfl, fun j x hx => ?_⟩
  rcases at_snoc (b := e) h.1 hx with ⟨h1, h2⟩ | ⟨rfl, h2⟩
  · obtain ⟨e', h3, h4⟩ := h.2 j x h1
    exact ⟨e', h2 _ h3, h4⟩
  · exact ⟨e, h2, ht⟩
theorem RowAt.ents {H : Hp} {l : Addr} {ts : List Addr} {r : List (Str × Nat)} (e : H l = some (.lst (ts.map V.ref))) (h : EntsAt H ts r) : RowAt H l r := ⟨ts, e, h.1, h.2⟩
theorem RowAt.mono {H H' : Hp} {l : Addr} {r : List (Str × Nat)} (h : RowAt H l r) (s : ∀ a xs, H a = some (.tup xs) → H' a = some (.tup xs)) (s' : ∀ ls : List Addr, H l = some (.lst (ls.map V.ref)) → H' l = some (.lst (ls.map V.ref))) : RowAt H' l r := by
  obtain ⟨ts, e, hl, k⟩ := h
  exact ⟨ts, s' _ e, hl, fun j t z => let ⟨e, h1, h2⟩ := k j t z; ⟨e, h1, s _ _ h2⟩⟩
theorem RowAt.but {H H' : Hp} {pt l : Addr} {r : List (Str × Nat)} (h : RowAt H l r) (hp : PotAt H pt) (b : But pt H H') : RowAt H' l r :=
  h.mono (fun a xs e => b _ _ (tup_not_pot hp e) e) fun ls e => b _ _ (refs_not_pot hp e) e
theorem RowAt.same {H H' : Hp} {l : Addr} {r : List (Str × Nat)} (h : RowAt H l r) (s : Same H H') : RowAt H' l r :=
  h.mono (fun a xs e => s _ _ e) fun ls e => s _ _ e
/-- a row of rows stands at F, its rows at ls -/
structure ChL (H : Hp) (F : Addr) (ls : List Addr) (c : Ch) : Prop where
  e : H F = some (.lst (ls.map V.ref))
  l : ls.length = c.length
  k : ∀ (m : Nat) (l' : Addr), ls[m]? = some l' → ∃ r, c[m]? = some r ∧ RowAt H l' r
theorem ChL.dx {H : Hp} {F : Addr} {ls : List Addr} {c : Ch} (h : ChL H F ls c) : Dx H (.ref F) (chD c) := chD_of h.e h.l h.k
theorem ChL.of {H : Hp} {v : V} {c : Ch} (h : Dx H v (chD c)) : ∃ F ls, v = .ref F ∧ ChL H F ls c := by
  obtain ⟨a, xs, ra, ea, all⟩ := h.list
  have lx : xs.length = c.length := by rw [all.length, List.length_map]
  have row : ∀ (j : Nat) (x : V), xs[j]? = some x → ∃ b r, x = .ref b ∧ c[j]? = some r ∧ RowAt H b r := fun j x hx => by
    obtain ⟨d, hd, dx⟩ := all.from_ hx
    rw [List.getElem?_map] at hd
    cases e : c[j]? with
    | none => rw [e] at hd; cases hd
    | some r =>
      rw [e] at hd
      cases hd
      obtain ⟨b, ws, rfl, eb, _⟩ := id dx.list
      exact ⟨b, r, rfl, rfl, rowAt_of dx⟩
  obtain ⟨ls, rfl⟩ := refs_of fun j x hx => let ⟨b, _, z, _⟩ := row j x hx; ⟨b, z⟩
  refine ⟨a, ls, ra, ea, by rw [← lx, List.length_map], fun m l' hl => ?_⟩
  obtain ⟨b, r, h1, h2, h3⟩ := row m (.ref l') (by rw [List.getElem?_map, hl]; rfl)
  cases h1
  exact ⟨r, h2, h3⟩
theorem ChL.but {H H' : Hp} {pt F : Addr} {ls : List Addr} {c : Ch} (h : ChL H F ls c) (hp : PotAt H pt) (b : But pt H H') : ChL H' F ls c :=
  ⟨b _ _ (refs_not_pot hp h.e) h.e, h.l, fun m l' z => let ⟨r, h1, h2⟩ := h.k m l' z; ⟨r, h1, h2.but hp b⟩⟩
theorem ChL.same {H H' : Hp} {F : Addr} {ls : List Addr} {c : Ch} (h : ChL H F ls c) (s : Same H H') : ChL H' F ls c :=
  ⟨s _ _ h.e, h.l, fun m l' z => let ⟨r, h1, h2⟩ := h.k m l' z; ⟨r, h1, h2.same s⟩⟩
theorem ChL.ne {H : Hp} {F : Addr} {ls : List Addr} {c : Ch} (h : ChL H F ls c) {m : Nat} {l' : Addr} (z : ls[m]? = some l') : l' ≠ F := fun q => by
  obtain ⟨r, h1, ts, e, hl, k⟩ := h.k m l' z
  rw [q, h.e] at e
  have : ls = ts := ref_inj (HO.lst.inj (Option.some.inj e))
  subst this
  obtain ⟨en, _, h2⟩ := k m l' z
  rw [q, h.e] at h2
  cases h2
theorem ChL.nil {H : Hp} {F : Addr} (e : H F = some (.lst [])) : ChL H F [] [] := ⟨e, rfl, fun m l z => by cases z⟩
/-- one more row -/
theorem ChL.snoc {H : Hp} {F L : Addr} {ls : List Addr} {c : Ch} {r : List (Str × Nat)} (h : ChL H F ls c) (hr : RowAt H L r) (n : L ≠ F) : ChL (upd H F (.lst (ls.map V.ref ++ [V.ref L]))) F (ls ++ [L]) (c ++ [r]) := by
  have tp : ∀ a xs, H a = some (.tup xs) → (upd H F (.lst (ls.map V.ref ++ [V.ref L]))) a = some (.tup xs) := fun a xs e => by
    rw [upd_ne (fun z => by rw [z, h.e] at e; cases e)]
    exact e
  refine ⟨by rw [upd_same, List.map_append]; rfl, by rw [List.length_append, List.length_append, h.l]; rfl, fun m l' hm => ?_⟩
  rcases at_snoc (b := r) h.l hm with ⟨h1, h2⟩ | ⟨rfl, h2⟩
  · obtain ⟨r', h3, h4⟩ := h.k m l' h1
    exact ⟨r', h2 _ h3, h4.mono tp fun ls' e => by rw [upd_ne (h.ne h1)]; exact e⟩
  · exact ⟨r, h2, hr.mono tp fun ls' e => by rw [upd_ne n]; exact e⟩
theorem ChL.notin {H : Hp} {F L : Addr} {ls : List Addr} {c : Ch} (h : ChL H F ls c) (z : H L = none) : L ∉ ls := fun m => by
  obtain ⟨j, hj, e⟩ := List.mem_iff_getElem.mp m
  obtain ⟨r, _, ts, e1, _⟩ := h.k j L (by rw [List.getElem?_eq_getElem hj, e])
  rw [z] at e1
  cases e1
theorem ChL.keep {H : Hp} {F L : Addr} {ls : List Addr} {c : Ch} {o : HO} {xs : List V} (h : ChL H F ls c) (n : L ≠ F) (no : L ∉ ls) (e : H L = some (.lst xs)) : ChL (upd H L o) F ls c := by
  refine ⟨by rw [upd_ne n.symm]; exact h.e, h.l, fun m l' z => ?_⟩
  obtain ⟨r, h1, h2⟩ := h.k m l' z
  have nl : l' ≠ L := fun q => no (q ▸ List.mem_of_getElem? z)
  exact ⟨r, h1, h2.mono (fun a ys ea => by rw [upd_ne (fun q => by rw [q, e] at ea; cases ea)]; exact ea) fun ls' ea => by rw [upd_ne nl]; exact ea⟩
theorem none_but {H H' : Hp} {pt L : Addr} (b : But pt H H') (n : L ≠ pt) (z : H' L = none) : H L = none := by
  cases e : H L with
  | none => rfl
  | some o => rw [b _ _ n e] at z; cases z
theorem chD_but {H H' : Hp} {pt : Addr} {v : V} {c : Ch} (h : Dx H v (chD c)) (hp : PotAt H pt) (b : But pt H H') : Dx H' v (chD c) := by
  obtain ⟨F, ls, rfl, k⟩ := ChL.of h
  exact (k.but hp b).dx
theorem len_app (a b : Str) : (a ++ b).length = a.length + b.length := by
  show (a.cps ++ b.cps).size = a.cps.size + b.cps.size
  exact Array.size_append
theorem len_small : ∀ n : Nat, n ≤ 1000 → ((toString (n : Int) : Str)).length ≤ 8 := by decide +kernel
end K82
end

section
set_option maxHeartbeats 4000000
/-! tables of code against each other -/
namespace K82
open PySem PySem.Spec PyProof.Rows L2
theorem can_map {α : Type} {f : α → PyData} : ∀ {l : List α}, (∀ x ∈ l, PyData.canLay0 (f x) = true) → PyData.canLayAll0 (l.map f) = true
  | [], _ => by simp [PyData.canLayAll0]
  | x :: l, h => by
    rw [List.map_cons]
    simp only [PyData.canLayAll0, Bool.and_eq_true]
    exact ⟨h x (List.mem_cons_self ..), can_map fun y hy => h y (List.mem_cons_of_mem _ hy)⟩
theorem depth_map {α : Type} {f : α → PyData} {n : Nat} : ∀ {l : List α}, (∀ x ∈ l, PyData.depth (f x) ≤ n) → PyData.depthAll (l.map f) ≤ n
  | [], _ => by simp [PyData.depthAll]
  | x :: l, h => by
    rw [List.map_cons]
    simp only [PyData.depthAll]
    exact Nat.max_le.mpr ⟨h x (List.mem_cons_self ..), depth_map fun y hy => h y (List.mem_cons_of_mem _ hy)⟩
theorem eqv_map {α : Type} [DecidableEq α] {f : α → PyData} (h : ∀ x y, PyData.eqv (f x) (f y) = decide (x = y)) : ∀ (l m : List α), PyData.eqvAll (l.map f) (m.map f) = decide (l = m)
  | [], [] => by simp [PyData.eqvAll]
  | [], y :: m => by simp [PyData.eqvAll]
  | x :: l, [] => by simp [PyData.eqvAll]
  | x :: l, y :: m => by
    rw [List.map_cons, List.map_cons]
    simp only [PyData.eqvAll]
    rw [h x y, eqv_map h l m]
    rw [Bool.eq_iff_iff]
    simp
mutual
def plainD : PyData → Bool
  | .dict _ => false
  | .list ds => plainAll ds
  | .tuple ds => plainAll ds
  | _ => true
def plainAll : List PyData → Bool
  | [] => true
  | d :: ds => plainD d && plainAll ds
end
theorem plain_map {α : Type} {f : α → PyData} : ∀ {l : List α}, (∀ x ∈ l, plainD (f x) = true) → plainAll (l.map f) = true
  | [], _ => by simp [plainAll]
  | x :: l, h => by
    rw [List.map_cons]
    simp only [plainAll, Bool.and_eq_true]
    exact ⟨h x (List.mem_cons_self ..), plain_map fun y hy => h y (List.mem_cons_of_mem _ hy)⟩
mutual
theorem Dx.dp {K : PySem.W.Frag} {H : Hp} : ∀ {v : V} {d : PyData}, Dx H v d → plainD d = true → Dp K H v d
  | _, _, .non, _ => .non
  | _, _, .bl b, _ => .bl b
  | _, _, .int i, _ => .int i
  | _, _, .str x, _ => .str x
  | _, _, .lst e h, k => .lst (SqL.of e) (DxAll.dp h k)
  | _, _, .tup e h, k => .tup (SqT.of e) (DxAll.dp h k)
  | _, _, .dic e h, k => by cases k
theorem DxAll.dp {K : PySem.W.Frag} {H : Hp} : ∀ {vs : List V} {ds : List PyData}, DxAll H vs ds → plainAll ds = true → DpAll K H vs ds
  | _, _, .nil, _ => .nil
  | _, _, .cons a b, k => .cons (Dx.dp a (Bool.and_eq_true_iff.mp k).1) (DxAll.dp b (Bool.and_eq_true_iff.mp k).2)
end
theorem entD_eqv (e f : Str × Nat) : PyData.eqv (entD e) (entD f) = decide (e = f) := by
  obtain ⟨a, i⟩ := e
  obtain ⟨b, j⟩ := f
  rw [Bool.eq_iff_iff]
  simp only [entD, PyData.eqv, PyData.eqvAll, Bool.and_eq_true, decide_eq_true_eq, Prod.mk.injEq, beq_iff_eq, and_true]
  constructor
  · rintro ⟨h1, h2⟩
    exact ⟨h1, by omega⟩
  · rintro ⟨h1, h2⟩
    exact ⟨h1, by omega⟩
theorem rowD_eqv (r s : List (Str × Nat)) : PyData.eqv (rowD r) (rowD s) = decide (r = s) := by
  unfold rowD
  rw [show PyData.eqv (.list (r.map entD)) (.list (s.map entD)) = PyData.eqvAll (r.map entD) (s.map entD) by simp [PyData.eqv]]
  exact eqv_map entD_eqv r s
theorem chD_eqv (c d : Ch) : PyData.eqv (chD c) (chD d) = decide (c = d) := by
  unfold chD
  rw [show PyData.eqv (.list (c.map rowD)) (.list (d.map rowD)) = PyData.eqvAll (c.map rowD) (d.map rowD) by simp [PyData.eqv]]
  exact eqv_map rowD_eqv c d
/-- all blocks are of the signs -/
def okBlocks (c : Ch) : Prop := ∀ r ∈ c, ∀ e ∈ r, wordD (.str e.1) = true
theorem word_ok {z : Str} (h : wordD (.str z) = true) : PyData.strOk z = true := by
  unfold PyData.strOk
  rw [← Array.all_toList]
  refine List.all_eq_true.mpr fun c hc => ?_
  have := List.all_eq_true.mp h c hc
  have e : ∀ c ∈ (PySem.Str.ofString "abcd").cps.toList, c < 0x110000 := by decide +kernel
  exact decide_eq_true (e c (of_decide_eq_true this))
theorem chD_shaped {c : Ch} (h : okBlocks c) : SeqAt.shaped (chD c) = true := by
  unfold SeqAt.shaped
  rw [Bool.and_eq_true]
  constructor
  · show PyData.canLay0 (.list (c.map rowD)) = true
    simp only [PyData.canLay0]
    refine can_map fun r hr => ?_
    show PyData.canLay0 (.list (r.map entD)) = true
    simp only [PyData.canLay0]
    refine can_map fun e he => ?_
    simp only [entD, PyData.canLay0, PyData.canLayAll0, Bool.and_true]
    exact word_ok (h r hr e he)
  · refine decide_eq_true ?_
    show PyData.depth (.list (c.map rowD)) ≤ 64
    simp only [PyData.depth]
    have : PyData.depthAll (c.map rowD) ≤ 10 := depth_map fun r hr => by
      show PyData.depth (.list (r.map entD)) ≤ 10
      simp only [PyData.depth]
      have : PyData.depthAll (r.map entD) ≤ 5 := depth_map fun e he => by
        simp [entD, PyData.depth, PyData.depthAll]
      omega
    omega
theorem chD_plain (c : Ch) : plainD (chD c) = true := by
  show plainAll (c.map rowD) = true
  refine plain_map fun r hr => ?_
  show plainAll (r.map entD) = true
  refine plain_map fun e he => ?_
  simp [entD, plainD, plainAll]
end K82
end

section
set_option maxHeartbeats 4000000
/-! codes drawn -/
namespace K82
open PySem PySem.Spec PySem.Builtin PySem.Builtin.Str PyProof PyProof.Rows L2
def okRs (p q n : Int) (c : Ch) : Prop := ∀ r ∈ c, (r.length : Int) = 2 ^ p.toNat ∧ ∀ e ∈ r, (wordD (.str e.1) = true ∧ (e.1.length : Int) = q) ∧ (e.2 : Int) < n
theorem okRs.snoc {p q n : Int} {c : Ch} {r : List (Str × Nat)} (h : okRs p q n c) (k : (r.length : Int) = 2 ^ p.toNat ∧ ∀ e ∈ r, (wordD (.str e.1) = true ∧ (e.1.length : Int) = q) ∧ (e.2 : Int) < n) : okRs p q n (c ++ [r]) := fun x hx => by
  rcases List.mem_append.mp hx with hx | hx
  · exact h x hx
  · rw [List.mem_singleton.mp hx]
    exact k
theorem okRs.ch {p q n : Int} {c : Ch} (h : okRs p q n c) (l : (c.length : Int) = n) (pos : 0 < c.length) (most : (c.length : Int) * 2 ^ p.toNat ≤ 2000) : okCh p q c :=
  ⟨⟨pos, fun r hr e he => by have := ((h r hr).2 e he).2; omega⟩, fun r hr => (h r hr).1, fun r hr e he => ((h r hr).2 e he).1, most⟩
theorem join_sig (l : List Nat) (h : ∀ c ∈ l, c ∈ (PySem.Str.ofString "abcd").cps.toList) : wordD (.str (Txt.join (PySem.Str.ofString "") (l.map fun c => (⟨#[c]⟩ : Str)))) = true ∧ (Txt.join (PySem.Str.ofString "") (l.map fun c => (⟨#[c]⟩ : Str))).length = l.length := by
  have e : Txt.join (PySem.Str.ofString "") (l.map fun c => (⟨#[c]⟩ : Str)) = glued (PySem.Str.ofString "") (l.map fun c => (⟨#[c]⟩ : Str)) := rfl
  constructor
  · rw [e, StrLaws.glued_eq_join]
    refine List.all_eq_true.mpr fun c hc => decide_eq_true ?_
    rcases (mem_join _ _ _).mp hc with ⟨t, ht, hc⟩ | ⟨_, hc⟩
    · obtain ⟨x, hx, rfl⟩ := List.mem_map.mp ht
      have : c = x := by simpa using hc
      rw [this]
      exact h x hx
    · have e0 : (PySem.Str.ofString "").cps.toList = [] := by decide +kernel
      rw [e0] at hc
      cases hc
  · rw [e, size_glued]
    rw [show (PySem.Str.ofString "").length = 0 from rfl, Nat.mul_zero, Nat.add_zero, List.map_map]
    clear e h
    induction l with
    | nil => rfl
    | cons x l ih =>
      rw [List.map_cons, List.sum_cons, ih, List.length_cons]
      show 1 + l.length = _
      omega
theorem pow_b {p q : Int} (f : fitP p q) : (1 : Int) ≤ 2 ^ p.toNat ∧ (2 : Int) ^ p.toNat ≤ 64 := by
  have h1 : ∀ k : Nat, k ≤ 6 → (1 : Int) ≤ 2 ^ k ∧ (2 : Int) ^ k ≤ 64 := by decide
  exact h1 _ (by have := f.2.1; omega)
def okLet (lt : Str) : Prop := 0 < lt.length ∧ lt.length ≤ 1000 ∧ ∀ c ∈ lt.cps.toList, c ∈ (PySem.Str.ofString "abcd").cps.toList
def spCodes : Sp := fun vs H Q _ => ∃ (pt : Addr) (p q : Int) (nn : Nat) (lt : Str), vs = [.ref pt, .int (2 ^ p.toNat), .int q, .int (nn : Int), .str lt] ∧ PotAt H pt ∧ fitP p q ∧ 1 ≤ nn ∧ nn ≤ 20 ∧ okLet lt ∧
  ∀ (F : Addr) (c : Ch) (H' : Hp), But pt H H' → PotAt H' pt → H F = none → Dx H' (.ref F) (chD c) → c.length = nn → okCh p q c → Q (.ref F) H'
theorem row_dp {K : PySem.W.Frag} {H : Hp} {L : Addr} {r : List (Str × Nat)} (h : RowAt H L r) : Dp K H (.ref L) (rowD r) := h.dx.dp (by
  show plainAll (r.map entD) = true
  refine plain_map fun e he => ?_
  simp [entD, plainD, plainAll])
theorem row_shaped {r : List (Str × Nat)} (h : ∀ e ∈ r, wordD (.str e.1) = true) : SeqAt.shaped (rowD r) = true := by
  unfold SeqAt.shaped
  rw [Bool.and_eq_true]
  constructor
  · show PyData.canLay0 (.list (r.map entD)) = true
    simp only [PyData.canLay0]
    refine can_map fun e he => ?_
    simp only [entD, PyData.canLay0, PyData.canLayAll0, Bool.and_true]
    exact word_ok (h e he)
  · refine decide_eq_true ?_
    show PyData.depth (.list (r.map entD)) ≤ 64
    simp only [PyData.depth]
    have : PyData.depthAll (r.map entD) ≤ 5 := depth_map fun e he => by
      simp [entD, PyData.depth, PyData.depthAll]
    omega
theorem dp_nil {K : PySem.W.Frag} {H : Hp} {E : Addr} (e : H E = some (.lst [])) : Dp K H (.ref E) (.list []) := .lst (SqL.of e) .nil
section
variable {P : Program} {w : World} {K : PySem.W.Frag} {mg : Str → Option Value} {base : Heap} {ad : Str → Addr} {fd : Str → FuncData}
theorem scCodes : FnScope ["_law_pot_here", "_law_size", "_law_length", "_law_states", "_law_letters", "_law_found", "_law_at", "_law_here", "_law_word", "_law_block", "_law_turn"] ["_law_pot_here", "_law_size", "_law_length", "_law_states", "_law_letters"] (defScope sCodes) := ⟨rfl, rfl, rfl, by decide +kernel, rfl, by decide +kernel, by decide +kernel⟩
theorem ok_codes (X : Tx K mg ad fd) : FnOk P w K mg base CX0 3 (ad "_law_codes") (fd "_law_codes") ["_law_pot_here", "_law_size", "_law_length", "_law_states", "_law_letters"] spCodes := by
  have G__law_draw := ok_draw (P := P) (w := w) (base := base) X
  have G__law_pick := ok_pick (P := P) (w := w) (base := base) X
  refine X.F__law_codes.ok scCodes (fun vs H Q E h => ?_) (fun cdv A outer s H vs Q E hr h => ?_)
  · obtain ⟨pt, p, q, nn, lt, rfl, _⟩ := h
    rfl
  · obtain ⟨pt, p, q, nn, lt, rfl, hp, fit, n1, n2, ⟨lt0, lt1, lt2⟩, k⟩ := h
    have HR__law_pick := hr
    have HR__law_draw : Room 1 _ := hr.mono (by decide)
    have hu := hr.units
    refine ⟨_, (pss_cons (ps_set (i := 5) scCodes.nd rfl (.inl rfl) (by exact (pe_lst pa_nil)))
  (pss_cons (ps_for PassesOwn.never rfl (pi_range1 (by rfl) X.m_range (pa_cons (pv 3) pa_nil)) (pg_name (i := 6) scCodes.nd rfl (.inl rfl))
  (pss_cons (ps_set (i := 7) scCodes.nd rfl (.inl rfl) (by exact (pe_lst pa_nil)))
  (pss_cons (ps_for PassesOwn.never rfl (pi_range1 (by rfl) X.m_range (pa_cons (pv 1) pa_nil)) (pg_name (i := 8) scCodes.nd rfl (.inl rfl))
  (pss_cons (ps_set (i := 9) scCodes.nd rfl (.inl rfl) (by exact (pe_join pe_str (pe_lc (own := [("_law_turn", 10)]) (g := gName 10) rfl scCodes.nd (pi_range1 (by rfl) X.m_range (pa_cons (pv 2) pa_nil)) (blkOk_by (own := [("_law_turn", 10)]) (N := ["_law_pot_here", "_law_size", "_law_length", "_law_states", "_law_letters", "_law_found", "_law_at", "_law_here", "_law_word", "_law_block", "_law_turn"]) (sc := defScope sCodes) (by decide +kernel)) (fun _ _ _ _ _ => pg_name (i := 10) scCodes.nd rfl (Or.inl rfl)) (fun _ _ _ _ _ => pts_nil) (fun _ _ _ _ _ => (pe_call G__law_pick HR__law_pick (by rfl) X.g__law_pick X.F__law_pick.kp X.b__law_pick .nil pass0 (pa_cons (pv 0) (pa_cons (pv 4) pa_nil))))))))
  (pss_cons (ps_if (PW.pt (pw_and (pt_cmpR (op_neD hu) (pv 7) (pe_lst pa_nil) (nomark _)) (pw_and1 (pt_cmpR op_eq (pe_call G__law_draw HR__law_draw (by rfl) X.g__law_draw X.F__law_draw.kp X.b__law_draw .nil pass0 (pa_cons (pv 0) (pa_cons pe_int pa_nil))) pe_int (nomark _)))))
  (pss_one (ps_set (i := 9) scCodes.nd rfl (.inl rfl) (by exact (pe_ix ix_tup (pe_call G__law_pick HR__law_pick (by rfl) X.g__law_pick X.F__law_pick.kp X.b__law_pick .nil pass0 (pa_cons (pv 0) (pa_cons (pv 7) pa_nil))) pe_int (fun _ _ => rfl)))))
  pss_nil)
  (pss_one (ps_expr (by exact (pe_bm PySem.F.plainAttrs_list PySem.F.slot_list_append PySem.F.type_list_append mt_append (pv 7) (pa_cons (pe_tup (pa_cons (pv 9) (pa_cons (pe_call G__law_draw HR__law_draw (by rfl) X.g__law_draw X.F__law_draw.kp X.b__law_draw .nil pass0 (pa_cons (pv 0) (pa_cons (pv 3) pa_nil))) pa_nil))) pa_nil))))))))
  (pss_one (ps_expr (by exact (pe_bm PySem.F.plainAttrs_list PySem.F.slot_list_append PySem.F.type_list_append mt_append (pv 5) (pa_cons (pv 7) pa_nil))))))))
  (pss_one (ps_ret (by exact (pv 5)))))), ?_⟩
    obtain ⟨pw1, pw2⟩ := pow_b fit
    obtain ⟨h1, h2, h3, h4⟩ := id fit
    refine ⟨Nat.zero_le _, fun F hF => ?_⟩
    have nFp : F ≠ pt := hp.ne hF
    have b1' : But pt H (upd H F (.lst [])) := But.same (Same.new hF)
    have hp1 := hp.same (Same.new hF (o := .lst []))
    refine ⟨.int (nn : Int), rfl, (nn : Int), rfl, by omega, by omega, ?_⟩
    refine for_range (lo := 0) (n := (nn : Int).toNat) (fun i σ H' => ∃ (r6 r7 r8 r9 r10 : Option V) (ls : List Addr) (c : Ch), σ = [some (.ref pt), some (.int (2 ^ p.toNat)), some (.int q), some (.int (nn : Int)), some (.str lt), some (.ref F), r6, r7, r8, r9, r10] ∧ But pt H H' ∧ PotAt H' pt ∧ ChL H' F ls c ∧ c.length = i ∧ okRs p q nn c)
      ⟨_, _, _, _, _, [], [], rfl, b1', hp1, ChL.nil upd_same, rfl, fun r hr => by cases hr⟩ ?_ ?_
    · rintro i σ H2 hi ⟨r6, r7, r8, r9, r10, ls, c, rfl, b2, hp2, ch2, lc2, ok2⟩
      refine ⟨Nat.zero_le _, fun L hL => ?_⟩
      have nLp : L ≠ pt := hp2.ne hL
      have nLF : L ≠ F := fun z => by rw [z, ch2.e] at hL; cases hL
      have hLH := none_but b2 nLp hL
      have noL := ch2.notin hL
      have SL := Same.new hL (o := .lst [])
      have b3 := b2.trans (But.same SL)
      refine ⟨.int (2 ^ p.toNat), rfl, 2 ^ p.toNat, rfl, by omega, by omega, ?_⟩
      refine for_range (lo := 0) (n := (2 ^ p.toNat : Int).toNat) (fun j σ H' => ∃ (r8 r9 r10 : Option V) (ts : List Addr) (r : List (Str × Nat)), σ = [some (.ref pt), some (.int (2 ^ p.toNat)), some (.int q), some (.int (nn : Int)), some (.str lt), some (.ref F), some (.int (0 + (i : Int))), some (.ref L), r8, r9, r10] ∧ But pt H H' ∧ PotAt H' pt ∧ ChL H' F ls c ∧ H' L = some (.lst (ts.map V.ref)) ∧ EntsAt H' ts r ∧ r.length = j ∧ ∀ e ∈ r, (wordD (.str e.1) = true ∧ (e.1.length : Int) = q) ∧ (e.2 : Int) < nn)
        ⟨_, _, _, [], [], rfl, b3, hp2.same SL, ch2.same SL, upd_same, EntsAt.nil, rfl, fun e he => by cases he⟩ ?_ ?_
      · rintro j σ H3 hj ⟨r8, r9, r10, ts, r, rfl, b3, hp3, ch3, eL3, en3, lr, ok3⟩
        have lr64 : r.length < 64 := by omega
        refine ⟨⟨_, rfl⟩, .int q, rfl, q, rfl, by omega, by omega, fun D hD => ?_⟩
        have nDp : D ≠ pt := hp3.ne hD
        have SD := Same.new hD (o := .lst [])
        refine lc_range (lo := 0) (n := q.toNat) (fun m H' => But pt H3 H' ∧ PotAt H' pt ∧ ∃ cs : List Nat, H' D = some (.lst ((cs.map fun c => (⟨#[c]⟩ : Str)).map V.str)) ∧ cs.length = m ∧ ∀ c ∈ cs, c ∈ (PySem.Str.ofString "abcd").cps.toList)
          ⟨But.same SD, hp3.same SD, [], upd_same, rfl, fun c hc => by cases hc⟩ (fun m H' hm hP => ?_) (fun H' hP => ?_)
        · obtain ⟨b4, hp4, cs, eD, lcs, ab⟩ := hP
          refine ⟨rfl, yes_of (iteT ?_)⟩
          refine ⟨.ref pt, rfl, .str lt, rfl, pt, .str lt, rfl, hp4, .inl ⟨_, rfl, lt0, lt1, fun x H5 hx hp5 b5 => ?_⟩⟩
          have eD5 := b5 _ _ nDp eD
          refine ⟨_, eD5, by rw [List.length_map, List.length_map, lcs, sizeLine_eq]; omega, fun b o nb eb => ?_, ?_, cs ++ [x], ?_, by rw [List.length_append, lcs]; rfl, fun y hy => ?_⟩
          · rw [upd_ne (ne_of_none eb hD)]
            exact b5 _ _ nb (b4 _ _ nb eb)
          · obtain ⟨u, v, ep, kp⟩ := hp5
            exact ⟨u, v, (upd_ne nDp.symm).trans ep, kp⟩
          · rw [upd_same, List.map_append, List.map_append]
            rfl
          · rcases List.mem_append.mp hy with hy | hy
            · exact ab y hy
            · rw [List.mem_singleton.mp hy]
              exact lt2 x hx
        · obtain ⟨b4, hp4, cs, eD, lcs, ab⟩ := hP
          obtain ⟨jw, jl⟩ := join_sig cs ab
          have sm : ((cs.map fun c => (⟨#[c]⟩ : Str)).map fun x => x.length).sum = cs.length := by
            rw [List.map_map]
            clear eD lcs ab jw jl
            induction cs with
            | nil => rfl
            | cons x l ih =>
              rw [List.map_cons, List.sum_cons, ih, List.length_cons]
              show 1 + l.length = _
              omega
          refine ⟨_, D, _, rfl, rfl, .inl (SqL.of eD), by rw [show (PySem.Str.ofString "").length = 0 from rfl]; omega, ?_⟩
          have bw : wordD (.str (Txt.join (PySem.Str.ofString "") (cs.map fun c => (⟨#[c]⟩ : Str)))) = true ∧ (((Txt.join (PySem.Str.ofString "") (cs.map fun c => (⟨#[c]⟩ : Str))).length : Nat) : Int) = q := ⟨jw, by rw [jl, lcs]; omega⟩
          obtain ⟨bk, ebk⟩ : ∃ bk, bk = Txt.join (PySem.Str.ofString "") (cs.map fun c => (⟨#[c]⟩ : Str)) := ⟨_, rfl⟩
          rw [← ebk] at bw ⊢
          have eL4 := b4 _ _ nLp eL3
          have row4 : RowAt H' L r := RowAt.ents eL4 (en3.mono fun a xs e => b4 _ _ (tup_not_pot hp3 e) e)
          refine ⟨.ref L, rfl, Nat.zero_le _, fun E hE => ?_⟩
          have SE := Same.new hE (o := .lst [])
          have row5 := row4.same SE
          refine ⟨rowD r, .list [], row_dp row5, dp_nil upd_same, row_shaped (fun e he => (ok3 e he).1.1), by decide +kernel, ?_⟩
          have b5 := b4.trans (But.same SE)
          have hp5 := hp4.same SE
          by_cases r0 : r = []
          · rw [show (!PyData.eqv (rowD r) (.list [])) = false by rw [r0]; simp [rowD, PyData.eqv, PyData.eqvAll]]
            have hp6 := hp5
            have bt := b5
            refine ⟨_, rfl, iteF (iteF ?_)⟩
            have eL4 := bt _ _ nLp eL3
            refine ⟨.ref L, rfl, .inl ⟨rfl, _, SqL.of eL4⟩, _, rfl, .ref pt, rfl, .int (nn : Int), rfl, pt, (nn : Int), rfl, hp6, by omega, log_small (by omega) (by omega), fun x H7 x0 x1 hp7 b7 => ?_⟩
            obtain ⟨n, rfl⟩ := Int.eq_ofNat_of_zero_le x0
            have b37 := bt.trans b7
            have eL5 := b7 _ _ nLp eL4
            refine ⟨(by show 2 ≤ sizeLine; decide), fun T hT => ?_⟩
            have ST := Same.new hT (o := .tup [V.str bk, .int (n : Int)])
            refine ⟨L, _, .ref T, rfl, rfl, ST _ _ eL5, by rw [List.length_map, en3.1, lr, sizeLine_eq]; omega, ?_⟩
            have nLT : L ≠ T := ne_of_none eL5 hT
            have ch6 := ((ch3.but hp3 b37).same ST)
            refine ⟨_, _, _, ts ++ [T], r ++ [(bk, n)], rfl, fun b o nb eb => ?_, ?_, ?_, by rw [upd_same, List.map_append]; rfl, ?_, by rw [List.length_append, lr]; rfl, fun e he => ?_⟩
            · rw [upd_ne (fun z => by rw [z, hLH] at eb; cases eb)]
              exact ST _ _ (b37 _ _ nb (b3 _ _ nb eb))
            · obtain ⟨u, v, ep, kp⟩ := hp7.same ST
              exact ⟨u, v, (upd_ne nLp.symm).trans ep, kp⟩
            · exact ch6.keep nLF noL (ST _ _ eL5)
            · refine ((en3.mono fun a xs e => ?_).snoc (e := (_, n)) ?_)
              · rw [upd_ne (fun z => by rw [z, eL3] at e; cases e)]
                exact ST _ _ (b37 _ _ (tup_not_pot hp3 e) e)
              · rw [upd_ne nLT.symm]
                exact upd_same
            · rcases List.mem_append.mp he with he | he
              · exact ok3 e he
              · rw [List.mem_singleton.mp he]
                exact ⟨bw, by omega⟩
          · rw [show (!PyData.eqv (rowD r) (.list [])) = true by
              cases r with
              | nil => exact absurd rfl r0
              | cons x y => simp [rowD, PyData.eqv, PyData.eqvAll]]
            have nLp' := nLp
            have eL5 := SE _ _ eL4
            refine ⟨_, rfl, iteT ⟨.ref pt, rfl, pt, 4, rfl, hp5, by decide, by decide +kernel, fun dd H5 d0 d1 hp5 b5' => ⟨rfl, _, rfl, ?_⟩⟩⟩
            have b6 := b5.trans b5'
            refine ite2 (fun _ => ?_) (fun _ => ?_)
            · have eL6 := b5' _ _ nLp eL5
              have rpos : 0 < r.length := List.length_pos_iff.mpr r0
              refine ⟨.ref pt, rfl, .ref L, rfl, pt, .ref L, rfl, hp5, .inr ⟨L, _, rfl, nLp, eL6, by rw [List.length_map, en3.1]; exact rpos, by rw [List.length_map, en3.1]; omega, fun x H6 hx hp6 b7 => ?_⟩⟩
              obtain ⟨t, ht, rfl⟩ := List.mem_map.mp hx
              obtain ⟨jt, hjt, ejt⟩ := List.mem_iff_getElem.mp ht
              obtain ⟨en, hen, et⟩ := en3.2 jt t (by rw [List.getElem?_eq_getElem hjt, ejt])
              have bt := b6.trans b7
              have et6 := bt _ _ (tup_not_pot hp3 et) et
              refine ⟨t, _, 0, .str en.1, rfl, rfl, SqT.of et6, atI_nat (j := 0) rfl, ?_⟩
              have bw := (ok3 en (List.mem_of_getElem? hen)).1
              obtain ⟨bk, ebk⟩ : ∃ bk, bk = en.1 := ⟨_, rfl⟩
              rw [← ebk] at bw ⊢
              have eL4 := bt _ _ nLp eL3
              refine ⟨.ref L, rfl, .inl ⟨rfl, _, SqL.of eL4⟩, _, rfl, .ref pt, rfl, .int (nn : Int), rfl, pt, (nn : Int), rfl, hp6, by omega, log_small (by omega) (by omega), fun x H7 x0 x1 hp7 b7 => ?_⟩
              obtain ⟨n, rfl⟩ := Int.eq_ofNat_of_zero_le x0
              have b37 := bt.trans b7
              have eL5 := b7 _ _ nLp eL4
              refine ⟨(by show 2 ≤ sizeLine; decide), fun T hT => ?_⟩
              have ST := Same.new hT (o := .tup [V.str bk, .int (n : Int)])
              refine ⟨L, _, .ref T, rfl, rfl, ST _ _ eL5, by rw [List.length_map, en3.1, lr, sizeLine_eq]; omega, ?_⟩
              have nLT : L ≠ T := ne_of_none eL5 hT
              have ch6 := ((ch3.but hp3 b37).same ST)
              refine ⟨_, _, _, ts ++ [T], r ++ [(bk, n)], rfl, fun b o nb eb => ?_, ?_, ?_, by rw [upd_same, List.map_append]; rfl, ?_, by rw [List.length_append, lr]; rfl, fun e he => ?_⟩
              · rw [upd_ne (fun z => by rw [z, hLH] at eb; cases eb)]
                exact ST _ _ (b37 _ _ nb (b3 _ _ nb eb))
              · obtain ⟨u, v, ep, kp⟩ := hp7.same ST
                exact ⟨u, v, (upd_ne nLp.symm).trans ep, kp⟩
              · exact ch6.keep nLF noL (ST _ _ eL5)
              · refine ((en3.mono fun a xs e => ?_).snoc (e := (_, n)) ?_)
                · rw [upd_ne (fun z => by rw [z, eL3] at e; cases e)]
                  exact ST _ _ (b37 _ _ (tup_not_pot hp3 e) e)
                · rw [upd_ne nLT.symm]
                  exact upd_same
              · rcases List.mem_append.mp he with he | he
                · exact ok3 e he
                · rw [List.mem_singleton.mp he]
                  exact ⟨bw, by omega⟩
            · have hp6 := hp5
              have bt := b6
              have eL4 := bt _ _ nLp eL3
              refine ⟨.ref L, rfl, .inl ⟨rfl, _, SqL.of eL4⟩, _, rfl, .ref pt, rfl, .int (nn : Int), rfl, pt, (nn : Int), rfl, hp6, by omega, log_small (by omega) (by omega), fun x H7 x0 x1 hp7 b7 => ?_⟩
              obtain ⟨n, rfl⟩ := Int.eq_ofNat_of_zero_le x0
              have b37 := bt.trans b7
              have eL5 := b7 _ _ nLp eL4
              refine ⟨(by show 2 ≤ sizeLine; decide), fun T hT => ?_⟩
              have ST := Same.new hT (o := .tup [V.str bk, .int (n : Int)])
              refine ⟨L, _, .ref T, rfl, rfl, ST _ _ eL5, by rw [List.length_map, en3.1, lr, sizeLine_eq]; omega, ?_⟩
              have nLT : L ≠ T := ne_of_none eL5 hT
              have ch6 := ((ch3.but hp3 b37).same ST)
              refine ⟨_, _, _, ts ++ [T], r ++ [(bk, n)], rfl, fun b o nb eb => ?_, ?_, ?_, by rw [upd_same, List.map_append]; rfl, ?_, by rw [List.length_append, lr]; rfl, fun e he => ?_⟩
              · rw [upd_ne (fun z => by rw [z, hLH] at eb; cases eb)]
                exact ST _ _ (b37 _ _ nb (b3 _ _ nb eb))
              · obtain ⟨u, v, ep, kp⟩ := hp7.same ST
                exact ⟨u, v, (upd_ne nLp.symm).trans ep, kp⟩
              · exact ch6.keep nLF noL (ST _ _ eL5)
              · refine ((en3.mono fun a xs e => ?_).snoc (e := (_, n)) ?_)
                · rw [upd_ne (fun z => by rw [z, eL3] at e; cases e)]
                  exact ST _ _ (b37 _ _ (tup_not_pot hp3 e) e)
                · rw [upd_ne nLT.symm]
                  exact upd_same
              · rcases List.mem_append.mp he with he | he
                · exact ok3 e he
                · rw [List.mem_singleton.mp he]
                  exact ⟨bw, by omega⟩
      · rintro σ H3 ⟨r8, r9, r10, ts, r, rfl, b3, hp3, ch3, eL3, en3, lr, ok3⟩
        refine ⟨.ref F, rfl, .inl ⟨rfl, _, SqL.of ch3.e⟩, .ref L, rfl, F, _, .ref L, rfl, rfl, ch3.e, by rw [List.length_map, ch3.l, lc2, sizeLine_eq]; omega, ?_⟩
        have nFH : ∀ b o, b ≠ pt → H b = some o → b ≠ F := fun b o _ eb => ne_of_none eb hF
        refine ⟨_, _, _, _, _, _, _, rfl, fun b o nb eb => ?_, ?_, ch3.snoc (RowAt.ents eL3 en3) nLF, by rw [List.length_append, lc2]; rfl, ok2.snoc ⟨by rw [lr]; omega, ok3⟩⟩
        · rw [upd_ne (nFH b o nb eb)]
          exact b3 _ _ nb eb
        · obtain ⟨u, v, ep, kp⟩ := hp3
          exact ⟨u, v, (upd_ne nFp.symm).trans ep, kp⟩
    · rintro σ H2 ⟨r6, r7, r8, r9, r10, ls, c, rfl, b2, hp2, ch2, lc2, ok2⟩
      refine ⟨.ref F, rfl, k F c H2 b2 hp2 hF ch2.dx (by omega) (ok2.ch (by omega) (by omega) ?_)⟩
      have e1 : (c.length : Int) * 2 ^ p.toNat ≤ (c.length : Int) * 64 := Int.mul_le_mul_of_nonneg_left pw2 (by omega)
      omega
end
end K82
end

section
set_option maxHeartbeats 4000000
/-! what a coder writes; is it a clash -/
namespace K82
open PySem PySem.Spec PyProof.Rows L2
def spFollow2 (C R : Addr) : Sp := fun vs H Q _ => ∃ (a : Addr) (p q : Int) (c : Ch) (lead : Str) (tx : Addr) (ws : List Nat) (s : Nat), vs = [.ref a, .ref tx, .int (s : Int)] ∧ CodO C R H a p q c lead ∧ WfC c ∧ (∀ r ∈ c, (r.length : Int) = 2 ^ p.toNat) ∧ s < c.length ∧
  (H tx = some (.lst (intsV ws)) ∨ H tx = some (.tup (intsV ws))) ∧ ws.length ≤ 1000 ∧ (∀ w ∈ ws, (w : Int) < 2 ^ p.toNat) ∧
  ∀ (t l : Addr) (H' : Hp), Same H H' → H' t = some (.tup [.ref l, .int ((wayF c ws s).2 : Int)]) → H' l = some (.lst ((wayF c ws s).1.map V.str)) → Q (.ref t) H'
section
variable {P : Program} {w : World} {K : PySem.W.Frag} {mg : Str → Option Value} {base : Heap} {ad : Str → Addr} {fd : Str → FuncData}
theorem ok_follow2 (X : Tx K mg ad fd) (CC : CoderC K mg ad fd) (CM : CoderM K mg ad fd) : FnOk P w K mg base CX0 1 (ad "Coder.follow") (fd "Coder.follow") ["self", "text", "state"] (spFollow2 (ad "Coder") (ad "Rate")) := by
  refine CM.F_follow.ok scC_follow (fun vs H Q E h => ?_) (fun cdv A outer s H vs Q E hr h => ?_)
  · obtain ⟨a, p, q, c, lead, tx, ws, st, rfl, _⟩ := h
    rfl
  · obtain ⟨a, p, q, c, lead, tx, ws, st, rfl, ⟨dx, r, l, e, ho, hd⟩, wf, rows, sl, hv, lw, lt, k⟩ := h
    refine ⟨_, (pss_cons (ps_set (i := 3) scC_follow.nd rfl (.inl rfl) (by exact (pe_lst pa_nil)))
  (pss_cons (ps_for PassesOwn.never rfl (pi_seq (pv 1)) (pg_name (i := 4) scC_follow.nd rfl (.inl rfl))
  (pss_cons (ps_asg (by exact (pe_ix ix_list (pe_ix ix_list (pe_fld (pv 0) rfl) (pv 2) (fun _ _ => rfl)) (pv 4) (fun _ _ => rfl))) (pg_tup rfl (pgs_cons (pg_name (i := 5) scC_follow.nd rfl (.inl rfl)) (pgs_cons (pg_name (i := 2) scC_follow.nd rfl (.inl rfl)) pgs_nil))))
  (pss_one (ps_expr (by exact (pe_bm PySem.F.plainAttrs_list PySem.F.slot_list_append PySem.F.type_list_append mt_append (pv 3) (pa_cons (pv 5) pa_nil)))))))
  (pss_one (ps_ret (by exact (pe_tup (pa_cons (pv 3) (pa_cons (pv 2) pa_nil)))))))), ?_⟩
    refine ⟨Nat.zero_le _, fun B hB => ?_⟩
    have eB0 : (upd H B (.lst [])) B = some (.lst []) := upd_same
    have S0 := Same.new hB (o := .lst [])
    have nBo : ∀ {b o}, H b = some o → b ≠ B := fun e => ne_of_none e hB
    generalize (upd H B (.lst [])) = H0 at eB0 S0 ⊢
    have last : ∀ H1 : Hp, Same H H1 → H1 B = some (.lst ((wayF c ws st).1.map V.str)) → ∀ t, H1 t = none → Q (.ref t) (upd H1 t (.tup [.ref B, .int ((wayF c ws st).2 : Int)])) := fun H1 s1 eB t nt => k t B _ (Same.trans s1 (Same.new nt)) upd_same (Same.new nt _ _ eB)
    rcases hv with ex | ex
    · refine .inl ⟨.ref tx, rfl, tx, rfl, ⟨_, SqL.of (S0 _ _ ex)⟩, ?_⟩
      refine for_it (w := walk_list (K := K) (a := tx) (xs := intsV ws)) (fun i σ H' => ∃ r4 r5, σ = [some (.ref a), some (.ref tx), some (.int (((wayF c (ws.take i) st).2 : Nat) : Int)), some (.ref B), r4, r5] ∧ Same H H' ∧ H' B = some (.lst ((wayF c (ws.take i) st).1.map V.str)) ∧ (wayF c (ws.take i) st).2 < c.length)
        ⟨_, _, rfl, S0, eB0, sl⟩ (fun i σ H' _ ⟨_, _, _, s, _⟩ => SqL.of (s _ _ ex)) ?_ ?_
      · rintro i x σ H1x H1 hi ⟨r4, r5, rfl, s1, eB, sl1⟩ ⟨rfl, hx⟩
        have hxw : (ws.map fun (t : Nat) => V.int (t : Int))[i]? = some x := hx
        rw [List.getElem?_map] at hxw
        cases ew : ws[i]? with
        | none => rw [ew] at hxw; cases hxw
        | some wv =>
          rw [ew] at hxw
          obtain rfl : V.int (wv : Int) = x := Option.some.inj hxw
          have tj : ws.take (i + 1) = ws.take i ++ [wv] := by rw [List.take_add_one, ew]; rfl
          rw [tj, wayF_snoc]
          have lB := wayF_len c (ws.take i) st
          have li : (ws.take i).length ≤ 1000 := by rw [List.length_take]; omega
          generalize wayF c (ws.take i) st = y at eB sl1 lB ⊢
          obtain ⟨bl, s⟩ := y
          replace sl1 : s < c.length := sl1
          replace lB : bl.length = (ws.take i).length := lB
          have e1 := s1 _ _ e
          obtain ⟨l', vs, b, el, ev, lv, hb, db⟩ := chD_row (hd.same s1) sl1
          cases el
          obtain ⟨ts, et, lts, kt⟩ := rowAt_of db
          have wl : wv < (rowC c s).length := by
            have h1 := lt wv (List.mem_of_getElem? ew)
            have h2 : (rowC c s) ∈ c := by
              unfold rowC
              rw [List.getD_eq_getElem?_getD, List.getElem?_eq_getElem sl1]
              exact List.getElem_mem sl1
            have h3 := rows _ h2
            omega
          obtain ⟨t, htt⟩ : ∃ t, ts[wv]? = some t := ⟨_, List.getElem?_eq_getElem (by omega)⟩
          obtain ⟨en, hen, het⟩ := kt wv t htt
          have hg : (rowC c s).getD wv ("", 0) = en := by rw [List.getD_eq_getElem?_getD, hen]; rfl
          rw [hg]
          have en2 : en.2 < c.length := rowC_lt wf (List.mem_of_getElem? hen)
          refine ⟨.ref a, rfl, a, _, dx, _, _, rfl, e1, CC.cl, CC.nc, rfl, .int (s : Int), rfl, l, _, (s : Int), .ref b, rfl, rfl, SqL.of ev, atI_nat hb, .int (wv : Int), rfl, b, _, (wv : Int), .ref t, rfl, rfl, SqL.of et, atI_nat (by rw [List.getElem?_map, htt]; rfl), ?_⟩
          refine ⟨t, [.str en.1, .int (en.2 : Int)], rfl, SqT.of het, rfl, .str en.1, _, rfl, .int (en.2 : Int), _, rfl, rfl, ?_⟩
          refine ⟨.ref B, rfl, .inl ⟨rfl, _, SqL.of eB⟩, .str en.1, rfl, B, _, _, rfl, rfl, eB, by rw [List.length_map, lB, sizeLine_eq]; omega, ?_⟩
          refine ⟨_, _, rfl, fun b' u eb' => ?_, ?_, en2⟩
          · rw [upd_ne (nBo eb')]
            exact s1 _ _ eb'
          · rw [upd_same, List.map_append]; rfl
      · rintro σ H1 ⟨r4, r5, rfl, s1, eB, sl1⟩
        rw [intsV_length, List.take_length] at eB
        refine ⟨.ref B, rfl, _, rfl, sz2, fun t nt => ?_⟩
        rw [intsV_length, List.take_length]
        exact last H1 s1 eB t nt
    · refine .inr ⟨.ref tx, rfl, tx, rfl, ⟨_, SqT.of (S0 _ _ ex)⟩, ?_⟩
      refine for_it (w := walk_tup (K := K) (a := tx) (xs := intsV ws)) (fun i σ H' => ∃ r4 r5, σ = [some (.ref a), some (.ref tx), some (.int (((wayF c (ws.take i) st).2 : Nat) : Int)), some (.ref B), r4, r5] ∧ Same H H' ∧ H' B = some (.lst ((wayF c (ws.take i) st).1.map V.str)) ∧ (wayF c (ws.take i) st).2 < c.length)
        ⟨_, _, rfl, S0, eB0, sl⟩ (fun i σ H' _ ⟨_, _, _, s, _⟩ => SqT.of (s _ _ ex)) ?_ ?_
      · rintro i x σ H1x H1 hi ⟨r4, r5, rfl, s1, eB, sl1⟩ ⟨rfl, hx⟩
        have hxw : (ws.map fun (t : Nat) => V.int (t : Int))[i]? = some x := hx
        rw [List.getElem?_map] at hxw
        cases ew : ws[i]? with
        | none => rw [ew] at hxw; cases hxw
        | some wv =>
          rw [ew] at hxw
          obtain rfl : V.int (wv : Int) = x := Option.some.inj hxw
          have tj : ws.take (i + 1) = ws.take i ++ [wv] := by rw [List.take_add_one, ew]; rfl
          rw [tj, wayF_snoc]
          have lB := wayF_len c (ws.take i) st
          have li : (ws.take i).length ≤ 1000 := by rw [List.length_take]; omega
          generalize wayF c (ws.take i) st = y at eB sl1 lB ⊢
          obtain ⟨bl, s⟩ := y
          replace sl1 : s < c.length := sl1
          replace lB : bl.length = (ws.take i).length := lB
          have e1 := s1 _ _ e
          obtain ⟨l', vs, b, el, ev, lv, hb, db⟩ := chD_row (hd.same s1) sl1
          cases el
          obtain ⟨ts, et, lts, kt⟩ := rowAt_of db
          have wl : wv < (rowC c s).length := by
            have h1 := lt wv (List.mem_of_getElem? ew)
            have h2 : (rowC c s) ∈ c := by
              unfold rowC
              rw [List.getD_eq_getElem?_getD, List.getElem?_eq_getElem sl1]
              exact List.getElem_mem sl1
            have h3 := rows _ h2
            omega
          obtain ⟨t, htt⟩ : ∃ t, ts[wv]? = some t := ⟨_, List.getElem?_eq_getElem (by omega)⟩
          obtain ⟨en, hen, het⟩ := kt wv t htt
          have hg : (rowC c s).getD wv ("", 0) = en := by rw [List.getD_eq_getElem?_getD, hen]; rfl
          rw [hg]
          have en2 : en.2 < c.length := rowC_lt wf (List.mem_of_getElem? hen)
          refine ⟨.ref a, rfl, a, _, dx, _, _, rfl, e1, CC.cl, CC.nc, rfl, .int (s : Int), rfl, l, _, (s : Int), .ref b, rfl, rfl, SqL.of ev, atI_nat hb, .int (wv : Int), rfl, b, _, (wv : Int), .ref t, rfl, rfl, SqL.of et, atI_nat (by rw [List.getElem?_map, htt]; rfl), ?_⟩
          refine ⟨t, [.str en.1, .int (en.2 : Int)], rfl, SqT.of het, rfl, .str en.1, _, rfl, .int (en.2 : Int), _, rfl, rfl, ?_⟩
          refine ⟨.ref B, rfl, .inl ⟨rfl, _, SqL.of eB⟩, .str en.1, rfl, B, _, _, rfl, rfl, eB, by rw [List.length_map, lB, sizeLine_eq]; omega, ?_⟩
          refine ⟨_, _, rfl, fun b' u eb' => ?_, ?_, en2⟩
          · rw [upd_ne (nBo eb')]
            exact s1 _ _ eb'
          · rw [upd_same, List.map_append]; rfl
      · rintro σ H1 ⟨r4, r5, rfl, s1, eB, sl1⟩
        rw [intsV_length, List.take_length] at eB
        refine ⟨.ref B, rfl, _, rfl, sz2, fun t nt => ?_⟩
        rw [intsV_length, List.take_length]
        exact last H1 s1 eB t nt
end
end K82
end

section
set_option maxHeartbeats 4000000
/-! is it a clash -/
namespace K82
open PySem PySem.Spec PyProof.Rows L2
def natsD (ds : List PyData) : List Nat := ds.map fun d => match d with
  | .int i => i.toNat
  | _ => 0
def intsD (l : List Nat) : List PyData := l.map fun (n : Nat) => .int (n : Int)
/-- is it a clash of the table c -/
def clashD (c : Ch) (n : Int) : PyData → Bool
  | .tuple [x, y] => textD n x && textD n y && !decide (natsD (elsD x) = natsD (elsD y)) && decide (wayF c (natsD (elsD x)) 0 = wayF c (natsD (elsD y)) 0)
  | _ => false
theorem between_nat {lo hi : Int} {d : PyData} (h : betweenD 0 hi d = true) : ∃ n : Nat, d = .int (n : Int) ∧ (n : Int) ≤ hi := by
  cases d with
  | int i =>
    have h' : (decide (0 ≤ i) && decide (i ≤ hi)) = true := h
    rw [Bool.and_eq_true] at h'
    have h1 := of_decide_eq_true h'.1
    have h2 := of_decide_eq_true h'.2
    exact ⟨i.toNat, by rw [Int.toNat_of_nonneg h1], by omega⟩
  | _ => cases h
theorem nats_of : ∀ {ds : List PyData} {n : Int}, ds.all (betweenD 0 (n - 1)) = true → ds = intsD (natsD ds) ∧ ∀ w ∈ natsD ds, (w : Int) < n
  | [], _, _ => ⟨rfl, fun w h => by cases h⟩
  | d :: ds, n, h => by
    rw [List.all_cons, Bool.and_eq_true] at h
    obtain ⟨k, rfl, hk⟩ := between_nat (lo := 0) h.1
    obtain ⟨e, l⟩ := nats_of h.2
    have ek : natsD (.int (k : Int) :: ds) = k :: natsD ds := rfl
    rw [ek]
    refine ⟨?_, fun w hw => ?_⟩
    · show _ = .int (k : Int) :: intsD (natsD ds)
      rw [← e]
    · rcases List.mem_cons.mp hw with z | z
      · rw [z]; omega
      · exact l w z
theorem text_nats {n : Int} {d : PyData} (h : textD n d = true) : isSeqD d = true ∧ elsD d = intsD (natsD (elsD d)) ∧ ∀ w ∈ natsD (elsD d), (w : Int) < n := by
  unfold textD at h
  rw [Bool.and_eq_true] at h
  exact ⟨h.1, nats_of h.2⟩
theorem dx_intsV {H : Hp} : ∀ {l : List Nat} {vs : List V}, DxAll H vs (intsD l) → vs = intsV l
  | [], [], _ => rfl
  | _ :: _, _ :: _, h => by
    cases h with
    | cons a b =>
      cases a
      rw [dx_intsV b]; rfl
theorem dx_ints {H : Hp} : ∀ l : List Nat, DxAll H (intsV l) (intsD l)
  | [] => .nil
  | n :: l => .cons (.int _) (dx_ints l)
def isTup : PyData → Bool
  | .tuple _ => true
  | _ => false
theorem kit_t (d : PyData) : kitB (tyN d) "tuple" = some (isTup d) :=
  match d with
  | .none => (by decide +kernel : kitB "NoneType" "tuple" = some false)
  | .bool _ => (by decide +kernel : kitB "bool" "tuple" = some false)
  | .int _ => (by decide +kernel : kitB "int" "tuple" = some false)
  | .str _ => (by decide +kernel : kitB "str" "tuple" = some false)
  | .list _ => (by decide +kernel : kitB "list" "tuple" = some false)
  | .tuple _ => (by decide +kernel : kitB "tuple" "tuple" = some true)
  | .dict _ => (by decide +kernel : kitB "dict" "tuple" = some false)
theorem ints_eqv (l m : List Nat) : PyData.eqv (.list (intsD l)) (.list (intsD m)) = decide (l = m) := by
  rw [show PyData.eqv (.list (intsD l)) (.list (intsD m)) = PyData.eqvAll (intsD l) (intsD m) by simp [PyData.eqv]]
  refine eqv_map (fun x y => ?_) l m
  simp only [PyData.eqv]
  rw [Bool.eq_iff_iff]
  simp
  omega
theorem ints_shaped (l : List Nat) : SeqAt.shaped (.list (intsD l)) = true := by
  unfold SeqAt.shaped
  rw [Bool.and_eq_true]
  constructor
  · simp only [PyData.canLay0]
    exact can_map fun x _ => by simp only [PyData.canLay0]
  · refine decide_eq_true ?_
    have : PyData.depthAll (intsD l) ≤ 1 := depth_map fun x _ => by simp only [PyData.depth]; omega
    simp only [PyData.depth]
    omega
theorem ints_plain (l : List Nat) : plainD (.list (intsD l)) = true := by
  simp only [plainD]
  exact plain_map fun x _ => rfl
def wayD (y : List Str × Nat) : PyData := .tuple [.list (y.1.map PyData.str), .int (y.2 : Int)]
theorem way_eqv (y z : List Str × Nat) : PyData.eqv (wayD y) (wayD z) = decide (y = z) := by
  obtain ⟨a, i⟩ := y
  obtain ⟨b, j⟩ := z
  have e : PyData.eqvAll (a.map PyData.str) (b.map PyData.str) = decide (a = b) := eqv_map (fun x y => by simp only [PyData.eqv]; rw [Bool.eq_iff_iff]; simp) a b
  rw [Bool.eq_iff_iff]
  simp only [wayD, PyData.eqv, PyData.eqvAll, e, Bool.and_eq_true, decide_eq_true_eq, Prod.mk.injEq, beq_iff_eq, and_true]
  constructor
  · rintro ⟨h1, h2⟩
    exact ⟨h1, by omega⟩
  · rintro ⟨h1, h2⟩
    exact ⟨h1, by omega⟩
theorem way_shaped {y : List Str × Nat} (h : ∀ z ∈ y.1, wordD (.str z) = true) : SeqAt.shaped (wayD y) = true := by
  unfold SeqAt.shaped
  rw [Bool.and_eq_true]
  constructor
  · simp only [wayD, PyData.canLay0, PyData.canLayAll0, Bool.and_true]
    exact can_map fun z hz => by simp only [PyData.canLay0]; exact word_ok (h z hz)
  · refine decide_eq_true ?_
    have : PyData.depthAll (y.1.map PyData.str) ≤ 1 := depth_map fun x _ => by simp only [PyData.depth]; omega
    simp only [wayD, PyData.depth, PyData.depthAll]
    omega
theorem way_plain (y : List Str × Nat) : plainD (wayD y) = true := by
  simp only [wayD, plainD, plainAll, Bool.and_true]
  exact plain_map fun x _ => rfl
theorem dx_strs {H : Hp} : ∀ l : List Str, DxAll H (l.map V.str) (l.map PyData.str)
  | [] => .nil
  | z :: l => .cons (.str z) (dx_strs l)
theorem way_dx {H : Hp} {t l : Addr} {y : List Str × Nat} (e : H t = some (.tup [.ref l, .int (y.2 : Int)])) (el : H l = some (.lst (y.1.map V.str))) : Dx H (.ref t) (wayD y) :=
  .tup e (.cons (.lst el (dx_strs y.1)) (.cons (.int _) .nil))
theorem way_words {c : Ch} (ob : okBlocks c) : ∀ (ws : List Nat) (s : Nat), ∀ z ∈ (wayF c ws s).1, wordD (.str z) = true
  | [], _, z, h => by cases h
  | w :: ws, s, z, h => by
    rcases List.mem_cons.mp (show z ∈ ((rowC c s).getD w ("", 0)).1 :: (wayF c ws ((rowC c s).getD w ("", 0)).2).1 from h) with y | y
    · rw [y, List.getD_eq_getElem?_getD]
      cases e : (rowC c s)[w]? with
      | none => rfl
      | some en =>
        have he := List.mem_of_getElem? e
        have hr : rowC c s ∈ c := by
          unfold rowC at he ⊢
          rw [List.getD_eq_getElem?_getD] at he ⊢
          cases q : c[s]? with
          | none => rw [q] at he; cases he
          | some r => exact List.mem_of_getElem? q
        exact ob _ hr en he
    · exact way_words ob ws _ z y
def spIsClash (C R : Addr) : Sp := fun vs H Q _ => ∃ (a : Addr) (p q : Int) (c : Ch) (lead : Str) (v : V) (d : PyData), vs = [.ref a, v] ∧ CodO C R H a p q c lead ∧ fitP p q ∧ WfC c ∧ (∀ r ∈ c, (r.length : Int) = 2 ^ p.toNat) ∧ okBlocks c ∧ Dx H v d ∧
  (∀ x ∈ elsD d, (∀ e ∈ elsD x, Tame e) ∧ (elsD x).length ≤ 1000) ∧ (elsD d).length ≤ 1000 ∧ ∀ H', Same H H' → Q (.bl (clashD c (2 ^ p.toNat) d)) H'
section
variable {P : Program} {w : World} {K : PySem.W.Frag} {mg : Str → Option Value} {base : Heap} {ad : Str → Addr} {fd : Str → FuncData}
theorem scIsClash : FnScope ["coder", "value", "one", "other", "text"] ["coder", "value"] (defScope sIsClash) := ⟨rfl, rfl, rfl, by decide +kernel, rfl, by decide +kernel, by decide +kernel⟩
theorem ok_is_clash (X : Tx K mg ad fd) (RC : RateC K mg ad fd) (CC : CoderC K mg ad fd) (CM : CoderM K mg ad fd) (CP : CoderP K mg ad fd) (CE : CoderE K mg ad fd) (CH : CoderW K mg ad fd) : FnOk P w K mg base CX0 4 (ad "is_clash") (fd "is_clash") ["coder", "value"] (spIsClash (ad "Coder") (ad "Rate")) := by
  have G_check_coder := ok_check_coder (P := P) (w := w) (base := base) X RC CC CE
  have G_is_text := ok_is_text (P := P) (w := w) (base := base) X
  have G_follow := ok_follow2 (P := P) (w := w) (base := base) X CC CM
  refine X.F_is_clash.ok scIsClash (fun vs H Q E h => ?_) (fun cdv A outer s H vs Q E hr h => ?_)
  · obtain ⟨a, p, q, c, lead, v, d, rfl, _⟩ := h
    rfl
  · obtain ⟨a, p, q, c, lead, v, d, rfl, cod, fit, wf, rows, ob, hd, tm, ln, k⟩ := h
    have HR_check_coder : Room 1 _ := hr.mono (by decide)
    have HR_is_text : Room 3 _ := hr
    have HR_follow : Room 1 _ := hr.mono (by decide)
    have HRP : Room 2 _ := hr.mono (by decide)
    have HR2 : Room 2 _ := hr.mono (by decide)
    have hu64 : (A.deeper (envOfC "is_clash" (defScope sIsClash) s.heap.objs.size (ad "is_clash") cdv)).units + 64 < cLine := hr.units
    refine ⟨_, (pss_cons (ps_expr (by exact (pe_call G_check_coder HR_check_coder (by rfl) X.g_check_coder X.F_check_coder.kp X.b_check_coder .nil pass0 (pa_cons (pv 0) pa_nil))))
  (pss_cons (ps_if (PW.pt (pw_or (pt_not (pt_val (pe_callB call_isi (by rfl) X.m_isinstance (by decide +kernel) (pa_cons (pv 1) (pa_cons (pe_bltn (v := .ty "tuple") (by rfl) X.m_tuple (by decide +kernel) rfl) pa_nil))))) (pw_or1 (pt_cmpR op_ne (pe_callB call_len (by rfl) X.m_len (by decide +kernel) (pa_cons (pv 1) pa_nil)) pe_int (nomark _)))))
  (pss_one (ps_ret (by exact pe_bl)))
  pss_nil)
  (pss_cons (ps_if (pt_not (pt_val (pe_callB (cr_all rfl) (by rfl) X.m_all (by decide +kernel) (pa_cons (pe_lc (own := [("text", 4)]) (g := gName 4) rfl scIsClash.nd (pi_tup (pv 1)) (blkOk_by (own := [("text", 4)]) (N := ["coder", "value", "one", "other", "text"]) (sc := defScope sIsClash) (by decide +kernel)) (fun _ _ _ _ _ => pg_name (i := 4) scIsClash.nd rfl (Or.inl rfl)) (fun _ _ _ _ _ => pts_nil) (fun _ _ _ _ _ => (pe_call G_is_text HR_is_text (by rfl) X.g_is_text X.F_is_text.kp X.b_is_text .nil pass0 (pa_cons (pv 4) (pa_cons (pe_prop_size RC HRP (pe_prop (pv 0) CC.cl CP.pr (ok_crate CC CM) HR2 CM.b_rate .nil pass0 rfl) rfl) pa_nil))))) pa_nil))))
  (pss_one (ps_ret (by exact pe_bl)))
  pss_nil)
  (pss_cons (ps_asg (by exact (pv 1)) (pg_tup rfl (pgs_cons (pg_name (i := 2) scIsClash.nd rfl (.inl rfl)) (pgs_cons (pg_name (i := 3) scIsClash.nd rfl (.inl rfl)) pgs_nil))))
  (pss_one (ps_ret (by exact (pe_and (pe_cmpR (op_neD hu64) (pe_callTy call_list_of (by rfl) X.m_list (by decide +kernel) (pa_cons (pv 2) pa_nil)) (pe_callTy call_list_of (by rfl) X.m_list (by decide +kernel) (pa_cons (pv 3) pa_nil)) (nomark _)) (pe_one (pe_cmpR (op_eqD hu64) (pe_meth (pv 0) CC.cl CH.m_follow G_follow HR_follow CM.b_follow .nil pass0 (pa_cons (pv 2) (pa_cons pe_int pa_nil))) (pe_meth (pv 0) CC.cl CH.m_follow G_follow HR_follow CM.b_follow .nil pass0 (pa_cons (pv 3) (pa_cons pe_int pa_nil))) (nomark _))))))))))), ?_⟩
    refine ⟨.ref a, rfl, a, p, q, c, lead, rfl, cod, v, rfl, v, .ty "tuple", _, _, _, rfl, .ty _, dx_ty hd, kit_ty (kit_t d), _, rfl, ?_⟩
    have q0 := k H Same.refl
    cases hd with
    | @tup a' vs ds ea all =>
      refine ifF rfl ?_
      have lv : vs.length = ds.length := all.length
      refine ⟨.ref a', rfl, .ref a', _, rfl, .inr ⟨_, SqT.of ea, rfl⟩, rfl, _, rfl, ?_⟩
      by_cases l2 : ds.length = 2
      · refine ifF (by rw [lv, l2]; rfl) ?_
        match ds, vs, all, l2 with
        | [x, y], [vx, vy], .cons hx (.cons hy .nil), _ =>
          obtain ⟨tx, lx⟩ := tm x (by simp [elsD])
          obtain ⟨ty, ly⟩ := tm y (by simp [elsD])
          obtain ⟨dxc, r, l, ec, ho, hdc⟩ := id cod
          refine ⟨.ref a', rfl, a', rfl, ⟨_, SqT.of ea⟩, fun D hD => ?_⟩
          refine lc_map (w := walk_tup (K := K) (a := a') (xs := [vx, vy])) (fun i => V.bl ([textD (2 ^ p.toNat) x, textD (2 ^ p.toNat) y].getD i false)) hD (show 2 ≤ 100000 by decide) (fun i Hc _ sc => SqT.of (sc _ _ ea)) (fun _ => rfl) (fun i x' Hc Hd hi sc yy => ?_) (fun H1 s1 eD => ?_)
          · obtain ⟨rfl, hx'⟩ := yy
            refine ⟨Same.refl, fun Q' hQ => ?_⟩
            have two : ∃ d', Dx H x' d' ∧ (∀ e ∈ elsD d', Tame e) ∧ (elsD d').length ≤ 1000 ∧ textD (2 ^ p.toNat) d' = [textD (2 ^ p.toNat) x, textD (2 ^ p.toNat) y].getD i false := by
              match i, hx' with
              | 0, hx' => cases hx'; exact ⟨x, hx, tx, lx, rfl⟩
              | 1, hx' => cases hx'; exact ⟨y, hy, ty, ly, rfl⟩
              | i + 2, hx' => cases hx'
            obtain ⟨d', h1, h2, h3, h4⟩ := two
            refine ⟨x', rfl, .ref a, rfl, a, dxc, _, rfl, sc _ _ ec, a, p, q, c, lead, rfl, cod.same sc, fun r hr' => ?_⟩
            obtain ⟨dr, er⟩ := id hr'
            refine ⟨r, dr, _, rfl, er, r, p, q, rfl, hr', fit, x', d', 2 ^ p.toNat, rfl, h1.same sc, h2, h3, fun H2 s2 => ?_⟩
            rw [h4]
            exact hQ H2 s2
          · refine ⟨D, [textD (2 ^ p.toNat) x, textD (2 ^ p.toNat) y], rfl, SqL.of eD, ?_⟩
            have ea1 := s1 _ _ ea
            have al : ([textD (2 ^ p.toNat) x, textD (2 ^ p.toNat) y]).all id = (textD (2 ^ p.toNat) x && textD (2 ^ p.toNat) y) := by simp
            rw [al]
            have q1 := k H1 s1
            by_cases tt : (textD (2 ^ p.toNat) x && textD (2 ^ p.toNat) y) = true
            · refine ⟨_, rfl, ifF (by rw [tt]; rfl) ?_⟩
              rw [Bool.and_eq_true] at tt
              obtain ⟨sx, nx, wx⟩ := text_nats tt.1
              obtain ⟨sy, ny, wy⟩ := text_nats tt.2
              obtain ⟨ax, xs, rfl, hax, alx⟩ := seq_of hx sx
              obtain ⟨ay, ys, rfl, hay, aly⟩ := seq_of hy sy
              rw [nx] at alx
              rw [ny] at aly
              have exs := dx_intsV alx
              have eys := dx_intsV aly
              subst exs eys
              have lnx : (natsD (elsD x)).length ≤ 1000 := by unfold natsD; rw [List.length_map]; exact lx
              have lny : (natsD (elsD y)).length ≤ 1000 := by unfold natsD; rw [List.length_map]; exact ly
              have cv : clashD c (2 ^ p.toNat) (.tuple [x, y]) = (!decide (natsD (elsD x) = natsD (elsD y)) && decide (wayF c (natsD (elsD x)) 0 = wayF c (natsD (elsD y)) 0)) := by
                show (textD (2 ^ p.toNat) x && textD (2 ^ p.toNat) y && !decide (natsD (elsD x) = natsD (elsD y)) && decide (wayF c (natsD (elsD x)) 0 = wayF c (natsD (elsD y)) 0)) = _
                rw [tt.1, tt.2]; rfl
              rw [cv] at k
              generalize natsD (elsD x) = W1 at alx wx lnx hax k
              generalize natsD (elsD y) = W2 at aly wy lny hay k
              have hax1 : SqL K H1 ax (intsV W1) ∨ SqT K H1 ax (intsV W1) := hax.elim (fun z => .inl (SqL.of (s1 _ _ z))) fun z => .inr (SqT.of (s1 _ _ z))
              refine ⟨.ref a', rfl, a', _, rfl, SqT.of ea1, rfl, .ref ax, _, rfl, .ref ay, _, rfl, rfl, ?_⟩
              refine ⟨.ref ax, rfl, ax, intsV W1, rfl, hax1, fun L1 n1 => ⟨.ref ay, rfl, ay, intsV W2, rfl, hay.elim (fun z => .inl (SqL.of (Same.new n1 _ _ (s1 _ _ z)))) (fun z => .inr (SqT.of (Same.new n1 _ _ (s1 _ _ z)))), fun L2 n2 => ?_⟩⟩
              have sL := Same.trans s1 (Same.trans (Same.new n1 (o := .lst (intsV W1))) (Same.new n2 (o := .lst (intsV W2))))
              have eL1 : (upd (upd H1 L1 (.lst (intsV W1))) L2 (.lst (intsV W2))) L1 = some (.lst (intsV W1)) := Same.new n2 _ _ upd_same
              have eL2 : (upd (upd H1 L1 (.lst (intsV W1))) L2 (.lst (intsV W2))) L2 = some (.lst (intsV W2)) := upd_same
              generalize (upd (upd H1 L1 (.lst (intsV W1))) L2 (.lst (intsV W2))) = H2 at sL eL1 eL2 ⊢
              refine ⟨.list (intsD W1), .list (intsD W2), Dx.dp (.lst eL1 (dx_ints W1)) (ints_plain W1), Dx.dp (.lst eL2 (dx_ints W2)) (ints_plain W2), ints_shaped W1, ints_shaped W2, _, rfl, ?_⟩
              rw [ints_eqv]
              by_cases ne : W1 = W2
              · refine ifF (by rw [decide_eq_true ne]; rfl) ?_
                have := k H2 sL
                rw [decide_eq_true ne] at this
                exact this
              · refine ifT (by rw [decide_eq_false ne]; rfl) ?_
                have hh : ∀ {b : Addr} {W : List Nat}, (H b = some (.lst (intsV W)) ∨ H b = some (.tup (intsV W))) → ∀ {H' : Hp}, Same H H' → (H' b = some (.lst (intsV W)) ∨ H' b = some (.tup (intsV W))) := by
                  intro b W h H' s
                  exact h.elim (fun z => .inl (s _ _ z)) fun z => .inr (s _ _ z)
                refine ⟨.ref a, rfl, a, dxc, _, rfl, sL _ _ ec, rfl, .ref ax, rfl, a, p, q, c, lead, ax, W1, 0, rfl, cod.same sL, wf, rows, wf.1, hh hax sL, lnx, wx, fun t1 l1 H3 s3 et1 el1 => ?_⟩
                have s13 := Same.trans sL s3
                refine ⟨.ref a, rfl, a, dxc, _, rfl, s13 _ _ ec, rfl, .ref ay, rfl, a, p, q, c, lead, ay, W2, 0, rfl, cod.same s13, wf, rows, wf.1, hh hay s13, lny, wy, fun t2 l2 H4 s4 et2 el2 => ?_⟩
                have w1 : Dx H4 (.ref t1) (wayD (wayF c W1 0)) := way_dx (s4 _ _ et1) (s4 _ _ el1)
                have w2 : Dx H4 (.ref t2) (wayD (wayF c W2 0)) := way_dx et2 el2
                refine ⟨_, _, w1.dp (way_plain _), w2.dp (way_plain _), way_shaped (way_words ob W1 0), way_shaped (way_words ob W2 0), ?_⟩
                rw [way_eqv]
                have := k H4 (Same.trans s13 s4)
                rw [decide_eq_false ne] at this
                exact this
            · refine ⟨_, rfl, ifT (by rw [Bool.eq_false_iff.mpr tt]; rfl) ?_⟩
              have cv : clashD c (2 ^ p.toNat) (.tuple [x, y]) = false := by
                show (textD (2 ^ p.toNat) x && textD (2 ^ p.toNat) y && !decide (natsD (elsD x) = natsD (elsD y)) && decide (wayF c (natsD (elsD x)) 0 = wayF c (natsD (elsD y)) 0)) = _
                rw [Bool.eq_false_iff.mpr tt]; rfl
              rw [cv] at q1
              exact q1
      · have cv : clashD c (2 ^ p.toNat) (.tuple ds) = false := by
          match ds, l2 with
          | [], _ => rfl
          | [_], _ => rfl
          | [_, _], l2 => exact absurd rfl l2
          | _ :: _ :: _ :: _, _ => rfl
        rw [cv] at q0
        refine ifT ?_ ?_
        · rw [lv]
          show (!decide (V.int ((ds.length : Nat) : Int) = V.int 2)) = true
          rw [show (2 : Int) = ((2 : Nat) : Int) from rfl, dec_nat, decide_eq_false l2]
          rfl
        · exact q0
    | _ =>
      refine ifT rfl ?_
      exact q0
end
end K82
end

section
set_option maxHeartbeats 4000000
/-! a text run -/
namespace K82
open PySem PySem.Spec PyProof.Rows L2
def catS (lead : Str) (bs : List Str) : Str := bs.foldl (· ++ ·) lead
theorem catS_snoc (lead : Str) (bs : List Str) (b : Str) : catS lead (bs ++ [b]) = catS lead bs ++ b := by
  unfold catS
  rw [List.foldl_append]
  rfl
theorem sL_cat (lead : Str) : ∀ bs : List Str, sL (catS lead bs) = sL lead ++ (bs.map sL).flatten := fun bs => by
  induction bs generalizing lead with
  | nil => simp [catS]
  | cons b bs ih =>
    show sL (catS (lead ++ b) bs) = _
    rw [ih, sL_app]
    simp
theorem catS_len {q : Nat} (lead : Str) : ∀ {bs : List Str}, (∀ b ∈ bs, b.length = q) → (catS lead bs).length = lead.length + bs.length * q := fun {bs} h => by
  have e := congrArg List.length (sL_cat lead bs)
  rw [sL_len, List.length_append, sL_len, flat_len (q := q) (fun b hb => by
    obtain ⟨x, hx, rfl⟩ := List.mem_map.mp hb
    rw [sL_len]
    exact h x hx), List.length_map] at e
  exact e
def runF (c : Ch) (lead : Str) (ws : List Nat) : Str := catS lead (wayF c ws 0).1
theorem run_snoc (c : Ch) (lead : Str) (ws : List Nat) (w : Nat) : runF c lead (ws ++ [w]) = runF c lead ws ++ (cellC c (wayF c ws 0).2 w).1 := by
  unfold runF
  rw [wayF_snoc, catS_snoc]
  rfl
theorem way_snoc2 (c : Ch) (ws : List Nat) (w : Nat) : (wayF c (ws ++ [w]) 0).2 = (cellC c (wayF c ws 0).2 w).2 := by
  rw [wayF_snoc]
  rfl
theorem rowC_in {c : Ch} {s : Nat} (h : s < c.length) : rowC c s ∈ c := by
  unfold rowC
  rw [List.getD_eq_getElem?_getD, List.getElem?_eq_getElem h]
  exact List.getElem_mem h
theorem cell_in {c : Ch} {s w sz : Nat} (h : s < c.length) (rl : ∀ r ∈ c, r.length = sz) (hw : w < sz) : (rowC c s)[w]? = some (cellC c s w) ∧ cellC c s w ∈ rowC c s := by
  have l := rl _ (rowC_in h)
  have e : (rowC c s)[w]? = some (cellC c s w) := by
    unfold cellC
    rw [List.getD_eq_getElem?_getD, List.getElem?_eq_getElem (by omega)]
    rfl
  exact ⟨e, List.mem_of_getElem? e⟩
theorem way_ok {c : Ch} {sz q : Nat} (wf : WfC c) (rl : ∀ r ∈ c, r.length = sz) (bl : ∀ r ∈ c, ∀ e ∈ r, e.1.length = q) : ∀ {ws : List Nat} {s : Nat}, (∀ w ∈ ws, w < sz) → s < c.length → (wayF c ws s).2 < c.length ∧ ∀ b ∈ (wayF c ws s).1, b.length = q
  | [], s, _, hs => ⟨hs, fun b hb => by cases hb⟩
  | w :: ws, s, h, hs => by
    have hw := cell_in hs rl (h w (List.mem_cons_self ..))
    have lt := rowC_lt wf hw.2
    obtain ⟨h1, h2⟩ := way_ok wf rl bl (ws := ws) (s := (cellC c s w).2) (fun x hx => h x (List.mem_cons_of_mem _ hx)) lt
    refine ⟨h1, fun b hb => ?_⟩
    rcases List.mem_cons.mp (show b ∈ (cellC c s w).1 :: (wayF c ws (cellC c s w).2).1 from hb) with z | z
    · rw [z]
      exact bl _ (rowC_in hs) _ hw.2
    · exact h2 b z
def spRun : Sp := fun vs H Q _ => ∃ (v : V) (c : Ch) (lead : Str) (tx : Addr) (ws : List Nat) (sz q : Nat), vs = [v, .str lead, .ref tx] ∧ Dx H v (chD c) ∧ WfC c ∧ (∀ r ∈ c, r.length = sz) ∧ (∀ r ∈ c, ∀ e ∈ r, e.1.length = q) ∧ q ≤ 6 ∧ lead.length ≤ 2000 ∧ (H tx = some (.lst (intsV ws)) ∨ H tx = some (.tup (intsV ws))) ∧ ws.length ≤ 1000 ∧ (∀ w ∈ ws, w < sz) ∧
  ∀ (t : Addr) (H' : Hp), Same H H' → H' t = some (.tup [.str (runF c lead ws), .int ((wayF c ws 0).2 : Int)]) → Q (.ref t) H'
section
variable {P : Program} {w : World} {K : PySem.W.Frag} {mg : Str → Option Value} {base : Heap} {ad : Str → Addr} {fd : Str → FuncData}
theorem scRun : FnScope ["_law_codes_here", "_law_lead_word", "_law_text_here", "_law_found", "_law_spot", "_law_word", "_law_block"] ["_law_codes_here", "_law_lead_word", "_law_text_here"] (defScope sRun) := ⟨rfl, rfl, rfl, by decide +kernel, rfl, by decide +kernel, by decide +kernel⟩
theorem ok_run (X : Tx K mg ad fd) : FnOk P w K mg base CX0 1 (ad "_law_run") (fd "_law_run") ["_law_codes_here", "_law_lead_word", "_law_text_here"] spRun := by
  refine X.F__law_run.ok scRun (fun vs H Q E h => ?_) (fun cdv A outer s H vs Q E hr h => ?_)
  · obtain ⟨v, c, lead, tx, ws, sz, q, rfl, _⟩ := h
    rfl
  · obtain ⟨v, c, lead, tx, ws, sz, q, rfl, hc, wf, rl, bl, q6, ll, ex, lw, wlt, k⟩ := h
    refine ⟨_, (pss_cons (ps_par (i := 3) (j := 4) rfl scRun.nd rfl rfl (by decide) rfl rfl (by exact (pa_cons (pv 1) (pa_cons pe_int pa_nil))) (by rfl))
  (pss_cons (ps_for PassesOwn.never rfl (pi_seq (pv 2)) (pg_name (i := 5) scRun.nd rfl (.inl rfl))
  (pss_cons (ps_asg (by exact (pe_ix ix_list (pe_ix ix_list (pv 0) (pv 4) (fun _ _ => rfl)) (pv 5) (fun _ _ => rfl))) (pg_tup rfl (pgs_cons (pg_name (i := 6) scRun.nd rfl (.inl rfl)) (pgs_cons (pg_name (i := 4) scRun.nd rfl (.inl rfl)) pgs_nil))))
  (pss_one (ps_set (i := 3) scRun.nd rfl (.inl rfl) (by exact (pe_op op_add_str (pv 3) (pv 6)))))))
  (pss_one (ps_ret (by exact (pe_tup (pa_cons (pv 3) (pa_cons (pv 4) pa_nil)))))))), ?_⟩
    obtain ⟨a, cv, ra, ea, all⟩ := hc.list
    subst ra
    have s0 : Same H H := Same.refl
    refine ⟨.str lead, rfl, _, _, rfl, ?_⟩
    rcases ex with ex | ex
    · refine .inl ⟨.ref tx, rfl, tx, rfl, ⟨_, SqL.of ex⟩, ?_⟩
      refine for_it (w := walk_list (K := K) (a := tx) (xs := intsV ws)) (fun j σ H' => ∃ r5 r6, σ = [some (.ref a), some (.str lead), some (.ref tx), some (.str (runF c lead (ws.take j))), some (.int (((wayF c (ws.take j) 0).2 : Nat) : Int)), r5, r6] ∧ Same H H') ⟨_, _, rfl, s0⟩ (fun j σ H' _ ⟨_, _, _, s⟩ => SqL.of (s _ _ ex)) ?_ ?_
      · rintro j x σ H1x H1 hj ⟨r5, r6, rfl, s1⟩ ⟨rfl, hx⟩
        obtain ⟨wd, ew, rfl⟩ : ∃ wd, ws[j]? = some wd ∧ x = .int (wd : Int) := by
          unfold intsV at hx
          rw [List.getElem?_map] at hx
          cases z : ws[j]? with
          | none => rw [z] at hx; cases hx
          | some wd => rw [z] at hx; cases hx; exact ⟨wd, rfl, rfl⟩
        have wl := wlt wd (List.mem_of_getElem? ew)
        have tk : ws.take (j + 1) = ws.take j ++ [wd] := by rw [List.take_add_one, ew]; rfl
        obtain ⟨st, sb⟩ := way_ok wf rl bl (ws := ws.take j) (fun w hw => wlt w (List.mem_of_mem_take hw)) wf.1
        have lr : (runF c lead (ws.take j)).length ≤ 8000 := by
          unfold runF
          rw [catS_len lead sb, wayF_len, List.length_take]
          have : min j ws.length * q ≤ 1000 * 6 := Nat.mul_le_mul (by omega) q6
          omega
        rw [tk, run_snoc, way_snoc2]
        obtain ⟨a', vs, b, ea', ev, lv, hb, db⟩ := chD_row (hc.same s1) st
        cases ea'
        obtain ⟨xs, ex1, lx, ents⟩ := rowD_ent db
        obtain ⟨ce, cm⟩ := cell_in st rl wl
        have lrw := rl _ (rowC_in st)
        have hlt : wd < xs.length := by rw [lx]; omega
        obtain ⟨tt, en, he, exx, htt⟩ := ents wd xs[wd] (List.getElem?_eq_getElem hlt)
        rw [ce] at he
        cases he
        have l6 := bl _ (rowC_in st) _ cm
        refine ⟨.ref a, rfl, .int _, rfl, a, _, (((wayF c (ws.take j) 0).2 : Nat) : Int), .ref b, rfl, rfl, SqL.of ev, atI_nat hb, .int (wd : Int), rfl, b, _, (wd : Int), .ref tt, rfl, rfl, SqL.of ex1, atI_nat (by rw [List.getElem?_eq_getElem hlt, exx]), tt, _, rfl, SqT.of htt, rfl, .str _, _, rfl, .int _, _, rfl, rfl, ?_⟩
        exact ⟨.str _, rfl, .str _, rfl, _, _, rfl, rfl, by rw [sizeLine_eq, l6]; omega, _, _, rfl, s1⟩
      · rintro σ H1 ⟨r5, r6, rfl, s1⟩
        rw [intsV_length, List.take_of_length_le (Nat.le_refl _)]
        exact ⟨.str _, rfl, .int _, rfl, (by show 2 ≤ sizeLine; decide), fun t' ht' => k t' _ (Same.trans s1 (Same.new ht')) upd_same⟩
    · refine .inr ⟨.ref tx, rfl, tx, rfl, ⟨_, SqT.of ex⟩, ?_⟩
      refine for_it (w := walk_tup (K := K) (a := tx) (xs := intsV ws)) (fun j σ H' => ∃ r5 r6, σ = [some (.ref a), some (.str lead), some (.ref tx), some (.str (runF c lead (ws.take j))), some (.int (((wayF c (ws.take j) 0).2 : Nat) : Int)), r5, r6] ∧ Same H H') ⟨_, _, rfl, s0⟩ (fun j σ H' _ ⟨_, _, _, s⟩ => SqT.of (s _ _ ex)) ?_ ?_
      · rintro j x σ H1x H1 hj ⟨r5, r6, rfl, s1⟩ ⟨rfl, hx⟩
        obtain ⟨wd, ew, rfl⟩ : ∃ wd, ws[j]? = some wd ∧ x = .int (wd : Int) := by
          unfold intsV at hx
          rw [List.getElem?_map] at hx
          cases z : ws[j]? with
          | none => rw [z] at hx; cases hx
          | some wd => rw [z] at hx; cases hx; exact ⟨wd, rfl, rfl⟩
        have wl := wlt wd (List.mem_of_getElem? ew)
        have tk : ws.take (j + 1) = ws.take j ++ [wd] := by rw [List.take_add_one, ew]; rfl
        obtain ⟨st, sb⟩ := way_ok wf rl bl (ws := ws.take j) (fun w hw => wlt w (List.mem_of_mem_take hw)) wf.1
        have lr : (runF c lead (ws.take j)).length ≤ 8000 := by
          unfold runF
          rw [catS_len lead sb, wayF_len, List.length_take]
          have : min j ws.length * q ≤ 1000 * 6 := Nat.mul_le_mul (by omega) q6
          omega
        rw [tk, run_snoc, way_snoc2]
        obtain ⟨a', vs, b, ea', ev, lv, hb, db⟩ := chD_row (hc.same s1) st
        cases ea'
        obtain ⟨xs, ex1, lx, ents⟩ := rowD_ent db
        obtain ⟨ce, cm⟩ := cell_in st rl wl
        have lrw := rl _ (rowC_in st)
        have hlt : wd < xs.length := by rw [lx]; omega
        obtain ⟨tt, en, he, exx, htt⟩ := ents wd xs[wd] (List.getElem?_eq_getElem hlt)
        rw [ce] at he
        cases he
        have l6 := bl _ (rowC_in st) _ cm
        refine ⟨.ref a, rfl, .int _, rfl, a, _, (((wayF c (ws.take j) 0).2 : Nat) : Int), .ref b, rfl, rfl, SqL.of ev, atI_nat hb, .int (wd : Int), rfl, b, _, (wd : Int), .ref tt, rfl, rfl, SqL.of ex1, atI_nat (by rw [List.getElem?_eq_getElem hlt, exx]), tt, _, rfl, SqT.of htt, rfl, .str _, _, rfl, .int _, _, rfl, rfl, ?_⟩
        exact ⟨.str _, rfl, .str _, rfl, _, _, rfl, rfl, by rw [sizeLine_eq, l6]; omega, _, _, rfl, s1⟩
      · rintro σ H1 ⟨r5, r6, rfl, s1⟩
        rw [intsV_length, List.take_of_length_le (Nat.le_refl _)]
        exact ⟨.str _, rfl, .int _, rfl, (by show 2 ≤ sizeLine; decide), fun t' ht' => k t' _ (Same.trans s1 (Same.new ht')) upd_same⟩
end
end K82
end

section
set_option maxHeartbeats 4000000
/-! judged -/
namespace K82
open PySem PySem.Spec PyProof.Rows L2
theorem call_isiK {X : Cx} {K : PySem.W.Frag} (e : X.K = K) : CallR X (.builtin "isinstance") (rIsi K) := by
  subst e
  exact call_isi
def spLText : Sp := fun vs H Q _ => ∃ (v : V) (d : PyData) (n : Int), vs = [v, .int n] ∧ Dx H v d ∧ (elsD d).length ≤ 1000 ∧ ∀ H', Same H H' → Q (.bl (textD n d)) H'
theorem between_whole {n : Int} {d : PyData} (h : wholeD d = true) : ∃ i : Int, d = .int i := by
  cases d with
  | int i => exact ⟨i, rfl⟩
  | bool b => cases h
  | _ => cases h
theorem all_whole {n : Int} {ds : List PyData} (h : ds.all wholeD = false) : ds.all (betweenD 0 (n - 1)) = false := by
  rw [← Bool.not_eq_true] at h ⊢
  intro z
  refine h (List.all_eq_true.mpr fun d hd => ?_)
  have := List.all_eq_true.mp z d hd
  cases d with
  | int i => rfl
  | _ => cases this
section
variable {P : Program} {w : World} {K : PySem.W.Frag} {mg : Str → Option Value} {base : Heap} {ad : Str → Addr} {fd : Str → FuncData}
theorem scLawIsText : FnScope ["_law_thing", "_law_size", "_law_word"] ["_law_thing", "_law_size"] (defScope sLawIsText) := ⟨rfl, rfl, rfl, by decide +kernel, rfl, by decide +kernel, by decide +kernel⟩
theorem ok_ltext (X : Tx K mg ad fd) : FnOk P w K mg base CX0 1 (ad "_law_is_text") (fd "_law_is_text") ["_law_thing", "_law_size"] spLText := by
  refine X.F__law_is_text.ok scLawIsText (fun vs H Q E h => ?_) (fun cdv A outer s H vs Q E hr h => ?_)
  · obtain ⟨v, d, n, rfl, _⟩ := h
    rfl
  · obtain ⟨v, d, n, rfl, hd, ln, k⟩ := h
    refine ⟨_, (pss_cons (ps_if (pt_not (pt_val (pe_callB call_isiT (by rfl) X.m_isinstance (by decide +kernel) (pa_cons (pv 0) (pa_cons (pe_tup (pa_cons (pe_bltn (v := .ty "list") (by rfl) X.m_list (by decide +kernel) rfl) (pa_cons (pe_bltn (v := .ty "tuple") (by rfl) X.m_tuple (by decide +kernel) rfl) pa_nil))) pa_nil)))))
  (pss_one (ps_ret (by exact pe_bl)))
  pss_nil)
  (pss_cons (ps_if (pt_not (pt_val (pe_callB (cr_all rfl) (by rfl) X.m_all (by decide +kernel) (pa_cons (pe_lc (own := [("_law_word", 2)]) (g := gName 2) rfl scLawIsText.nd (pi_seq (pv 0)) (blkOk_by (own := [("_law_word", 2)]) (N := ["_law_thing", "_law_size", "_law_word"]) (sc := defScope sLawIsText) (by decide +kernel)) (fun _ _ _ _ _ => pg_name (i := 2) scLawIsText.nd rfl (Or.inl rfl)) (fun _ _ _ _ _ => pts_nil) (fun _ _ _ _ _ => (pe_and (pe_callB (call_isiK (K := K) rfl) (by rfl) X.m_isinstance (by decide +kernel) (pa_cons (pv 2) (pa_cons (pe_bltn (v := .ty "int") (by rfl) X.m_int (by decide +kernel) rfl) pa_nil))) (pe_one (pe_not (pe_callB (call_isiK (K := K) rfl) (by rfl) X.m_isinstance (by decide +kernel) (pa_cons (pv 2) (pa_cons (pe_bltn (v := .ty "bool") (by rfl) X.m_bool (by decide +kernel) rfl) pa_nil)))))))) pa_nil))))
  (pss_one (ps_ret (by exact pe_bl)))
  pss_nil)
  (pss_one (ps_ret (by exact (pe_callB (cr_all rfl) (by rfl) X.m_all (by decide +kernel) (pa_cons (pe_lc (own := [("_law_word", 2)]) (g := gName 2) rfl scLawIsText.nd (pi_seq (pv 0)) (blkOk_by (own := [("_law_word", 2)]) (N := ["_law_thing", "_law_size", "_law_word"]) (sc := defScope sLawIsText) (by decide +kernel)) (fun _ _ _ _ _ => pg_name (i := 2) scLawIsText.nd rfl (Or.inl rfl)) (fun _ _ _ _ _ => pts_nil) (fun _ _ _ _ _ => (pe_chain op_le op_lt pe_int (pv 2) (pv 1)))) pa_nil))))))), ?_⟩
    refine ⟨v, rfl, (by show 2 ≤ sizeLine; decide), fun t ht => ⟨v, t, _, _, _, _, rfl, upd_same, .cons (.ty _) (.cons (.ty _) .nil), dx_ty (hd.same (Same.new ht)), kit_seq d, _, rfl, ?_⟩⟩
    have s0 := Same.new ht (o := .tup [V.ty "list", V.ty "tuple"])
    generalize (upd H t (.tup [V.ty "list", V.ty "tuple"])) = H0 at s0 ⊢
    cases e : isSeqD d with
    | false =>
      refine iteT ?_
      have q := k H0 s0
      rw [show textD n d = false by unfold textD; rw [e]; rfl] at q
      exact q
    | true =>
      refine iteF ?_
      obtain ⟨a, vs, rfl, ha, all⟩ := seq_of hd e
      have lv : vs.length = (elsD d).length := all.length
      have fin : ∀ (f : PyData → Bool) (D : Addr) (H' : Hp), H' D = some (.lst ((List.range vs.length).map fun i => V.bl (((elsD d).map f).getD i false))) → H' D = some (.lst (((elsD d).map f).map V.bl)) := fun f D H' eD => by
        rw [eD, lv]
        congr 2
        rw [List.map_map]
        refine range_map fun i x hx => ?_
        rw [List.getD_eq_getElem?_getD, List.getElem?_map, hx]
        rfl
      rcases ha with ha | ha
      · refine .inl ⟨.ref a, rfl, a, rfl, ⟨_, SqL.of (s0 _ _ ha)⟩, fun D hD => ?_⟩
        refine lc_map (w := walk_list (K := K) (a := a) (xs := vs)) (fun i => V.bl (((elsD d).map wholeD).getD i false)) hD (by omega) (fun i Hc _ sc => SqL.of (sc _ _ (s0 _ _ ha))) (fun _ => rfl) (fun i x Hc Hd hi sc y => ?_) (fun H1 s1 eD => ?_)
        · obtain ⟨rfl, hx⟩ := y
          refine ⟨Same.refl, fun Q' hQ => ?_⟩
          obtain ⟨d', h1, h2⟩ := all.from_ hx
          have h3 := h2.same (Same.trans s0 sc)
          have e2 : ((elsD d).map wholeD).getD i false = wholeD d' := by rw [List.getD_eq_getElem?_getD, List.getElem?_map, h1]; rfl
          rw [e2] at hQ
          refine ⟨x, rfl, x, .ty "int", _, _, _, rfl, .ty _, dx_ty h3, kit_ty (kit_i d'), _, rfl, ?_⟩
          have q' := hQ _ Same.refl
          cases e : isI d' with
          | false =>
            rw [show wholeD d' = false by unfold wholeD; rw [e]; rfl] at q'
            exact q'
          | true =>
            refine ⟨x, rfl, x, .ty "bool", _, _, _, rfl, .ty _, dx_ty h3, kit_ty (kit_b d'), _, rfl, ?_⟩
            rw [show wholeD d' = !isB d' by unfold wholeD; rw [e]; rfl] at q'
            exact q'
        · have e1 := fin wholeD D H1 eD
          refine ⟨D, _, rfl, SqL.of e1, _, rfl, ?_⟩
          rw [List.all_map]
          have s01 := Same.trans s0 s1
          have q := k H1 s01
          cases aw : (elsD d).all wholeD with
          | false =>
            refine ifT (by show (!(elsD d).all wholeD) = true; rw [aw]; rfl) ?_
            rw [show textD n d = false by unfold textD; rw [e, Bool.true_and]; exact all_whole aw] at q
            exact q
          | true =>
            refine ifF (by show (!(elsD d).all wholeD) = false; rw [aw]; rfl) ?_
            refine .inl ⟨.ref a, rfl, a, rfl, ⟨_, SqL.of (s01 _ _ ha)⟩, fun D2 hD2 => ?_⟩
            refine lc_map (w := walk_list (K := K) (a := a) (xs := vs)) (fun i => V.bl (((elsD d).map (betweenD 0 (n - 1))).getD i false)) hD2 (by omega) (fun i Hc _ sc => SqL.of (sc _ _ (s01 _ _ ha))) (fun _ => rfl) (fun i x Hc Hd hi sc y => ?_) (fun H2 s2 eD2 => ?_)
            · obtain ⟨rfl, hx⟩ := y
              refine ⟨Same.refl, fun Q' hQ => ?_⟩
              obtain ⟨d', h1, h2⟩ := all.from_ hx
              obtain ⟨z, ez⟩ := between_whole (n := n) (List.all_eq_true.mp aw d' (List.mem_of_getElem? h1))
              subst ez
              cases h2
              have e2 : ((elsD d).map (betweenD 0 (n - 1))).getD i false = (decide (0 ≤ z) && decide (z < n)) := by
                rw [List.getD_eq_getElem?_getD, List.getElem?_map, h1]
                show (decide (0 ≤ z) && decide (z ≤ n - 1)) = _
                rw [show decide (z ≤ n - 1) = decide (z < n) from decide_eq_decide.mpr (by omega)]
              rw [e2] at hQ
              have q' := hQ _ Same.refl
              refine ⟨.int z, rfl, 0, z, rfl, rfl, _, rfl, ?_⟩
              cases e0 : decide (0 ≤ z) with
              | true => exact iteT ⟨.int n, rfl, z, n, rfl, rfl, by rw [e0] at q'; exact q'⟩
              | false => exact iteF (by rw [e0] at q'; exact q')
            · have e1 := fin (betweenD 0 (n - 1)) D2 H2 eD2
              refine ⟨D2, _, rfl, SqL.of e1, ?_⟩
              rw [List.all_map]
              have q := k H2 (Same.trans s01 s2)
              unfold textD at q
              rw [e, Bool.true_and] at q
              exact q
      · refine .inr ⟨.ref a, rfl, a, rfl, ⟨_, SqT.of (s0 _ _ ha)⟩, fun D hD => ?_⟩
        refine lc_map (w := walk_tup (K := K) (a := a) (xs := vs)) (fun i => V.bl (((elsD d).map wholeD).getD i false)) hD (by omega) (fun i Hc _ sc => SqT.of (sc _ _ (s0 _ _ ha))) (fun _ => rfl) (fun i x Hc Hd hi sc y => ?_) (fun H1 s1 eD => ?_)
        · obtain ⟨rfl, hx⟩ := y
          refine ⟨Same.refl, fun Q' hQ => ?_⟩
          obtain ⟨d', h1, h2⟩ := all.from_ hx
          have h3 := h2.same (Same.trans s0 sc)
          have e2 : ((elsD d).map wholeD).getD i false = wholeD d' := by rw [List.getD_eq_getElem?_getD, List.getElem?_map, h1]; rfl
          rw [e2] at hQ
          refine ⟨x, rfl, x, .ty "int", _, _, _, rfl, .ty _, dx_ty h3, kit_ty (kit_i d'), _, rfl, ?_⟩
          have q' := hQ _ Same.refl
          cases e : isI d' with
          | false =>
            rw [show wholeD d' = false by unfold wholeD; rw [e]; rfl] at q'
            exact q'
          | true =>
            refine ⟨x, rfl, x, .ty "bool", _, _, _, rfl, .ty _, dx_ty h3, kit_ty (kit_b d'), _, rfl, ?_⟩
            rw [show wholeD d' = !isB d' by unfold wholeD; rw [e]; rfl] at q'
            exact q'
        · have e1 := fin wholeD D H1 eD
          refine ⟨D, _, rfl, SqL.of e1, _, rfl, ?_⟩
          rw [List.all_map]
          have s01 := Same.trans s0 s1
          have q := k H1 s01
          cases aw : (elsD d).all wholeD with
          | false =>
            refine ifT (by show (!(elsD d).all wholeD) = true; rw [aw]; rfl) ?_
            rw [show textD n d = false by unfold textD; rw [e, Bool.true_and]; exact all_whole aw] at q
            exact q
          | true =>
            refine ifF (by show (!(elsD d).all wholeD) = false; rw [aw]; rfl) ?_
            refine .inr ⟨.ref a, rfl, a, rfl, ⟨_, SqT.of (s01 _ _ ha)⟩, fun D2 hD2 => ?_⟩
            refine lc_map (w := walk_tup (K := K) (a := a) (xs := vs)) (fun i => V.bl (((elsD d).map (betweenD 0 (n - 1))).getD i false)) hD2 (by omega) (fun i Hc _ sc => SqT.of (sc _ _ (s01 _ _ ha))) (fun _ => rfl) (fun i x Hc Hd hi sc y => ?_) (fun H2 s2 eD2 => ?_)
            · obtain ⟨rfl, hx⟩ := y
              refine ⟨Same.refl, fun Q' hQ => ?_⟩
              obtain ⟨d', h1, h2⟩ := all.from_ hx
              obtain ⟨z, ez⟩ := between_whole (n := n) (List.all_eq_true.mp aw d' (List.mem_of_getElem? h1))
              subst ez
              cases h2
              have e2 : ((elsD d).map (betweenD 0 (n - 1))).getD i false = (decide (0 ≤ z) && decide (z < n)) := by
                rw [List.getD_eq_getElem?_getD, List.getElem?_map, h1]
                show (decide (0 ≤ z) && decide (z ≤ n - 1)) = _
                rw [show decide (z ≤ n - 1) = decide (z < n) from decide_eq_decide.mpr (by omega)]
              rw [e2] at hQ
              have q' := hQ _ Same.refl
              refine ⟨.int z, rfl, 0, z, rfl, rfl, _, rfl, ?_⟩
              cases e0 : decide (0 ≤ z) with
              | true => exact iteT ⟨.int n, rfl, z, n, rfl, rfl, by rw [e0] at q'; exact q'⟩
              | false => exact iteF (by rw [e0] at q'; exact q')
            · have e1 := fin (betweenD 0 (n - 1)) D2 H2 eD2
              refine ⟨D2, _, rfl, SqL.of e1, ?_⟩
              rw [List.all_map]
              have q := k H2 (Same.trans s01 s2)
              unfold textD at q
              rw [e, Bool.true_and] at q
              exact q
end
end K82
end

section
set_option maxHeartbeats 4000000
/-! judged -/
namespace K82
open PySem PySem.Spec PyProof.Rows L2
theorem catS_inj {q : Nat} : ∀ {l m : List Str}, l.length = m.length → (∀ b ∈ l, b.length = q) → (∀ b ∈ m, b.length = q) → catS "" l = catS "" m → l = m := fun {l m} e hl hm h => by
  have h1 := congrArg sL h
  rw [sL_cat, sL_cat] at h1
  have h2 : (l.map sL).flatten = (m.map sL).flatten := by
    have z : sL ("" : Str) = [] := by decide +kernel
    rw [z] at h1
    simpa using h1
  have c1 := chunkL_flat (q := q) (bs := l.map sL) (fun b hb => by
    obtain ⟨x, hx, rfl⟩ := List.mem_map.mp hb
    rw [sL_len]; exact hl x hx)
  have c2 := chunkL_flat (q := q) (bs := m.map sL) (fun b hb => by
    obtain ⟨x, hx, rfl⟩ := List.mem_map.mp hb
    rw [sL_len]; exact hm x hx)
  rw [h2, List.length_map, e] at c1
  rw [List.length_map] at c2
  have c3 : l.map sL = m.map sL := c1.symm.trans c2
  exact (List.map_inj_right (fun a b => sL_inj)).mp c3
theorem cat_word : ∀ {l : List Str}, (∀ z ∈ l, wordD (.str z) = true) → wordD (.str (catS "" l)) = true := fun {l} h => by
  show (sL (catS "" l)).all sgn = true
  refine List.all_eq_true.mpr fun c hc => ?_
  rw [sL_cat] at hc
  have z : sL ("" : Str) = [] := by decide +kernel
  rw [z, List.nil_append] at hc
  obtain ⟨b, hb, hc⟩ := List.mem_flatten.mp hc
  obtain ⟨x, hx, rfl⟩ := List.mem_map.mp hb
  exact List.all_eq_true.mp (h x hx) c hc
theorem ent_shaped {e : Str × Nat} (h : wordD (.str e.1) = true) : SeqAt.shaped (entD e) = true := by
  unfold SeqAt.shaped
  rw [Bool.and_eq_true]
  constructor
  · simp only [entD, PyData.canLay0, PyData.canLayAll0, Bool.and_true]
    exact word_ok h
  · refine decide_eq_true ?_
    simp only [entD, PyData.depth, PyData.depthAll]
    omega
theorem ent_plain (e : Str × Nat) : plainD (entD e) = true := by
  simp [entD, plainD, plainAll]
theorem run_same {c : Ch} {sz q : Nat} (wf : WfC c) (rl : ∀ r ∈ c, r.length = sz) (bl : ∀ r ∈ c, ∀ e ∈ r, e.1.length = q) {V W : List Nat} (hv : ∀ w ∈ V, w < sz) (hw : ∀ w ∈ W, w < sz) (e : V.length = W.length) : decide ((runF c "" V, (wayF c V 0).2) = (runF c "" W, (wayF c W 0).2)) = decide (wayF c V 0 = wayF c W 0) := by
  refine decide_eq_decide.mpr ⟨fun h => ?_, fun h => ?_⟩
  · have h1 := congrArg Prod.fst h
    have h2 := congrArg Prod.snd h
    have b1 := (way_ok wf rl bl hv wf.1).2
    have b2 := (way_ok wf rl bl hw wf.1).2
    have := catS_inj (by rw [wayF_len, wayF_len, e]) b1 b2 h1
    exact Prod.ext this h2
  · unfold runF
    rw [h]
theorem way_diff {c : Ch} {V W : List Nat} (h : V.length ≠ W.length) : decide (wayF c V 0 = wayF c W 0) = false := by
  refine decide_eq_false fun e => h ?_
  have := congrArg (fun x => x.1.length) e
  rwa [wayF_len, wayF_len] at this
def spJudged : Sp := fun vs H Q _ => ∃ (v0 : V) (p q : Int) (c : Ch) (v : V) (d : PyData), vs = [v0, .int (2 ^ p.toNat), v] ∧ Dx H v0 (chD c) ∧ fitP p q ∧ okCh p q c ∧ Dx H v d ∧
  (∀ x ∈ elsD d, (elsD x).length ≤ 1000) ∧ (elsD d).length ≤ 1000 ∧ ∀ H', Same H H' → Q (.bl (clashD c (2 ^ p.toNat) d)) H'
section
variable {P : Program} {w : World} {K : PySem.W.Frag} {mg : Str → Option Value} {base : Heap} {ad : Str → Addr} {fd : Str → FuncData}
theorem scJudged : FnScope ["_law_codes_here", "_law_size", "_law_thing", "_law_text_here"] ["_law_codes_here", "_law_size", "_law_thing"] (defScope sJudged) := ⟨rfl, rfl, rfl, by decide +kernel, rfl, by decide +kernel, by decide +kernel⟩
theorem ok_judged (X : Tx K mg ad fd) : FnOk P w K mg base CX0 3 (ad "_law_judged") (fd "_law_judged") ["_law_codes_here", "_law_size", "_law_thing"] spJudged := by
  have G__law_is_text := ok_ltext (P := P) (w := w) (base := base) X
  have G__law_run := ok_run (P := P) (w := w) (base := base) X
  refine X.F__law_judged.ok scJudged (fun vs H Q E h => ?_) (fun cdv A outer s H vs Q E hr h => ?_)
  · obtain ⟨v0, p, q, c, v, d, rfl, _⟩ := h
    rfl
  · obtain ⟨v0, p, q, c, v, d, rfl, hc, fit, oc, hd, tm, ln, k⟩ := h
    have HR__law_is_text : Room 1 _ := hr.mono (by decide)
    have HR__law_run : Room 1 _ := hr.mono (by decide)
    have hu64 : (A.deeper (envOfC "_law_judged" (defScope sJudged) s.heap.objs.size (ad "_law_judged") cdv)).units + 64 < cLine := hr.units
    refine ⟨_, (pss_cons (ps_if (PW.pt (pw_or (pt_not (pt_val (pe_callB call_isi (by rfl) X.m_isinstance (by decide +kernel) (pa_cons (pv 2) (pa_cons (pe_bltn (v := .ty "tuple") (by rfl) X.m_tuple (by decide +kernel) rfl) pa_nil))))) (pw_or (pt_cmpR op_ne (pe_callB call_len (by rfl) X.m_len (by decide +kernel) (pa_cons (pv 2) pa_nil)) pe_int (nomark _)) (pw_or1 (pt_not (pt_val (pe_callB (cr_all rfl) (by rfl) X.m_all (by decide +kernel) (pa_cons (pe_lc (own := [("_law_text_here", 3)]) (g := gName 3) rfl scJudged.nd (pi_tup (pv 2)) (blkOk_by (own := [("_law_text_here", 3)]) (N := ["_law_codes_here", "_law_size", "_law_thing", "_law_text_here"]) (sc := defScope sJudged) (by decide +kernel)) (fun _ _ _ _ _ => pg_name (i := 3) scJudged.nd rfl (Or.inl rfl)) (fun _ _ _ _ _ => pts_nil) (fun _ _ _ _ _ => (pe_call G__law_is_text HR__law_is_text (by rfl) X.g__law_is_text X.F__law_is_text.kp X.b__law_is_text .nil pass0 (pa_cons (pv 3) (pa_cons (pv 1) pa_nil))))) pa_nil))))))))
  (pss_one (ps_ret (by exact pe_bl)))
  pss_nil)
  (pss_cons (ps_if (PW.pt (pw_or (pt_cmpR op_ne (pe_callB call_len (by rfl) X.m_len (by decide +kernel) (pa_cons (pe_ix ix_tup (pv 2) pe_int (fun _ _ => rfl)) pa_nil)) (pe_callB call_len (by rfl) X.m_len (by decide +kernel) (pa_cons (pe_ix ix_tup (pv 2) pe_int (fun _ _ => rfl)) pa_nil)) (nomark _)) (pw_or1 (pt_cmpR (op_eqD hu64) (pe_callTy call_list_of (by rfl) X.m_list (by decide +kernel) (pa_cons (pe_ix ix_tup (pv 2) pe_int (fun _ _ => rfl)) pa_nil)) (pe_callTy call_list_of (by rfl) X.m_list (by decide +kernel) (pa_cons (pe_ix ix_tup (pv 2) pe_int (fun _ _ => rfl)) pa_nil)) (nomark _)))))
  (pss_one (ps_ret (by exact pe_bl)))
  pss_nil)
  (pss_one (ps_ret (by exact (pe_cmpR (op_eqD hu64) (pe_call G__law_run HR__law_run (by rfl) X.g__law_run X.F__law_run.kp X.b__law_run .nil pass0 (pa_cons (pv 0) (pa_cons pe_str (pa_cons (pe_ix ix_tup (pv 2) pe_int (fun _ _ => rfl)) pa_nil)))) (pe_call G__law_run HR__law_run (by rfl) X.g__law_run X.F__law_run.kp X.b__law_run .nil pass0 (pa_cons (pv 0) (pa_cons pe_str (pa_cons (pe_ix ix_tup (pv 2) pe_int (fun _ _ => rfl)) pa_nil)))) (nomark _))))))), ?_⟩
    have wf := oc.wf
    have rl : ∀ r ∈ c, r.length = 2 ^ p.toNat := fun r hr => by
      have := oc.rows r hr
      exact_mod_cast this
    have bl : ∀ r ∈ c, ∀ e ∈ r, e.1.length = q.toNat := fun r hr e he => by
      have := (oc.blocks r hr e he).2
      omega
    have ob : okBlocks c := fun r hr e he => (oc.blocks r hr e he).1
    have q6 : q.toNat ≤ 6 := by have := fit; unfold fitP at this; omega
    refine ⟨v, rfl, v, .ty "tuple", _, _, _, rfl, .ty _, dx_ty hd, kit_ty (kit_t d), _, rfl, ?_⟩
    have q0 := k H Same.refl
    cases hd with
    | @tup a' vs ds ea all =>
      refine ifF rfl ?_
      have lv : vs.length = ds.length := all.length
      refine ⟨.ref a', rfl, .ref a', _, rfl, .inr ⟨_, SqT.of ea, rfl⟩, rfl, _, rfl, ?_⟩
      by_cases l2 : ds.length = 2
      · refine ifF (by rw [lv, l2]; rfl) ?_
        match ds, vs, all, l2 with
        | [x, y], [vx, vy], .cons hx (.cons hy .nil), _ =>
          have lx := tm x (by simp [elsD])
          have ly := tm y (by simp [elsD])
          refine ⟨.ref a', rfl, a', rfl, ⟨_, SqT.of ea⟩, fun D hD => ?_⟩
          refine lc_map (w := walk_tup (K := K) (a := a') (xs := [vx, vy])) (fun i => V.bl ([textD (2 ^ p.toNat) x, textD (2 ^ p.toNat) y].getD i false)) hD (show 2 ≤ 100000 by decide) (fun i Hc _ sc => SqT.of (sc _ _ ea)) (fun _ => rfl) (fun i x' Hc Hd hi sc yy => ?_) (fun H1 s1 eD => ?_)
          · obtain ⟨rfl, hx'⟩ := yy
            refine ⟨Same.refl, fun Q' hQ => ?_⟩
            have two : ∃ d', Dx H x' d' ∧ (elsD d').length ≤ 1000 ∧ textD (2 ^ p.toNat) d' = [textD (2 ^ p.toNat) x, textD (2 ^ p.toNat) y].getD i false := by
              match i, hx' with
              | 0, hx' => cases hx'; exact ⟨x, hx, lx, rfl⟩
              | 1, hx' => cases hx'; exact ⟨y, hy, ly, rfl⟩
              | i + 2, hx' => cases hx'
            obtain ⟨d', h1, h3, h4⟩ := two
            refine ⟨x', rfl, .int _, rfl, x', d', 2 ^ p.toNat, rfl, h1.same sc, h3, fun H2 s2 => ?_⟩
            rw [h4]
            exact hQ H2 s2
          · refine ⟨D, [textD (2 ^ p.toNat) x, textD (2 ^ p.toNat) y], rfl, SqL.of eD, ?_⟩
            have ea1 := s1 _ _ ea
            have al : ([textD (2 ^ p.toNat) x, textD (2 ^ p.toNat) y]).all id = (textD (2 ^ p.toNat) x && textD (2 ^ p.toNat) y) := by simp
            rw [al]
            have q1 := k H1 s1
            by_cases tt : (textD (2 ^ p.toNat) x && textD (2 ^ p.toNat) y) = true
            · refine ⟨_, rfl, ifF (by rw [tt]; rfl) ?_⟩
              rw [Bool.and_eq_true] at tt
              obtain ⟨sx, nx, wx⟩ := text_nats tt.1
              obtain ⟨sy, ny, wy⟩ := text_nats tt.2
              obtain ⟨ax, xs, rfl, hax, alx⟩ := seq_of hx sx
              obtain ⟨ay, ys, rfl, hay, aly⟩ := seq_of hy sy
              rw [nx] at alx
              rw [ny] at aly
              have exs := dx_intsV alx
              have eys := dx_intsV aly
              subst exs eys
              have lnx : (natsD (elsD x)).length ≤ 1000 := by unfold natsD; rw [List.length_map]; exact lx
              have lny : (natsD (elsD y)).length ≤ 1000 := by unfold natsD; rw [List.length_map]; exact ly
              have cv : clashD c (2 ^ p.toNat) (.tuple [x, y]) = (!decide (natsD (elsD x) = natsD (elsD y)) && decide (wayF c (natsD (elsD x)) 0 = wayF c (natsD (elsD y)) 0)) := by
                show (textD (2 ^ p.toNat) x && textD (2 ^ p.toNat) y && !decide (natsD (elsD x) = natsD (elsD y)) && decide (wayF c (natsD (elsD x)) 0 = wayF c (natsD (elsD y)) 0)) = _
                rw [tt.1, tt.2]; rfl
              rw [cv] at k q1
              generalize natsD (elsD x) = W1 at alx wx lnx hax k q1
              generalize natsD (elsD y) = W2 at aly wy lny hay k q1
              have wx' : ∀ w ∈ W1, w < 2 ^ p.toNat := fun w hw => by have := wx w hw; exact_mod_cast this
              have wy' : ∀ w ∈ W2, w < 2 ^ p.toNat := fun w hw => by have := wy w hw; exact_mod_cast this
              have len : ∀ {b : Addr} {W : List Nat}, (H b = some (.lst (intsV W)) ∨ H b = some (.tup (intsV W))) → (SqL K H1 b (intsV W) ∨ SqT K H1 b (intsV W)) := fun h => h.elim (fun z => .inl (SqL.of (s1 _ _ z))) fun z => .inr (SqT.of (s1 _ _ z))
              have hax' := len hax
              have hay' := len hay
              refine ⟨.ref a', rfl, a', _, 0, .ref ax, rfl, rfl, SqT.of ea1, rfl, .ref ax, W1.length, rfl, ?_, .ref a', rfl, a', _, 1, .ref ay, rfl, rfl, SqT.of ea1, rfl, .ref ay, W2.length, rfl, ?_, rfl, _, rfl, ?_⟩
              · exact hax'.elim (fun z => .inl ⟨_, z, by rw [intsV_length]⟩) fun z => .inr ⟨_, z, by rw [intsV_length]⟩
              · exact hay'.elim (fun z => .inl ⟨_, z, by rw [intsV_length]⟩) fun z => .inr ⟨_, z, by rw [intsV_length]⟩
              by_cases le : W1.length = W2.length
              · refine ifF (by rw [dec_nat, decide_eq_true le]; rfl) ?_
                refine ⟨.ref a', rfl, a', _, 0, .ref ax, rfl, rfl, SqT.of ea1, rfl, ax, intsV W1, rfl, hax', fun L1 n1 => ⟨.ref a', rfl, a', _, 1, .ref ay, rfl, rfl, SqT.of (Same.new n1 _ _ ea1), rfl, ay, intsV W2, rfl, hay.elim (fun z => .inl (SqL.of (Same.new n1 _ _ (s1 _ _ z)))) (fun z => .inr (SqT.of (Same.new n1 _ _ (s1 _ _ z)))), fun L2 n2 => ?_⟩⟩
                have sL := Same.trans s1 (Same.trans (Same.new n1 (o := .lst (intsV W1))) (Same.new n2 (o := .lst (intsV W2))))
                have eL1 : (upd (upd H1 L1 (.lst (intsV W1))) L2 (.lst (intsV W2))) L1 = some (.lst (intsV W1)) := Same.new n2 _ _ upd_same
                have eL2 : (upd (upd H1 L1 (.lst (intsV W1))) L2 (.lst (intsV W2))) L2 = some (.lst (intsV W2)) := upd_same
                generalize (upd (upd H1 L1 (.lst (intsV W1))) L2 (.lst (intsV W2))) = H2 at sL eL1 eL2 ⊢
                refine ⟨.list (intsD W1), .list (intsD W2), Dx.dp (.lst eL1 (dx_ints W1)) (ints_plain W1), Dx.dp (.lst eL2 (dx_ints W2)) (ints_plain W2), ints_shaped W1, ints_shaped W2, ?_⟩
                rw [ints_eqv]
                by_cases ne : W1 = W2
                · refine ⟨_, rfl, ifT (decide_eq_true ne) ?_⟩
                  have := k H2 sL
                  rw [decide_eq_true ne] at this
                  exact this
                · refine ⟨_, rfl, ifF (decide_eq_false ne) ?_⟩
                  have hh : ∀ {b : Addr} {W : List Nat}, (H b = some (.lst (intsV W)) ∨ H b = some (.tup (intsV W))) → ∀ {H' : Hp}, Same H H' → (H' b = some (.lst (intsV W)) ∨ H' b = some (.tup (intsV W))) := by
                    intro b W h H' s
                    exact h.elim (fun z => .inl (s _ _ z)) fun z => .inr (s _ _ z)
                  refine ⟨v0, rfl, .ref a', rfl, a', _, 0, .ref ax, rfl, rfl, SqT.of (sL _ _ ea), rfl, v0, c, "", ax, W1, 2 ^ p.toNat, q.toNat, rfl, hc.same sL, wf, rl, bl, q6, (by decide), hh hax sL, lnx, wx', fun t1 H3 s3 et1 => ?_⟩
                  have s13 := Same.trans sL s3
                  refine ⟨v0, rfl, .ref a', rfl, a', _, 1, .ref ay, rfl, rfl, SqT.of (s13 _ _ ea), rfl, v0, c, "", ay, W2, 2 ^ p.toNat, q.toNat, rfl, hc.same s13, wf, rl, bl, q6, (by decide), hh hay s13, lny, wy', fun t2 H4 s4 et2 => ?_⟩
                  have w1 : Dx H4 (.ref t1) (entD (runF c "" W1, (wayF c W1 0).2)) := .tup (s4 _ _ et1) (.cons (.str _) (.cons (.int _) .nil))
                  have w2 : Dx H4 (.ref t2) (entD (runF c "" W2, (wayF c W2 0).2)) := .tup et2 (.cons (.str _) (.cons (.int _) .nil))
                  refine ⟨_, _, w1.dp (ent_plain _), w2.dp (ent_plain _), ent_shaped (cat_word (way_words ob W1 0)), ent_shaped (cat_word (way_words ob W2 0)), ?_⟩
                  rw [entD_eqv, run_same wf rl bl wx' wy' le]
                  have := k H4 (Same.trans s13 s4)
                  rw [decide_eq_false ne] at this
                  exact this
              · refine ifT (by rw [dec_nat, decide_eq_false le]; rfl) ?_
                rw [way_diff le, Bool.and_false] at q1
                exact q1
            · refine ⟨_, rfl, ifT (by rw [Bool.eq_false_iff.mpr tt]; rfl) ?_⟩
              have cv : clashD c (2 ^ p.toNat) (.tuple [x, y]) = false := by
                show (textD (2 ^ p.toNat) x && textD (2 ^ p.toNat) y && !decide (natsD (elsD x) = natsD (elsD y)) && decide (wayF c (natsD (elsD x)) 0 = wayF c (natsD (elsD y)) 0)) = _
                rw [Bool.eq_false_iff.mpr tt]; rfl
              rw [cv] at q1
              exact q1
      · have cv : clashD c (2 ^ p.toNat) (.tuple ds) = false := by
          match ds, l2 with
          | [], _ => rfl
          | [_], _ => rfl
          | [_, _], l2 => exact absurd rfl l2
          | _ :: _ :: _ :: _, _ => rfl
        rw [cv] at q0
        refine ifT ?_ ?_
        · rw [lv]
          show (!decide (V.int ((ds.length : Nat) : Int) = V.int 2)) = true
          rw [show (2 : Int) = ((2 : Nat) : Int) from rfl, dec_nat, decide_eq_false l2]
          rfl
        · exact q0
    | _ =>
      refine ifT rfl ?_
      exact q0
end
end K82
end

section
set_option maxHeartbeats 4000000
/-! texts drawn -/
namespace K82
open PySem PySem.Spec PyProof.Rows L2
/-- a list of draws -/
theorem lc_draws {X : Cx} {pt : Addr} {n : Int} {m j : Nat} {σ : L2.St} {vs : List Nat} {H1 : Hp} {D : Addr} {te : TE} {Qd : Hp → Prop} (hn : H1 D = none) (hp : PotAt H1 pt) (hm : m ≤ 1500)
    (hw : ∀ x, wipe ((wipe σ vs).set j (some x)) vs = wipe σ vs)
    (hs : ∀ x H' (Q : VK), PotAt H' pt → (∀ (d : Nat) (H2 : Hp), (d : Int) < n → PotAt H2 pt → But pt H' H2 → Q (.int (d : Nat)) H2) → te ((wipe σ vs).set j (some x)) H' Q)
    (hend : ∀ (H' : Hp) (l : List Nat), l.length = m → (∀ x ∈ l, (x : Int) < n) → PotAt H' pt → But pt H1 H' → H' D = some (.lst (intsV l)) → Qd H') :
    ∃ W : Nat → Nat → Hp → Prop, (∃ m, W 0 m (upd H1 D (.lst []))) ∧ ∀ i k H, W i k H →
      ((Itr 0 m).stop i H ∧ Qd H) ∨ ((Itr 0 m).go i H ∧ ∃ Nx : Hp → Prop, (∀ H', Nx H' → ∃ k', k' < k ∧ W (i + 1) k' H') ∧ ∀ x H', (Itr 0 m).yld i H x H' → gName j x (wipe σ vs) H' fun σ2 H2 => wipe σ2 vs = wipe σ vs ∧ tYes σ2 H2 fun b H3 =>
        if b = true then te σ2 H3 fun y H4 => ∃ acc, H4 D = some (.lst acc) ∧ acc.length < sizeLine ∧ Nx (upd H4 D (.lst (acc ++ [y]))) else Nx H3) := by
  have nD : D ≠ pt := hp.ne hn
  refine lc_it (w := walk_range) (g := gName j) (tt := tYes) (fun i H' => But pt H1 H' ∧ PotAt H' pt ∧ ∃ l : List Nat, l.length = i ∧ (∀ x ∈ l, (x : Int) < n) ∧ H' D = some (.lst (intsV l))) ⟨But.new hn, hp.same (Same.new hn), [], rfl, (fun _ h => by cases h), upd_same⟩ (fun _ _ _ _ => True.intro) (fun i x H' H2 hi hP hy => ?_) (fun H' hP => ?_)
  · obtain ⟨b1, p1, l, ll, hl, eD⟩ := hP
    obtain ⟨rfl, _⟩ := hy
    refine ⟨hw x, ?_⟩
    refine hs x _ _ p1 fun d H3 dn p3 b3 => ⟨_, b3 _ _ nD eD, by rw [intsV_length, sizeLine_eq]; omega, fun b o nb e => ?_, ?_, l ++ [d], by rw [List.length_append, ll]; rfl, fun x hx => ?_, ?_⟩
    · rw [upd_ne (ne_of_none e hn)]
      exact b3 _ _ nb (b1 _ _ nb e)
    · obtain ⟨a, b, e, k⟩ := p3
      exact ⟨a, b, (upd_ne nD.symm).trans e, k⟩
    · rcases List.mem_append.mp hx with z | z
      · exact hl x z
      · rw [List.mem_singleton.mp z]; exact dn
    · rw [upd_same]
      simp [intsV]
  · obtain ⟨b1, p1, l, ll, hl, eD⟩ := hP
    exact hend H' l ll hl p1 b1 eD
/-- 1 ≤ sz, not much -/
def spDrawn : Sp := fun vs H Q _ => ∃ (pt : Addr) (sz most : Int), vs = [.ref pt, .int sz, .int most] ∧ PotAt H pt ∧ 1 ≤ sz ∧ sz ≤ 100 ∧ 0 ≤ most ∧ most ≤ 100 ∧
  ∀ (t : Addr) (l : List Nat) (H' : Hp), But pt H H' → PotAt H' pt → H t = none → H' t = some (.lst (intsV l)) → (l.length : Int) ≤ most → (∀ x ∈ l, (x : Int) < sz) → Q (.ref t) H'
theorem log_100 {n : Int} (h0 : 0 ≤ n) (h : n ≤ 1000) : n.natAbs.log2 < 9000 := by
  obtain ⟨k, rfl⟩ := Int.eq_ofNat_of_zero_le h0
  show (k : Nat).log2 < 9000
  have : k < 2 ^ 9000 := Nat.lt_of_lt_of_le (show k < 2 ^ 10 by omega) (Nat.pow_le_pow_right (by decide) (by decide))
  rcases Nat.eq_zero_or_pos k with z | z
  · rw [z]; decide
  · exact (Nat.log2_lt (by omega)).mpr this
section
variable {P : Program} {w : World} {K : PySem.W.Frag} {mg : Str → Option Value} {base : Heap} {ad : Str → Addr} {fd : Str → FuncData}
theorem scText : FnScope ["_law_pot_here", "_law_size", "_law_most", "_law_turn"] ["_law_pot_here", "_law_size", "_law_most"] (defScope sText) := ⟨rfl, rfl, rfl, by decide +kernel, rfl, by decide +kernel, by decide +kernel⟩
theorem ok_drawn (X : Tx K mg ad fd) : FnOk P w K mg base CX0 3 (ad "_law_text") (fd "_law_text") ["_law_pot_here", "_law_size", "_law_most"] spDrawn := by
  have G__law_draw := ok_draw (P := P) (w := w) (base := base) X
  refine X.F__law_text.ok scText (fun vs H Q E h => ?_) (fun cdv A outer s H vs Q E hr h => ?_)
  · obtain ⟨pt, sz, most, rfl, _⟩ := h
    rfl
  · obtain ⟨pt, sz, most, rfl, hp, z1, z2, m0, m1, k⟩ := h
    have HR__law_draw : Room 1 _ := hr.mono (by decide)
    refine ⟨_, (pss_one (ps_ret (by exact (pe_lc (own := [("_law_turn", 3)]) (g := gName 3) rfl scText.nd (pi_range1 (by rfl) X.m_range (pa_cons (pe_call G__law_draw HR__law_draw (by rfl) X.g__law_draw X.F__law_draw.kp X.b__law_draw .nil pass0 (pa_cons (pv 0) (pa_cons (pe_op op_add (pv 2) pe_int) pa_nil))) pa_nil)) (blkOk_by (own := [("_law_turn", 3)]) (N := ["_law_pot_here", "_law_size", "_law_most", "_law_turn"]) (sc := defScope sText) (by decide +kernel)) (fun _ _ _ _ _ => pg_name (i := 3) scText.nd rfl (Or.inl rfl)) (fun _ _ _ _ _ => pts_nil) (fun _ _ _ _ _ => (pe_call G__law_draw HR__law_draw (by rfl) X.g__law_draw X.F__law_draw.kp X.b__law_draw .nil pass0 (pa_cons (pv 0) (pa_cons (pv 1) pa_nil)))))))), ?_⟩
    refine ⟨.ref pt, rfl, .int most, rfl, most, 1, rfl, rfl, pt, most + 1, rfl, hp, by omega, log_100 (by omega) (by omega), fun d H1 d0 d1 hp1 b1 => ⟨d, rfl, by omega, by omega, fun S hS => ?_⟩⟩
    refine lc_draws (X := cxOf CX0 P w K mg base ["_law_pot_here", "_law_size", "_law_most", "_law_turn"] "_law_text" (defScope sText) (ad "_law_text") cdv A outer s H E) (pt := pt) (n := sz) hS hp1 (by omega) (fun _ => rfl) (fun x H5 Q' hp5 kk => ?_) (fun H5 l lb hb hp5 b5 eS => ?_)
    · refine ⟨.ref pt, rfl, .int sz, rfl, pt, _, rfl, hp5, z1, log_100 (by omega) (by omega), fun d' H6 d0' d1' hp6 b6 => ?_⟩
      obtain ⟨d2, rfl⟩ := Int.eq_ofNat_of_zero_le d0'
      exact kk d2 H6 d1' hp6 b6
    · exact k S l H5 (b1.trans b5) hp5 (none_but b1 (hp1.ne hS) hS) eS (by rw [lb]; omega) hb
end
end K82
end

section
set_option maxHeartbeats 4000000
/-! what is said of a thing that a law makes -/
namespace K82
open PySem PySem.Spec PyProof.Rows L2
theorem cut_lo (l : List Nat) (a : Nat) (ha : a ≤ l.length) : cutV (intsV l) none (some (a : Int)) = intsV (l.take a) := by
  unfold cutV
  rw [HT.sIx_nat, HT.sIx_none, intsV_length, Nat.min_eq_left ha, Nat.sub_zero, List.drop_zero]
  unfold intsV
  rw [List.map_take]
theorem cut_hi (l : List Nat) (a : Nat) (ha : a ≤ l.length) : cutV (intsV l) (some (a : Int)) none = intsV (l.drop a) := by
  unfold cutV
  rw [HT.sIx_nat, HT.sIx_none, intsV_length, Nat.min_eq_left ha]
  unfold intsV
  rw [List.map_drop, List.take_of_length_le (by rw [List.length_drop, List.length_map]; exact Nat.le_refl _)]
/-- the heap but for p -/
def Hid (p : Addr) (H : Hp) : Hp := fun a => if a = p then none else H a
theorem Hid.sub {p : Addr} {H : Hp} : Same (Hid p H) H := fun b o e => by
  unfold Hid at e
  split at e
  · cases e
  · exact e
theorem But.hid {p : Addr} {H H' : Hp} (h : But p H H') : Same (Hid p H) (Hid p H') := fun b o e => by
  unfold Hid at e ⊢
  split at e
  · cases e
  · rename_i n
    rw [if_neg n]
    exact h b o n e
theorem Hid.at_ {p a : Addr} {H : Hp} {o : HO} (n : a ≠ p) (e : H a = some o) : Hid p H a = some o := by
  unfold Hid
  rw [if_neg n]
  exact e
/-- small data -/
structure Sm (w dp : Nat) (d : PyData) : Prop where
  sh : d.showable = true
  lv : d.leavesShort 40 = true
  we : d.weight ≤ w
  de : d.depth ≤ dp
def smallB (w dp : Nat) (d : PyData) : Bool := d.showable && d.leavesShort 40 && decide (d.weight ≤ w) && decide (d.depth ≤ dp)
theorem Sm.of {w dp : Nat} {d : PyData} (h : smallB w dp d = true) : Sm w dp d := by
  unfold smallB at h
  simp only [Bool.and_eq_true, decide_eq_true_eq] at h
  exact ⟨h.1.1.1, h.1.1.2, h.1.2, h.2⟩
theorem sm_all {w dp : Nat} : ∀ {ds : List PyData}, (∀ d ∈ ds, Sm w dp d) → PyData.showableAll ds = true ∧ PyData.leavesShortAll 40 ds = true ∧ PyData.weightAll ds ≤ (w + 1) * ds.length ∧ PyData.depthAll ds ≤ dp
  | [], _ => ⟨rfl, rfl, by simp [PyData.weightAll], by simp [PyData.depthAll]⟩
  | d :: ds, h => by
    have h1 := h d (List.mem_cons_self ..)
    obtain ⟨a, b, c, e⟩ := sm_all fun x hx => h x (List.mem_cons_of_mem _ hx)
    refine ⟨?_, ?_, ?_, ?_⟩
    · simp only [PyData.showableAll, Bool.and_eq_true]; exact ⟨h1.sh, a⟩
    · simp only [PyData.leavesShortAll, Bool.and_eq_true]; exact ⟨h1.lv, b⟩
    · rw [List.length_cons, Nat.mul_succ]
      simp only [PyData.weightAll]
      have := h1.we
      omega
    · simp only [PyData.depthAll]
      have := h1.de
      omega
theorem Sm.list {w dp m : Nat} {ds : List PyData} (h : ∀ d ∈ ds, Sm w dp d) (l : ds.length ≤ m) : Sm ((w + 1) * m) (dp + 1) (.list ds) := by
  obtain ⟨a, b, c, e⟩ := sm_all h
  have z : (w + 1) * ds.length ≤ (w + 1) * m := Nat.mul_le_mul_left _ l
  refine ⟨?_, ?_, ?_, ?_⟩
  · simp only [PyData.showable]; exact a
  · simp only [PyData.leavesShort]; exact b
  · simp only [PyData.weight]; omega
  · simp only [PyData.depth]; omega
theorem Sm.tuple {w dp m : Nat} {ds : List PyData} (h : ∀ d ∈ ds, Sm w dp d) (l : ds.length ≤ m) : Sm ((w + 1) * m) (dp + 1) (.tuple ds) := by
  obtain ⟨a, b, c, e⟩ := sm_all h
  have z : (w + 1) * ds.length ≤ (w + 1) * m := Nat.mul_le_mul_left _ l
  refine ⟨?_, ?_, ?_, ?_⟩
  · simp only [PyData.showable]; exact a
  · simp only [PyData.leavesShort]; exact b
  · simp only [PyData.weight]; omega
  · simp only [PyData.depth]; omega
theorem Sm.mono {w w' dp dp' : Nat} {d : PyData} (h : Sm w dp d) (a : w ≤ w') (b : dp ≤ dp') : Sm w' dp' d := ⟨h.sh, h.lv, Nat.le_trans h.we a, Nat.le_trans h.de b⟩
theorem Sm.shown {w dp : Nat} {d : PyData} (h : Sm w dp d) : d.shown.length ≤ 42 * w + 40 := by
  have := PyData.shown_le 40 (by decide) d h.lv
  have := Nat.mul_le_mul_left 42 h.we
  omega
/-- what repr asks -/
def R3 (d : PyData) : Prop := d.showable = true ∧ d.depth ≤ 40 ∧ d.shown.length ≤ sizeLine
theorem Sm.r3 {w dp : Nat} {d : PyData} (h : Sm w dp d) (a : w ≤ 300000) (b : dp ≤ 40) : R3 d := ⟨h.sh, Nat.le_trans h.de b, by
  have := h.shown
  rw [sizeLine_eq]
  omega⟩
def leafB (d : PyData) : Bool := smallB 100 3 d && (match d with | .str z => decide (z.length ≤ 5000) && z.cps.toList.all (fun c => decide (c < 1114112)) | _ => true)
structure Leaf (d : PyData) : Prop where
  sm : Sm 100 3 d
  len : ∀ z, d = .str z → z.length ≤ 5000 ∧ ∀ c ∈ z.cps.toList, c < 1114112
theorem Leaf.of {d : PyData} (h : leafB d = true) : Leaf d := by
  unfold leafB at h
  rw [Bool.and_eq_true] at h
  refine ⟨Sm.of h.1, fun z e => ?_⟩
  subst e
  have h2 := h.2
  dsimp only at h2
  rw [Bool.and_eq_true] at h2
  exact ⟨of_decide_eq_true h2.1, fun c hc => of_decide_eq_true (List.all_eq_true.mp h2.2 c hc)⟩
theorem Leaf.tame {d : PyData} (h : Leaf d) : Tame d := ⟨h.len, h.sm.sh, Nat.le_trans h.sm.de (by decide), Nat.le_trans h.sm.shown (by decide)⟩
theorem leaf_int : ∀ {n : Nat}, n ≤ 100 → Leaf (.int (n : Int)) := fun {n} h => by
  have e : ∀ k ∈ List.range 101, leafB (.int ((k : Nat) : Int)) = true := by decide +kernel
  exact Leaf.of (e n (List.mem_range.mpr (by omega)))
theorem leaf_ints {l : List Nat} (h : ∀ x ∈ l, x ≤ 100) : ∀ e ∈ intsD l, Leaf e := fun e he => by
  obtain ⟨n, hn, rfl⟩ := List.mem_map.mp he
  exact leaf_int (h n hn)
/-- a part of a thing: a text, or none -/
structure Part (d : PyData) : Prop where
  sm : Sm 60600 4 d
  el : ∀ e ∈ elsD d, Tame e
  ln : (elsD d).length ≤ 600
theorem Part.list {ds : List PyData} (h : ∀ d ∈ ds, Leaf d) (l : ds.length ≤ 600) : Part (.list ds) := ⟨(Sm.list (m := 600) (fun d hd => (h d hd).sm) l), fun e he => (h e he).tame, l⟩
theorem Part.tuple {ds : List PyData} (h : ∀ d ∈ ds, Leaf d) (l : ds.length ≤ 600) : Part (.tuple ds) := ⟨(Sm.tuple (m := 600) (fun d hd => (h d hd).sm) l), fun e he => (h e he).tame, l⟩
theorem Part.non : Part .none := ⟨Sm.of (by decide +kernel), (fun e he => by cases he), (by show 0 ≤ 600; decide)⟩
/-- a thing that a law makes -/
structure Good (d : PyData) : Prop where
  el : ∀ x ∈ elsD d, (∀ e ∈ elsD x, Tame e) ∧ (elsD x).length ≤ 1000
  ln : (elsD d).length ≤ 1000
  r3 : R3 d
theorem Good.tuple {a b : PyData} (ha : Part a) (hb : Part b) : Good (.tuple [a, b]) := by
  have h : ∀ d ∈ [a, b], Part d := fun d hd => by
    rcases List.mem_cons.mp hd with z | z
    · rw [z]; exact ha
    · rw [List.mem_singleton.mp z]; exact hb
  exact ⟨fun x hx => ⟨(h x hx).el, Nat.le_trans (h x hx).ln (by decide)⟩, (by show 2 ≤ 1000; decide), (Sm.tuple (m := 2) (fun d hd => (h d hd).sm) (Nat.le_refl _)).r3 (by decide) (by decide)⟩
theorem Good.list {a b : PyData} (ha : Part a) (hb : Part b) : Good (.list [a, b]) := by
  have h : ∀ d ∈ [a, b], Part d := fun d hd => by
    rcases List.mem_cons.mp hd with z | z
    · rw [z]; exact ha
    · rw [List.mem_singleton.mp z]; exact hb
  exact ⟨fun x hx => ⟨(h x hx).el, Nat.le_trans (h x hx).ln (by decide)⟩, (by show 2 ≤ 1000; decide), (Sm.list (m := 2) (fun d hd => (h d hd).sm) (Nat.le_refl _)).r3 (by decide) (by decide)⟩
def goodB (d : PyData) : Bool := (elsD d).all (fun x => (elsD x).all leafB && decide ((elsD x).length ≤ 1000)) && decide ((elsD d).length ≤ 1000) && d.showable && decide (d.depth ≤ 40) && decide (d.shown.length ≤ 1000)
theorem Good.of {d : PyData} (h : goodB d = true) : Good d := by
  unfold goodB at h
  simp only [Bool.and_eq_true, decide_eq_true_eq] at h
  obtain ⟨⟨⟨⟨h1, h2⟩, h3⟩, h4⟩, h5⟩ := h
  refine ⟨fun x hx => ?_, h2, h3, h4, Nat.le_trans h5 (by decide)⟩
  have := List.all_eq_true.mp h1 x hx
  rw [Bool.and_eq_true] at this
  exact ⟨fun e he => (Leaf.of (List.all_eq_true.mp this.1 e he)).tame, of_decide_eq_true this.2⟩
/-! ### terms that make data -/
def MkD (p : Addr) (H0 : Hp) (σ : L2.St) (te : TE) (d : PyData) : Prop := ∀ (H : Hp) (Q : VK), But p H0 H → PotAt H p → (∀ v H', But p H H' → PotAt H' p → Dx (Hid p H') v d → Q v H') → te σ H Q
def MkA (p : Addr) (H0 : Hp) (σ : L2.St) (ta : TA) (ds : List PyData) : Prop := ∀ (H : Hp) (Q : List V → Hp → Prop), But p H0 H → PotAt H p → (∀ vs H', But p H H' → PotAt H' p → DxAll (Hid p H') vs ds → Q vs H') → ta σ H Q
section
variable {p : Addr} {H0 : Hp} {σ : L2.St}
theorem mk_c {v : V} {d : PyData} (h : ∀ H, Dx H v d) : MkD p H0 σ (tC v) d := fun H Q b hp k => k v H But.rfl hp (h _)
theorem mk_var {i : Nat} {v : V} {d : PyData} (e : σ[i]? = some (some v)) (h : Dx (Hid p H0) v d) : MkD p H0 σ (tVar i) d := fun H Q b hp k => ⟨v, e, k v H But.rfl hp (h.same b.hid)⟩
theorem mkA_nil : MkA p H0 σ tNil [] := fun H Q b hp k => k [] H But.rfl hp .nil
theorem mkA_cons {te : TE} {ta : TA} {d : PyData} {ds : List PyData} (h : MkD p H0 σ te d) (h2 : MkA p H0 σ ta ds) : MkA p H0 σ (tCons te ta) (d :: ds) := fun H Q b hp k => h H _ b hp fun v H1 b1 hp1 dv => h2 H1 _ (b.trans b1) hp1 fun vs H2 b2 hp2 dvs => k (v :: vs) H2 (b1.trans b2) hp2 (.cons (dv.same b2.hid) dvs)
theorem mk_lst {ta : TA} {ds : List PyData} (h : MkA p H0 σ ta ds) (l : ds.length ≤ 1000) : MkD p H0 σ (tLst ta) (.list ds) := fun H Q b hp k => h H _ b hp fun vs H1 b1 hp1 dvs => ⟨by rw [dvs.length, sizeLine_eq]; omega, fun a ha => k (.ref a) _ (b1.trans (But.new ha)) (hp1.same (Same.new ha)) (.lst (Hid.at_ (hp1.ne ha) upd_same) (dvs.same (But.new ha).hid))⟩
theorem mk_tup {ta : TA} {ds : List PyData} (h : MkA p H0 σ ta ds) (l : ds.length ≤ 1000) : MkD p H0 σ (tTup ta) (.tuple ds) := fun H Q b hp k => h H _ b hp fun vs H1 b1 hp1 dvs => ⟨by rw [dvs.length, sizeLine_eq]; omega, fun a ha => k (.ref a) _ (b1.trans (But.new ha)) (hp1.same (Same.new ha)) (.tup (Hid.at_ (hp1.ne ha) upd_same) (dvs.same (But.new ha).hid))⟩
theorem mk_dnew : MkD p H0 σ tDNewK (.dict []) := fun H Q b hp k a ha => k (.ref a) _ (But.new ha) (hp.same (Same.new ha)) (.dic (kvs := []) (ds := []) (Hid.at_ (hp.ne ha) upd_same) .nil)
theorem mk_disp (i j : Int) : MkD p H0 σ (tDisp [(tC (.int i), tC (.int j))]) (.dict [(.int i, .int j)]) := fun H Q b hp k a ha => by
  refine ⟨upd_same, [(.inl i, .int j)], rfl, (by show 1 ≤ 15; decide), ?_⟩
  have e : mergeK [] [((.inl i : Key), V.int j)] = [(.inl i, .int j)] := rfl
  rw [e]
  refine k (.ref a) _ ?_ ?_ ?_
  · intro x o n ex
    rw [upd_ne (ne_of_none ex ha), upd_ne (ne_of_none ex ha)]
    exact ex
  · obtain ⟨u1, u2, e, k⟩ := hp
    exact ⟨u1, u2, by rw [upd_ne (ne_of_none e ha), upd_ne (ne_of_none e ha)]; exact e, k⟩
  · exact .dic (kvs := [(.inl i, .int j)]) (ds := [.int j]) (Hid.at_ (hp.ne ha) upd_same) (.cons (.int j) .nil)
theorem gN {i : Nat} {x : V} {σ : L2.St} {H : Hp} {k : L2.St → Hp → Prop} (h : k (σ.set i (some x)) H) : gName i x σ H k := h
theorem seq_set {te : TE} {i : Nat} {S : TS} {D : Ends} {σ : L2.St} {H : Hp} (h : te σ H (fun v H' => S D (σ.set i (some v)) H')) : tSeq (tAsg te (gName i)) S D σ H := h
theorem DxAll.app {H : Hp} : ∀ {vs : List V} {ds : List PyData} {us : List V} {es : List PyData}, DxAll H vs ds → DxAll H us es → DxAll H (vs ++ us) (ds ++ es)
  | _, _, _, _, .nil, h => h
  | _, _, _, _, .cons a b, h => .cons a (b.app h)
theorem mk_cat {ta tb : TE} {xs ys : List PyData} (h : MkD p H0 σ ta (.list xs)) (h2 : MkD p H0 σ tb (.list ys)) (lx : xs.length ≤ 500) (ly : ys.length ≤ 500) : MkD p H0 σ (tOp rCat ta tb) (.list (xs ++ ys)) := fun H Q b hp k => h H _ b hp fun v H1 b1 hp1 dv => h2 H1 _ (b.trans b1) hp1 fun u H2 b2 hp2 du => by
  have dv2 := dv.same b2.hid
  cases dv2 with
  | @lst a vs ds ea all =>
    cases du with
    | @lst a' us es ea' all' =>
      refine ⟨a, a', vs, us, rfl, rfl, Hid.sub _ _ ea, Hid.sub _ _ ea', by rw [all.length, all'.length, sizeLine_eq]; omega, fun c hc => ?_⟩
      exact k (.ref c) _ (b1.trans (b2.trans (But.new hc))) (hp2.same (Same.new hc)) (.lst (Hid.at_ (hp2.ne hc) upd_same) ((all.same (But.new hc).hid).app (all'.same (But.new hc).hid)))
theorem mk_lo {K : PySem.W.Frag} {i j : Nat} {a : Addr} {l : List Nat} {n : Nat} (ei : σ[i]? = some (some (.ref a))) (ea : Hid p H0 a = some (.lst (intsV l))) (ej : σ[j]? = some (some (.int (n : Int)))) (hn : n ≤ l.length) : MkD p H0 σ (tSl (rSlL K) (tVar i) tNoPart (tPart (tVar j))) (.list (intsD (l.take n))) := fun H Q b hp k => by
  refine ⟨_, ei, _, ej, _, rfl, a, _, rfl, SqL.of (Hid.sub _ _ (b.hid _ _ ea)), fun c hc => ?_⟩
  rw [cut_lo l n hn]
  exact k (.ref c) _ (But.new hc) (hp.same (Same.new hc)) (.lst (Hid.at_ (hp.ne hc) upd_same) (dx_ints _))
theorem mk_hi {K : PySem.W.Frag} {i j : Nat} {a : Addr} {l : List Nat} {n : Nat} (ei : σ[i]? = some (some (.ref a))) (ea : Hid p H0 a = some (.lst (intsV l))) (ej : σ[j]? = some (some (.int (n : Int)))) (hn : n ≤ l.length) : MkD p H0 σ (tSl (rSlL K) (tVar i) (tPart (tVar j)) tNoPart) (.list (intsD (l.drop n))) := fun H Q b hp k => by
  refine ⟨_, ei, _, ej, _, rfl, a, _, rfl, SqL.of (Hid.sub _ _ (b.hid _ _ ea)), fun c hc => ?_⟩
  rw [cut_hi l n hn]
  exact k (.ref c) _ (But.new hc) (hp.same (Same.new hc)) (.lst (Hid.at_ (hp.ne hc) upd_same) (dx_ints _))
end
theorem DxAll.mem {H : Hp} : ∀ {vs : List V} {ds : List PyData} {v : V}, DxAll H vs ds → v ∈ vs → ∃ d ∈ ds, Dx H v d
  | _, _, _, .nil, h => by cases h
  | _, _, _, .cons a b, h => by
    rcases List.mem_cons.mp h with z | z
    · rw [z]; exact ⟨_, List.mem_cons_self .., a⟩
    · obtain ⟨d, h1, h2⟩ := b.mem z
      exact ⟨d, List.mem_cons_of_mem _ h1, h2⟩
def spOdd : Sp := fun vs H Q _ => ∃ (pt : Addr) (sz : Nat) (t : Addr) (l : List Nat), vs = [.ref pt, .int (sz : Int), .ref t] ∧ PotAt H pt ∧ t ≠ pt ∧ H t = some (.lst (intsV l)) ∧ l.length ≤ 100 ∧ (∀ x ∈ l, x ≤ 100) ∧ sz ≤ 100 ∧
  ∀ (v : V) (d : PyData) (H' : Hp), But pt H H' → PotAt H' pt → Dx (Hid pt H') v d → Good d → Q v H'
theorem mkA_pick {K : PySem.W.Frag} {E : XK} {pt : Addr} {H : Hp} {σ : L2.St} {te : TE} {ds : List PyData} {R : VK} (m : MkD pt H σ te (.list ds)) (hp : PotAt H pt) (l0 : 0 < ds.length) (l1 : ds.length ≤ 1000) (e0 : σ[0]? = some (some (.ref pt))) (k : ∀ (v : V) (d : PyData) (H' : Hp), But pt H H' → PotAt H' pt → d ∈ ds → Dx (Hid pt H') v d → R v H') : (tCons (tVar 0) (tCons te tNil)) σ H (fun xs H1 => spPick K xs H1 R E) := by
  refine ⟨_, e0, ?_⟩
  refine m H _ But.rfl hp fun v H1 b1 hp1 dv => ?_
  cases dv with
  | @lst a vs ds ea all =>
    have na : a ≠ pt := fun z => by
      rw [z] at ea
      unfold Hid at ea
      rw [if_pos rfl] at ea
      cases ea
    refine ⟨pt, .ref a, rfl, hp1, .inr ⟨a, vs, rfl, na, Hid.sub _ _ ea, by rw [all.length]; exact l0, by rw [all.length]; exact l1, fun x H2 hx hp2 b2 => ?_⟩⟩
    obtain ⟨d, hd, dx⟩ := all.mem hx
    exact k x d H2 (b1.trans b2) hp2 hd (dx.same b2.hid)
section
variable {P : Program} {w : World} {K : PySem.W.Frag} {mg : Str → Option Value} {base : Heap} {ad : Str → Addr} {fd : Str → FuncData}
theorem scOdd : FnScope ["_law_pot_here", "_law_size", "_law_text_here", "_law_wrong", "_law_at", "_law_spoilt", "_law_some"] ["_law_pot_here", "_law_size", "_law_text_here"] (defScope sOdd) := ⟨rfl, rfl, rfl, by decide +kernel, rfl, by decide +kernel, by decide +kernel⟩
theorem ok_odd (X : Tx K mg ad fd) : FnOk P w K mg base CX0 3 (ad "_law_odd") (fd "_law_odd") ["_law_pot_here", "_law_size", "_law_text_here"] spOdd := by
  have G__law_draw := ok_draw (P := P) (w := w) (base := base) X
  have G__law_pick := ok_pick (P := P) (w := w) (base := base) X
  refine X.F__law_odd.ok scOdd (fun vs H Q E h => ?_) (fun cdv A outer s H vs Q E hr h => ?_)
  · obtain ⟨pt, sz, t, l, rfl, _⟩ := h
    rfl
  · obtain ⟨pt, sz, t, l, rfl, hp, nt, et, ll, lx, hs, k⟩ := h
    have HR__law_draw : Room 1 _ := hr.mono (by decide)
    have HR__law_pick := hr
    refine ⟨_, (pss_cons (ps_set (i := 3) scOdd.nd rfl (.inl rfl) (by exact (pe_call G__law_pick HR__law_pick (by rfl) X.g__law_pick X.F__law_pick.kp X.b__law_pick .nil pass0 (pa_cons (pv 0) (pa_cons (pe_lst (pa_cons pe_non (pa_cons pe_bl (pa_cons (pe_un un_neg pe_int) (pa_cons (pv 1) (pa_cons pe_str (pa_cons (pe_tup (pa_cons pe_int pa_nil)) (pa_cons (pe_lst (pa_cons pe_int pa_nil)) (pa_cons (pe_op op_pow pe_int pe_int) (pa_cons pe_bl pa_nil)))))))))) pa_nil)))))
  (pss_cons (ps_set (i := 4) scOdd.nd rfl (.inl rfl) (by exact (pe_call G__law_draw HR__law_draw (by rfl) X.g__law_draw X.F__law_draw.kp X.b__law_draw .nil pass0 (pa_cons (pv 0) (pa_cons (pe_op op_add (pe_callB call_len (by rfl) X.m_len (by decide +kernel) (pa_cons (pv 2) pa_nil)) pe_int) pa_nil)))))
  (pss_cons (ps_set (i := 5) scOdd.nd rfl (.inl rfl) (by exact (pe_op op_cat (pe_op op_cat (pe_slice sl_list (pv 2) po_none (po_some (pv 4))) (pe_lst (pa_cons (pv 3) pa_nil))) (pe_slice sl_list (pv 2) (po_some (pv 4)) po_none))))
  (pss_cons (ps_set (i := 6) scOdd.nd rfl (.inl rfl) (by exact (pe_lst (pa_cons pe_non (pa_cons pe_int (pa_cons pe_bl (pa_cons pe_str (pa_cons (pe_lst pa_nil) (pa_cons (pe_tup pa_nil) (pa_cons pe_dnewK (pa_cons (pe_tup (pa_cons (pe_lst pa_nil) pa_nil)) (pa_cons (pe_tup (pa_cons (pe_lst (pa_cons pe_int pa_nil)) pa_nil)) (pa_cons (pe_lst (pa_cons (pe_lst (pa_cons pe_int pa_nil)) (pa_cons (pe_lst (pa_cons pe_int pa_nil)) pa_nil))) (pa_cons (pe_tup (pa_cons (pe_lst pa_nil) (pa_cons (pe_lst pa_nil) pa_nil))) (pa_cons (pe_tup (pa_cons (pe_lst (pa_cons pe_int pa_nil)) (pa_cons (pe_lst (pa_cons pe_int pa_nil)) (pa_cons (pe_lst (pa_cons pe_int pa_nil)) pa_nil)))) (pa_cons pe_str (pa_cons (pe_tup (pa_cons pe_str (pa_cons pe_str pa_nil))) pa_nil)))))))))))))))))
  (pss_cons (ps_set (i := 6) scOdd.nd rfl (.inl rfl) (by exact (pe_op op_cat (pv 6) (pe_lst (pa_cons (pe_tup (pa_cons (pv 5) (pa_cons (pe_op op_cat (pv 2) (pe_lst (pa_cons pe_int pa_nil))) pa_nil))) (pa_cons (pe_tup (pa_cons (pe_op op_cat (pv 2) (pe_lst (pa_cons pe_int pa_nil))) (pa_cons (pv 5) pa_nil))) (pa_cons (pe_tup (pa_cons (pv 5) (pa_cons (pv 5) pa_nil))) (pa_cons (pe_tup (pa_cons (pe_disp (pps_cons pe_int pe_int pps_nil) rfl rfl (fun z => nomatch z) (by show 1 ≤ 15; decide)) (pa_cons (pe_disp (pps_cons pe_int pe_int pps_nil) rfl rfl (fun z => nomatch z) (by show 1 ≤ 15; decide)) pa_nil))) (pa_cons (pe_tup (pa_cons pe_non (pa_cons (pv 2) pa_nil))) pa_nil)))))))))
  (pss_one (ps_ret (by exact (pe_call G__law_pick HR__law_pick (by rfl) X.g__law_pick X.F__law_pick.kp X.b__law_pick .nil pass0 (pa_cons (pv 0) (pa_cons (pv 6) pa_nil))))))))))), ?_⟩
    have T0 : Hid pt H t = some (.lst (intsV l)) := Hid.at_ nt et
    refine mkA_pick (ds := [.none, .bool true, .int (-1), .int (sz : Int), .str "0", .tuple [.int 0], .list [.int 0], .int (10 ^ 20), .bool false]) (mk_lst (mkA_cons (mk_c fun _ => .non) (mkA_cons (mk_c fun _ => .bl _) (mkA_cons (fun H Q b hp k => ⟨_, rfl, k _ _ But.rfl hp (.int _)⟩) (mkA_cons (mk_var rfl (.int _)) (mkA_cons (mk_c fun _ => .str _) (mkA_cons (mk_tup (mkA_cons (mk_c fun _ => .int _) mkA_nil) (by show 1 ≤ 1000; decide)) (mkA_cons (mk_lst (mkA_cons (mk_c fun _ => .int _) mkA_nil) (by show 1 ≤ 1000; decide)) (mkA_cons (fun H Q b hp k => ⟨_, _, rfl, rfl, ⟨by decide, by decide, by decide⟩, k _ _ But.rfl hp (.int _)⟩) (mkA_cons (mk_c fun _ => .bl _) mkA_nil))))))))) (by show 9 ≤ 1000; decide)) hp (by show 0 < 9; decide) (by show 9 ≤ 1000; decide) rfl fun wv wd H1 b1 hp1 hw dw => ?_
    have lw : Leaf wd := by
      simp only [List.mem_cons, List.not_mem_nil, or_false] at hw
      rcases hw with rfl | rfl | rfl | rfl | rfl | rfl | rfl | rfl | rfl
      · exact Leaf.of (by decide +kernel)
      · exact Leaf.of (by decide +kernel)
      · exact Leaf.of (by decide +kernel)
      · exact leaf_int hs
      · exact Leaf.of (by decide +kernel)
      · exact Leaf.of (by decide +kernel)
      · exact Leaf.of (by decide +kernel)
      · exact Leaf.of (by decide +kernel)
      · exact Leaf.of (by decide +kernel)
    have T1 := b1.hid _ _ T0
    refine ⟨.ref pt, rfl, .ref t, rfl, .ref t, _, rfl, .inl ⟨_, SqL.of (Hid.sub _ _ T1), rfl⟩, l.length, 1, by rw [intsV_length], rfl, pt, (l.length : Int) + 1, rfl, hp1, by omega, log_100 (by omega) (by omega), fun at0 H2 a0 a1 hp2 b2 => ?_⟩
    obtain ⟨at', rfl⟩ := Int.eq_ofNat_of_zero_le a0
    have al : at' ≤ l.length := by omega
    have T2 := b2.hid _ _ T1
    have dw2 := dw.same b2.hid
    refine mk_cat (mk_cat (mk_lo (a := t) (l := l) (n := at') rfl T2 rfl al) (mk_lst (mkA_cons (mk_var rfl dw2) mkA_nil) (by show 1 ≤ 1000; decide)) (by rw [intsD, List.length_map, List.length_take]; omega) (by show 1 ≤ 500; decide)) (mk_hi (a := t) (l := l) (n := at') rfl T2 rfl al) (by rw [List.length_append, intsD, List.length_map, List.length_take]; show _ + 1 ≤ 500; omega) (by rw [intsD, List.length_map, List.length_drop]; omega) H2 _ But.rfl hp2 fun sv H3 b3 hp3 dS => ?_
    have T3 := b3.hid _ _ T2
    have lSP : ∀ e ∈ intsD (l.take at') ++ [wd] ++ intsD (l.drop at'), Leaf e := fun e he => by
      rcases List.mem_append.mp he with he | he
      · rcases List.mem_append.mp he with he | he
        · exact leaf_ints (fun x hx => lx x (List.mem_of_mem_take hx)) e he
        · rw [List.mem_singleton.mp he]; exact lw
      · exact leaf_ints (fun x hx => lx x (List.mem_of_mem_drop hx)) e he
    have nSP : (intsD (l.take at') ++ [wd] ++ intsD (l.drop at')).length ≤ 600 := by
      rw [List.length_append, List.length_append, intsD, List.length_map, List.length_take, intsD, List.length_map, List.length_drop]
      show _ + 1 + _ ≤ 600
      omega
    generalize intsD (l.take at') ++ [wd] ++ intsD (l.drop at') = SP at dS lSP nSP
    have lTX : ∀ e ∈ intsD l ++ [PyData.int 0], Leaf e := fun e he => by
      rcases List.mem_append.mp he with he | he
      · exact leaf_ints lx e he
      · rw [List.mem_singleton.mp he]; exact leaf_int (n := 0) (Nat.zero_le _)
    have nTX : (intsD l ++ [PyData.int 0]).length ≤ 600 := by
      rw [List.length_append, intsD, List.length_map]
      show _ + 1 ≤ 600
      omega
    have nL : (intsD l).length ≤ 600 := by rw [intsD, List.length_map]; omega
    have m1 : MkD pt H3 [some (.ref pt), some (.int (sz : Int)), some (.ref t), some wv, some (.int (at' : Int)), some sv, none] (tLst (tCons (tC .non) (tCons (tC (.int 0)) (tCons (tC (.bl true)) (tCons (tC (.str "")) (tCons (tLst tNil) (tCons (tTup tNil) (tCons tDNewK (tCons (tTup (tCons (tLst tNil) tNil)) (tCons (tTup (tCons (tLst (tCons (tC (.int 0)) tNil)) tNil)) (tCons (tLst (tCons (tLst (tCons (tC (.int 0)) tNil)) (tCons (tLst (tCons (tC (.int 1)) tNil)) tNil))) (tCons (tTup (tCons (tLst tNil) (tCons (tLst tNil) tNil))) (tCons (tTup (tCons (tLst (tCons (tC (.int 0)) tNil)) (tCons (tLst (tCons (tC (.int 1)) tNil)) (tCons (tLst (tCons (tC (.int 0)) tNil)) tNil)))) (tCons (tC (.str "ab")) (tCons (tTup (tCons (tC (.str "0")) (tCons (tC (.str "1")) tNil))) tNil))))))))))))))) (.list [.none, (.int 0), (.bool true), (.str ""), (.list []), (.tuple []), (.dict []), (.tuple [(.list [])]), (.tuple [(.list [(.int 0)])]), (.list [(.list [(.int 0)]), (.list [(.int 1)])]), (.tuple [(.list []), (.list [])]), (.tuple [(.list [(.int 0)]), (.list [(.int 1)]), (.list [(.int 0)])]), (.str "ab"), (.tuple [(.str "0"), (.str "1")])]) := (mk_lst (mkA_cons (mk_c fun _ => .non) (mkA_cons (mk_c fun _ => .int _) (mkA_cons (mk_c fun _ => .bl _) (mkA_cons (mk_c fun _ => .str _) (mkA_cons (mk_lst mkA_nil (by show 0 ≤ 1000; decide)) (mkA_cons (mk_tup mkA_nil (by show 0 ≤ 1000; decide)) (mkA_cons mk_dnew (mkA_cons (mk_tup (mkA_cons (mk_lst mkA_nil (by show 0 ≤ 1000; decide)) mkA_nil) (by show 1 ≤ 1000; decide)) (mkA_cons (mk_tup (mkA_cons (mk_lst (mkA_cons (mk_c fun _ => .int _) mkA_nil) (by show 1 ≤ 1000; decide)) mkA_nil) (by show 1 ≤ 1000; decide)) (mkA_cons (mk_lst (mkA_cons (mk_lst (mkA_cons (mk_c fun _ => .int _) mkA_nil) (by show 1 ≤ 1000; decide)) (mkA_cons (mk_lst (mkA_cons (mk_c fun _ => .int _) mkA_nil) (by show 1 ≤ 1000; decide)) mkA_nil)) (by show 2 ≤ 1000; decide)) (mkA_cons (mk_tup (mkA_cons (mk_lst mkA_nil (by show 0 ≤ 1000; decide)) (mkA_cons (mk_lst mkA_nil (by show 0 ≤ 1000; decide)) mkA_nil)) (by show 2 ≤ 1000; decide)) (mkA_cons (mk_tup (mkA_cons (mk_lst (mkA_cons (mk_c fun _ => .int _) mkA_nil) (by show 1 ≤ 1000; decide)) (mkA_cons (mk_lst (mkA_cons (mk_c fun _ => .int _) mkA_nil) (by show 1 ≤ 1000; decide)) (mkA_cons (mk_lst (mkA_cons (mk_c fun _ => .int _) mkA_nil) (by show 1 ≤ 1000; decide)) mkA_nil))) (by show 3 ≤ 1000; decide)) (mkA_cons (mk_c fun _ => .str _) (mkA_cons (mk_tup (mkA_cons (mk_c fun _ => .str _) (mkA_cons (mk_c fun _ => .str _) mkA_nil)) (by show 2 ≤ 1000; decide)) mkA_nil)))))))))))))) (by show 14 ≤ 1000; decide))
    refine gN ?_
    dsimp only
    refine seq_set ?_
    refine m1 H3 _ But.rfl hp3 fun mv H4 b4 hp4 dM => ?_
    replace dS := dS.same b4.hid
    have dT : Dx (Hid pt H4) (.ref t) (.list (intsD l)) := .lst (b4.hid _ _ T3) (dx_ints l)
    have m2 : MkD pt H4 [some (.ref pt), some (.int (sz : Int)), some (.ref t), some wv, some (.int (at' : Int)), some sv, some mv] (tOp rCat (tVar 6) (tLst (tCons (tTup (tCons (tVar 5) (tCons (tOp rCat (tVar 2) (tLst (tCons (tC (.int 0)) tNil))) tNil))) (tCons (tTup (tCons (tOp rCat (tVar 2) (tLst (tCons (tC (.int 0)) tNil))) (tCons (tVar 5) tNil))) (tCons (tTup (tCons (tVar 5) (tCons (tVar 5) tNil))) (tCons (tTup (tCons (tDisp [(tC (.int 0), tC (.int 0))]) (tCons (tDisp [(tC (.int 0), tC (.int 1))]) tNil))) (tCons (tTup (tCons (tC .non) (tCons (tVar 2) tNil))) tNil))))))) (.list ([.none, (.int 0), (.bool true), (.str ""), (.list []), (.tuple []), (.dict []), (.tuple [(.list [])]), (.tuple [(.list [(.int 0)])]), (.list [(.list [(.int 0)]), (.list [(.int 1)])]), (.tuple [(.list []), (.list [])]), (.tuple [(.list [(.int 0)]), (.list [(.int 1)]), (.list [(.int 0)])]), (.str "ab"), (.tuple [(.str "0"), (.str "1")])] ++ [(.tuple [(.list SP), (.list (intsD l ++ [.int 0]))]), (.tuple [(.list (intsD l ++ [.int 0])), (.list SP)]), (.tuple [(.list SP), (.list SP)]), (.tuple [(.dict [(.int 0, .int 0)]), (.dict [(.int 0, .int 1)])]), (.tuple [.none, (.list (intsD l))])])) := (mk_cat (mk_var rfl dM) (mk_lst (mkA_cons (mk_tup (mkA_cons (mk_var rfl dS) (mkA_cons (mk_cat (mk_var rfl dT) (mk_lst (mkA_cons (mk_c fun _ => .int _) mkA_nil) (by show 1 ≤ 1000; decide)) (by rw [intsD, List.length_map]; omega) (by show 1 ≤ 500; decide)) mkA_nil)) (by show 2 ≤ 1000; decide)) (mkA_cons (mk_tup (mkA_cons (mk_cat (mk_var rfl dT) (mk_lst (mkA_cons (mk_c fun _ => .int _) mkA_nil) (by show 1 ≤ 1000; decide)) (by rw [intsD, List.length_map]; omega) (by show 1 ≤ 500; decide)) (mkA_cons (mk_var rfl dS) mkA_nil)) (by show 2 ≤ 1000; decide)) (mkA_cons (mk_tup (mkA_cons (mk_var rfl dS) (mkA_cons (mk_var rfl dS) mkA_nil)) (by show 2 ≤ 1000; decide)) (mkA_cons (mk_tup (mkA_cons (mk_disp 0 0) (mkA_cons (mk_disp 0 1) mkA_nil)) (by show 2 ≤ 1000; decide)) (mkA_cons (mk_tup (mkA_cons (mk_c fun _ => .non) (mkA_cons (mk_var rfl dT) mkA_nil)) (by show 2 ≤ 1000; decide)) mkA_nil))))) (by show 5 ≤ 1000; decide)) (by show 14 ≤ 500; decide) (by show 5 ≤ 500; decide))
    refine seq_set ?_
    refine m2 H4 _ But.rfl hp4 fun nv H5 b5 hp5 dN => ?_
    refine mkA_pick (te := tVar 6) (ds := [.none, (.int 0), (.bool true), (.str ""), (.list []), (.tuple []), (.dict []), (.tuple [(.list [])]), (.tuple [(.list [(.int 0)])]), (.list [(.list [(.int 0)]), (.list [(.int 1)])]), (.tuple [(.list []), (.list [])]), (.tuple [(.list [(.int 0)]), (.list [(.int 1)]), (.list [(.int 0)])]), (.str "ab"), (.tuple [(.str "0"), (.str "1")])] ++ [(.tuple [(.list SP), (.list (intsD l ++ [.int 0]))]), (.tuple [(.list (intsD l ++ [.int 0])), (.list SP)]), (.tuple [(.list SP), (.list SP)]), (.tuple [(.dict [(.int 0, .int 0)]), (.dict [(.int 0, .int 1)])]), (.tuple [.none, (.list (intsD l))])]) (mk_var (v := nv) rfl dN) hp5 (by show 0 < 19; decide) (by show 19 ≤ 1000; decide) rfl fun v d H6 b6 hp6 hd dv => ?_
    have bb := b1.trans (b2.trans (b3.trans (b4.trans (b5.trans b6))))
    refine k v d H6 bb hp6 dv ?_
    have pS : Part (.list SP) := Part.list lSP nSP
    have pT : Part (.list (intsD l ++ [.int 0])) := Part.list lTX nTX
    have pL : Part (.list (intsD l)) := Part.list (leaf_ints lx) nL
    rcases List.mem_append.mp hd with hd | hd
    · have e : [PyData.none, .int 0, .bool true, .str "", .list [], .tuple [], .dict [], .tuple [.list []], .tuple [.list [.int 0]], .list [.list [.int 0], .list [.int 1]], .tuple [.list [], .list []], .tuple [.list [.int 0], .list [.int 1], .list [.int 0]], .str "ab", .tuple [.str "0", .str "1"]].all goodB = true := by decide +kernel
      exact Good.of (List.all_eq_true.mp e d hd)
    · simp only [List.mem_cons, List.not_mem_nil, or_false] at hd
      rcases hd with rfl | rfl | rfl | rfl | rfl
      · exact Good.tuple pS pT
      · exact Good.tuple pT pS
      · exact Good.tuple pS pS
      · exact Good.of (by decide +kernel)
      · exact Good.tuple Part.non pL
end
end K82
end

section
set_option maxHeartbeats 4000000
/-! near a clash -/
namespace K82
open PySem PySem.Spec PyProof.Rows L2
theorem seq_joinS {a b : TS} {D : Ends} {σ : L2.St} {H : Hp} (I : L2.St → Hp → Prop) (h1 : ∀ N : L2.St → Hp → Prop, (∀ σ' G, I σ' G → N σ' G) → a { D with nx := N } σ H) (h2 : ∀ σ' G, I σ' G → b D σ' G) : tSeq a b D σ H := h1 _ h2
theorem way_if {i : Nat} {k w : Int} {S : TS} {B : TS} {D : Ends} {σ : L2.St} {H : Hp} (e : σ[i]? = some (some (.int w))) (h1 : w = k → S { D with nx := B D } σ H) (h2 : w ≠ k → B D σ H) : tSeq (tIfS (tTest (tOp rEq (tVar i) (tC (.int k)))) S tNext) B D σ H := by
  refine ⟨_, e, rfl, _, rfl, ?_⟩
  by_cases z : w = k
  · exact ifT (by rw [z]; simp) (h1 z)
  · exact ifF (decide_eq_false fun y => z (V.int.inj y)) (h2 z)
abbrev rTupOf (K : PySem.W.Frag) : List V → Hp → VK → Prop := fun xs H Q => ∃ p ys, xs = [V.ref p] ∧ ((SqL K H p ys ∧ ∀ (l : Addr), H l = none → Q (V.ref l) (upd H l (HO.tup ys))) ∨ SqT K H p ys ∧ Q (V.ref p) H)
abbrev rListOf (K : PySem.W.Frag) : List V → Hp → VK → Prop := fun xs H Q => ∃ p ys, xs = [V.ref p] ∧ (SqL K H p ys ∨ SqT K H p ys) ∧ ∀ (l : Addr), H l = none → Q (V.ref l) (upd H l (HO.lst ys))
section
variable {K : PySem.W.Frag} {p : Addr} {H0 : Hp} {σ : L2.St} {i : Nat} {v : V} {ds : List PyData}
theorem mk_tupof (e : σ[i]? = some (some v)) (h : Dx (Hid p H0) v (.list ds)) : MkD p H0 σ (tCB (rTupOf K) (tCons (tVar i) tNil)) (.tuple ds) := fun H Q b hp k => by
  have h2 := h.same b.hid
  cases h2 with
  | @lst a vs ds ea all => exact ⟨_, e, a, vs, rfl, .inl ⟨SqL.of (Hid.sub _ _ ea), fun l hl => k _ _ (But.new hl) (hp.same (Same.new hl)) (.tup (Hid.at_ (hp.ne hl) upd_same) (all.same (But.new hl).hid))⟩⟩
theorem mk_listof (e : σ[i]? = some (some v)) (h : Dx (Hid p H0) v (.list ds)) : MkD p H0 σ (tCB (rListOf K) (tCons (tVar i) tNil)) (.list ds) := fun H Q b hp k => by
  have h2 := h.same b.hid
  cases h2 with
  | @lst a vs ds ea all => exact ⟨_, e, a, vs, rfl, .inl (SqL.of (Hid.sub _ _ ea)), fun l hl => k _ _ (But.new hl) (hp.same (Same.new hl)) (.lst (Hid.at_ (hp.ne hl) upd_same) (all.same (But.new hl).hid))⟩
end
theorem PotAt.hid {H H' : Hp} {p a : Addr} (h : PotAt H p) (n : H a = none) : a ≠ p := h.ne n
/-- what clash told: none, or a pair of texts -/
def ToldN (p : Addr) (sz : Nat) (H : Hp) (v : V) : Prop := v = .non ∨ ∃ (t l1 l2 : Addr) (ws os : List Nat), v = .ref t ∧ Hid p H t = some (.tup [.ref l1, .ref l2]) ∧ Hid p H l1 = some (.lst (intsV ws)) ∧ Hid p H l2 = some (.lst (intsV os)) ∧ ws.length ≤ 300 ∧ os.length = ws.length ∧ (∀ x ∈ ws, x < sz) ∧ ∀ x ∈ os, x < sz
theorem ToldN.but {p : Addr} {sz : Nat} {H H' : Hp} {v : V} (h : ToldN p sz H v) (b : But p H H') : ToldN p sz H' v := h.elim .inl fun ⟨t, l1, l2, ws, os, e, e1, e2, e3, r⟩ => .inr ⟨t, l1, l2, ws, os, e, b.hid _ _ e1, b.hid _ _ e2, b.hid _ _ e3, r⟩
def spClashN (C R : Addr) : Sp := fun vs H Q _ => ∃ (pt a : Addr) (p q : Int) (c : Ch) (lead : Str) (sz : Nat), vs = [.ref a] ∧ PotAt H pt ∧ CodO C R H a p q c lead ∧ WfC c ∧ c.length ≤ 4 ∧ 1 ≤ sz ∧ sz ≤ 64 ∧ (∀ r ∈ c, r.length = sz) ∧
  ∀ v H', But pt H H' → PotAt H' pt → ToldN pt sz H' v → Q v H'
theorem clash_len {c : Ch} {sz : Nat} {ws os : List Nat} (h : Clash c sz ws os) : os.length = ws.length := by
  have e := congrArg (fun x => x.1.length) h.way
  rw [wayF_len, wayF_len] at e
  exact e.symm
theorem clash_sp {C R : Addr} {vs : List V} {H : Hp} {Q : VK} {E : XK} (h : spClashN C R vs H Q E) : spClash C R vs H Q E := by
  obtain ⟨pt, a, p, q, c, lead, sz, rfl, hp, cod, wf, c4, s1, s2, rl, k⟩ := h
  refine ⟨a, p, q, c, lead, sz, rfl, cod, wf, by omega, s1, s2, rl, fun _ H' s => k _ _ (But.same s) (hp.same s) (.inl rfl), fun ws os t l1 l2 H' C least ln s n1 n2 e e1 e2 => ?_⟩
  refine k _ _ (But.same s) (hp.same s) (.inr ⟨t, l1, l2, ws, os, rfl, Hid.at_ (fun z => ?_) e, Hid.at_ (hp.ne n1) e1, Hid.at_ (hp.ne n2) e2, by omega, clash_len C, C.w1, C.w2⟩)
  obtain ⟨u1, u2, ep, _⟩ := hp.same s
  rw [z, ep] at e
  cases e
def spNear (C R : Addr) : Sp := fun vs H Q _ => ∃ (pt a : Addr) (p q : Int) (c : Ch) (lead : Str) (sz : Nat), vs = [.ref pt, .ref a, .int (sz : Int)] ∧ PotAt H pt ∧ CodO C R H a p q c lead ∧ WfC c ∧ c.length ≤ 4 ∧ 1 ≤ sz ∧ sz ≤ 64 ∧ (∀ r ∈ c, r.length = sz) ∧
  ∀ (v : V) (d : PyData) (H' : Hp), But pt H H' → PotAt H' pt → Dx (Hid pt H') v d → Good d → Q v H'
section
variable {P : Program} {w : World} {K : PySem.W.Frag} {mg : Str → Option Value} {base : Heap} {ad : Str → Addr} {fd : Str → FuncData}
theorem scNear : FnScope ["_law_pot_here", "_law_made", "_law_size", "_law_told", "_law_text_here", "_law_mate", "_law_more", "_law_way", "_law_at"] ["_law_pot_here", "_law_made", "_law_size"] (defScope sNear) := ⟨rfl, rfl, rfl, by decide +kernel, rfl, by decide +kernel, by decide +kernel⟩
theorem ok_near (X : Tx K mg ad fd) (RC : RateC K mg ad fd) (CC : CoderC K mg ad fd) (CM : CoderM K mg ad fd) (CP : CoderP K mg ad fd) (CE : CoderE K mg ad fd) (CH : CoderW K mg ad fd) : FnOk P w K mg base CX0 6 (ad "_law_near") (fd "_law_near") ["_law_pot_here", "_law_made", "_law_size"] (spNear (ad "Coder") (ad "Rate")) := by
  have G_clash := (ok_clash (P := P) (w := w) (base := base) X RC CC CM CP CE CH).imp (sp' := spClashN (ad "Coder") (ad "Rate")) fun vs H Q E h => clash_sp h
  have G__law_draw := ok_draw (P := P) (w := w) (base := base) X
  have G__law_text := ok_drawn (P := P) (w := w) (base := base) X
  refine X.F__law_near.ok scNear (fun vs H Q E h => ?_) (fun cdv A outer s H vs Q E hr h => ?_)
  · obtain ⟨pt, a, p, q, c, lead, sz, rfl, _⟩ := h
    rfl
  · obtain ⟨pt, a, p, q, c, lead, sz, rfl, hp, cod, wf, c4, s1, s2, rl, k⟩ := h
    have HR_clash : Room 5 _ := hr
    have HR__law_text : Room 3 _ := hr.mono (by decide)
    have HR__law_draw : Room 1 _ := hr.mono (by decide)
    have hu64 : (A.deeper (envOfC "_law_near" (defScope sNear) s.heap.objs.size (ad "_law_near") cdv)).units + 64 < cLine := hr.units
    refine ⟨_, (pss_cons (ps_set (i := 3) scNear.nd rfl (.inl rfl) (by exact (pe_call G_clash HR_clash (by rfl) X.g_clash X.F_clash.kp X.b_clash .nil pass0 (pa_cons (pv 1) pa_nil))))
  (pss_cons (ps_par (i := 4) (j := 5) rfl scNear.nd rfl rfl (by decide) rfl rfl (by exact (pa_cons (pe_call G__law_text HR__law_text (by rfl) X.g__law_text X.F__law_text.kp X.b__law_text .nil pass0 (pa_cons (pv 0) (pa_cons (pv 2) (pa_cons pe_int pa_nil)))) (pa_cons (pe_call G__law_text HR__law_text (by rfl) X.g__law_text X.F__law_text.kp X.b__law_text .nil pass0 (pa_cons (pv 0) (pa_cons (pv 2) (pa_cons pe_int pa_nil)))) pa_nil))) (by rfl))
  (pss_cons (ps_set (i := 5) scNear.nd rfl (.inl rfl) (by exact (pe_slice sl_list (pe_op op_cat (pv 5) (pv 4)) po_none (po_some (pe_callB call_len (by rfl) X.m_len (by decide +kernel) (pa_cons (pv 4) pa_nil))))))
  (pss_cons (ps_if (PW.pt (pw_and (pt_cmpR op_notN (pv 3) pe_non (nomark _)) (pw_and1 (pt_cmpR op_gt (pe_call G__law_draw HR__law_draw (by rfl) X.g__law_draw X.F__law_draw.kp X.b__law_draw .nil pass0 (pa_cons (pv 0) (pa_cons pe_int pa_nil))) pe_int (nomark _)))))
  (pss_one (ps_asg (by exact (pv 3)) (pg_tup rfl (pgs_cons (pg_name (i := 4) scNear.nd rfl (.inl rfl)) (pgs_cons (pg_name (i := 5) scNear.nd rfl (.inl rfl)) pgs_nil)))))
  pss_nil)
  (pss_cons (ps_par (i := 6) (j := 7) rfl scNear.nd rfl rfl (by decide) rfl rfl (by exact (pa_cons (pe_call G__law_text HR__law_text (by rfl) X.g__law_text X.F__law_text.kp X.b__law_text .nil pass0 (pa_cons (pv 0) (pa_cons (pv 2) (pa_cons pe_int pa_nil)))) (pa_cons (pe_call G__law_draw HR__law_draw (by rfl) X.g__law_draw X.F__law_draw.kp X.b__law_draw .nil pass0 (pa_cons (pv 0) (pa_cons pe_int pa_nil))) pa_nil))) (by rfl))
  (pss_cons (ps_if (pt_cmpR op_eq (pv 7) pe_int (nomark _))
  (pss_one (ps_ret (by exact (pe_tup (pa_cons (pe_op op_cat (pv 4) (pv 6)) (pa_cons (pe_op op_cat (pv 5) (pv 6)) pa_nil))))))
  pss_nil)
  (pss_cons (ps_if (pt_cmpR op_eq (pv 7) pe_int (nomark _))
  (pss_one (ps_ret (by exact (pe_tup (pa_cons (pe_callTy call_tuple_of (by rfl) X.m_tuple (by decide +kernel) (pa_cons (pv 5) pa_nil)) (pa_cons (pv 4) pa_nil))))))
  pss_nil)
  (pss_cons (ps_if (pt_cmpR op_eq (pv 7) pe_int (nomark _))
  (pss_one (ps_ret (by exact (pe_tup (pa_cons (pe_op op_cat (pv 4) (pv 6)) (pa_cons (pv 5) pa_nil))))))
  pss_nil)
  (pss_cons (ps_if (pt_cmpR op_eq (pv 7) pe_int (nomark _))
  (pss_one (ps_ret (by exact (pe_tup (pa_cons (pv 4) (pa_cons (pe_callTy call_list_of (by rfl) X.m_list (by decide +kernel) (pa_cons (pv 4) pa_nil)) pa_nil))))))
  pss_nil)
  (pss_cons (ps_if (pt_cmpR op_eq (pv 7) pe_int (nomark _))
  (pss_cons (ps_set (i := 8) scNear.nd rfl (.inl rfl) (by exact (pe_call G__law_draw HR__law_draw (by rfl) X.g__law_draw X.F__law_draw.kp X.b__law_draw .nil pass0 (pa_cons (pv 0) (pa_cons (pe_op op_add (pe_callB call_len (by rfl) X.m_len (by decide +kernel) (pa_cons (pv 4) pa_nil)) pe_int) pa_nil)))))
  (pss_one (ps_ret (by exact (pe_tup (pa_cons (pe_op op_cat (pe_op op_cat (pe_slice sl_list (pv 4) po_none (po_some (pv 8))) (pv 6)) (pe_slice sl_list (pv 4) (po_some (pv 8)) po_none)) (pa_cons (pe_op op_cat (pe_op op_cat (pe_slice sl_list (pv 5) po_none (po_some (pv 8))) (pv 6)) (pe_slice sl_list (pv 5) (po_some (pv 8)) po_none)) pa_nil)))))))
  pss_nil)
  (pss_cons (ps_if (PW.pt (pw_and (pt_cmpR op_eq (pv 7) pe_int (nomark _)) (pw_and1 (pt_cmpR (op_neD hu64) (pv 4) (pe_lst pa_nil) (nomark _)))))
  (pss_cons (ps_set (i := 8) scNear.nd rfl (.inl rfl) (by exact (pe_call G__law_draw HR__law_draw (by rfl) X.g__law_draw X.F__law_draw.kp X.b__law_draw .nil pass0 (pa_cons (pv 0) (pa_cons (pe_callB call_len (by rfl) X.m_len (by decide +kernel) (pa_cons (pv 4) pa_nil)) pa_nil)))))
  (pss_one (ps_ret (by exact (pe_tup (pa_cons (pv 4) (pa_cons (pe_op op_cat (pe_op op_cat (pe_slice sl_list (pv 4) po_none (po_some (pv 8))) (pe_lst (pa_cons (pe_call G__law_draw HR__law_draw (by rfl) X.g__law_draw X.F__law_draw.kp X.b__law_draw .nil pass0 (pa_cons (pv 0) (pa_cons (pv 2) pa_nil))) pa_nil))) (pe_slice sl_list (pv 4) (po_some (pe_op op_add (pv 8) pe_int)) po_none)) pa_nil)))))))
  pss_nil)
  (pss_one (ps_ret (by exact (pe_ifExp (pt_cmpR op_eq (pv 7) pe_int (nomark _)) (pe_lst (pa_cons (pv 4) (pa_cons (pv 5) pa_nil))) (pe_tup (pa_cons (pv 4) (pa_cons (pv 5) pa_nil)))))))))))))))))), ?_⟩
    refine ⟨.ref a, rfl, pt, a, p, q, c, lead, sz, rfl, hp, cod, wf, c4, s1, s2, rl, fun tv H1 b1 hp1 told1 => ?_⟩
    refine ⟨.ref pt, rfl, .int (sz : Int), rfl, pt, sz, 6, rfl, hp1, by omega, by omega, by decide, by decide, fun x0 l0 H2 b2 hp2 n2 e2 h2 k2 => ⟨.ref pt, rfl, .int (sz : Int), rfl, pt, sz, 6, rfl, hp2, by omega, by omega, by decide, by decide, fun y0 m0 H3 b3 hp3 n3 e3 h3 k3 => ⟨_, _, rfl, ?_⟩⟩⟩
    have ex0 : Hid pt H3 x0 = some (.lst (intsV l0)) := b3.hid _ _ (Hid.at_ (hp1.ne n2) e2)
    have ey0 : Hid pt H3 y0 = some (.lst (intsV m0)) := Hid.at_ (hp2.ne n3) e3
    refine ⟨.ref y0, rfl, .ref x0, rfl, y0, x0, _, _, rfl, rfl, Hid.sub _ _ ey0, Hid.sub _ _ ex0, by rw [intsV_length, intsV_length, sizeLine_eq]; omega, fun c0 hc0 => ?_⟩
    have q1 := But.new hc0 (p := pt) (o := .lst (intsV m0 ++ intsV l0))
    refine ⟨.ref x0, rfl, .ref x0, l0.length, rfl, .inl ⟨_, SqL.of (Hid.sub _ _ (q1.hid _ _ ex0)), by rw [intsV_length]⟩, (l0.length : Int), rfl, c0, _, rfl, SqL.of upd_same, fun y1 hy1 => ?_⟩
    have ec : cutV (intsV m0 ++ intsV l0) none (some (l0.length : Int)) = intsV ((m0 ++ l0).take l0.length) := by
      rw [← intsV_app]
      exact cut_lo _ _ (by rw [List.length_append]; omega)
    rw [ec]
    have q2 := But.new hy1 (p := pt) (o := .lst (intsV ((m0 ++ l0).take l0.length)))
    have hp4 := (hp3.same (Same.new hc0 (o := .lst (intsV m0 ++ intsV l0)))).same (Same.new hy1 (o := .lst (intsV ((m0 ++ l0).take l0.length))))
    have ey1 := Hid.at_ (p := pt) ((hp3.same (Same.new hc0 (o := .lst (intsV m0 ++ intsV l0)))).ne hy1) (upd_same (H := upd H3 c0 (.lst (intsV m0 ++ intsV l0))) (a := y1) (o := .lst (intsV ((m0 ++ l0).take l0.length))))
    have ex1 := q2.hid _ _ (q1.hid _ _ ex0)
    have b4 := b1.trans (b2.trans (b3.trans (q1.trans q2)))
    have told4 := told1.but (b2.trans (b3.trans (q1.trans q2)))
    generalize (upd (upd H3 c0 (.lst (intsV m0 ++ intsV l0))) y1 (.lst (intsV ((m0 ++ l0).take l0.length)))) = H4 at q2 hp4 ey1 ex1 b4 told4 ⊢
    have ly : ((m0 ++ l0).take l0.length).length = l0.length := by rw [List.length_take, List.length_append]; omega
    have ky : ∀ x ∈ (m0 ++ l0).take l0.length, x < sz := fun x hx => by
      rcases List.mem_append.mp (List.mem_of_mem_take hx) with z | z
      · have := k3 x z; omega
      · have := k2 x z; omega
    have kx : ∀ x ∈ l0, x < sz := fun x hx => by have := k2 x hx; omega
    refine gN ?_
    dsimp only
    refine seq_joinS (fun σ G => ∃ (x y : Addr) (ws os : List Nat), σ = [some (.ref pt), some (.ref a), some (.int (sz : Int)), some tv, some (.ref x), some (.ref y), none, none, none] ∧ But pt H G ∧ PotAt G pt ∧ Hid pt G x = some (.lst (intsV ws)) ∧ Hid pt G y = some (.lst (intsV os)) ∧ ws.length ≤ 300 ∧ os.length = ws.length ∧ (∀ x ∈ ws, x < sz) ∧ ∀ x ∈ os, x < sz) (fun N rest => ?_) (fun σ G f => ?_)
    · have same := rest [some (.ref pt), some (.ref a), some (.int (sz : Int)), some tv, some (.ref x0), some (.ref y1), none, none, none]
      refine ⟨_, rfl, rfl, _, rfl, ?_⟩
      rcases told4 with rfl | ⟨t, l1, l2, ws, os, rfl, et, el1, el2, r1, r2, r3, r4⟩
      · exact same _ ⟨x0, y1, l0, _, rfl, b4, hp4, ex1, ey1, by omega, ly, kx, ky⟩
      · refine ⟨.ref pt, rfl, pt, 4, rfl, hp4, by decide, by decide +kernel, fun d H5 d0 d1 hp5 b5 => ⟨d, 0, rfl, rfl, _, rfl, ?_⟩⟩
        by_cases z : 0 < d
        · refine ifT (decide_eq_true z) ?_
          exact ⟨_, rfl, t, _, rfl, SqT.of (Hid.sub _ _ (b5.hid _ _ et)), rfl, _, _, rfl, _, _, rfl, gN ⟨rfl, rest _ _ ⟨l1, l2, ws, os, rfl, b4.trans b5, hp5, b5.hid _ _ el1, b5.hid _ _ el2, r1, r2, r3, r4⟩⟩⟩
        · refine ifF (decide_eq_false z) ?_
          exact same _ ⟨x0, y1, l0, _, rfl, b4.trans b5, hp5, b5.hid _ _ ex1, b5.hid _ _ ey1, by omega, ly, kx, ky⟩
    obtain ⟨x, y, ws, os, rfl, b5, hp5, ex5, ey5, lw, lo, kw, ko⟩ := f
    refine ⟨.ref pt, rfl, .int (sz : Int), rfl, pt, sz, 3, rfl, hp5, by omega, by omega, by decide, by decide, fun z ms H6 b6 hp6 n6 e6 h6 k6 => ⟨.ref pt, rfl, pt, 7, rfl, hp6, by decide, by decide +kernel, fun wy H7 w0 w1 hp' b7 => ⟨_, _, rfl, ?_⟩⟩⟩
    have bb := b5.trans (b6.trans b7)
    have eX := b7.hid _ _ (b6.hid _ _ ex5)
    have eY := b7.hid _ _ (b6.hid _ _ ey5)
    have eZ := b7.hid _ _ (Hid.at_ (hp5.ne n6) e6)
    have dX : Dx (Hid pt H7) (.ref x) (.list (intsD ws)) := .lst eX (dx_ints ws)
    have dY : Dx (Hid pt H7) (.ref y) (.list (intsD os)) := .lst eY (dx_ints os)
    have dZ : Dx (Hid pt H7) (.ref z) (.list (intsD ms)) := .lst eZ (dx_ints ms)
    have iw : ∀ e ∈ intsD ws, Leaf e := leaf_ints fun x hx => by have := kw x hx; omega
    have io : ∀ e ∈ intsD os, Leaf e := leaf_ints fun x hx => by have := ko x hx; omega
    have im : ∀ e ∈ intsD ms, Leaf e := leaf_ints fun x hx => by have := k6 x hx; omega
    have nw : (intsD ws).length ≤ 300 := by rw [intsD, List.length_map]; exact lw
    have no : (intsD os).length ≤ 300 := by rw [intsD, List.length_map]; omega
    have nm : (intsD ms).length ≤ 3 := by rw [intsD, List.length_map]; omega
    have app : ∀ {l m : List PyData}, (∀ e ∈ l, Leaf e) → (∀ e ∈ m, Leaf e) → ∀ e ∈ l ++ m, Leaf e := fun h1 h2 e he => (List.mem_append.mp he).elim (h1 e) (h2 e)
    have tk : ∀ {l : List Nat} {n : Nat}, (∀ x ∈ l, x < sz) → (∀ e ∈ intsD (l.take n), Leaf e) ∧ ∀ e ∈ intsD (l.drop n), Leaf e := fun h => ⟨leaf_ints fun x hx => by have := h x (List.mem_of_mem_take hx); omega, leaf_ints fun x hx => by have := h x (List.mem_of_mem_drop hx); omega⟩
    have pX : Part (.list (intsD ws)) := Part.list iw (by omega)
    have pY : Part (.list (intsD os)) := Part.list io (by omega)
    refine way_if rfl (fun _ => ?_) (fun _ => ?_)
    · have m : MkD pt H7 [some (.ref pt), some (.ref a), some (.int (sz : Int)), some tv, some (.ref x), some (.ref y), some (.ref z), some (.int wy), none] (tTup (tCons (tOp rCat (tVar 4) (tVar 6)) (tCons (tOp rCat (tVar 5) (tVar 6)) tNil))) (.tuple [(.list (intsD ws ++ intsD ms)), (.list (intsD os ++ intsD ms))]) := (mk_tup (mkA_cons (mk_cat (mk_var rfl dX) (mk_var rfl dZ) (by rw [intsD, List.length_map]; omega) (by rw [intsD, List.length_map]; omega)) (mkA_cons (mk_cat (mk_var rfl dY) (mk_var rfl dZ) (by rw [intsD, List.length_map]; omega) (by rw [intsD, List.length_map]; omega)) mkA_nil)) (by show 2 ≤ 1000; decide))
      refine m H7 _ But.rfl hp' fun v H9 b9 hp9 dv => k v _ H9 (bb.trans b9) hp9 dv ?_
      exact Good.tuple (Part.list (app iw im) (by rw [List.length_append]; omega)) (Part.list (app io im) (by rw [List.length_append]; omega))
    refine way_if rfl (fun _ => ?_) (fun _ => ?_)
    · have m : MkD pt H7 [some (.ref pt), some (.ref a), some (.int (sz : Int)), some tv, some (.ref x), some (.ref y), some (.ref z), some (.int wy), none] (tTup (tCons (tCB (rTupOf K) (tCons (tVar 5) tNil)) (tCons (tVar 4) tNil))) (.tuple [(.tuple (intsD os)), (.list (intsD ws))]) := (mk_tup (mkA_cons (mk_tupof rfl dY) (mkA_cons (mk_var rfl dX) mkA_nil)) (by show 2 ≤ 1000; decide))
      refine m H7 _ But.rfl hp' fun v H9 b9 hp9 dv => k v _ H9 (bb.trans b9) hp9 dv ?_
      exact Good.tuple (Part.tuple io (by omega)) pX
    refine way_if rfl (fun _ => ?_) (fun _ => ?_)
    · have m : MkD pt H7 [some (.ref pt), some (.ref a), some (.int (sz : Int)), some tv, some (.ref x), some (.ref y), some (.ref z), some (.int wy), none] (tTup (tCons (tOp rCat (tVar 4) (tVar 6)) (tCons (tVar 5) tNil))) (.tuple [(.list (intsD ws ++ intsD ms)), (.list (intsD os))]) := (mk_tup (mkA_cons (mk_cat (mk_var rfl dX) (mk_var rfl dZ) (by rw [intsD, List.length_map]; omega) (by rw [intsD, List.length_map]; omega)) (mkA_cons (mk_var rfl dY) mkA_nil)) (by show 2 ≤ 1000; decide))
      refine m H7 _ But.rfl hp' fun v H9 b9 hp9 dv => k v _ H9 (bb.trans b9) hp9 dv ?_
      exact Good.tuple (Part.list (app iw im) (by rw [List.length_append]; omega)) pY
    refine way_if rfl (fun _ => ?_) (fun _ => ?_)
    · have m : MkD pt H7 [some (.ref pt), some (.ref a), some (.int (sz : Int)), some tv, some (.ref x), some (.ref y), some (.ref z), some (.int wy), none] (tTup (tCons (tVar 4) (tCons (tCB (rListOf K) (tCons (tVar 4) tNil)) tNil))) (.tuple [(.list (intsD ws)), (.list (intsD ws))]) := (mk_tup (mkA_cons (mk_var rfl dX) (mkA_cons (mk_listof rfl dX) mkA_nil)) (by show 2 ≤ 1000; decide))
      refine m H7 _ But.rfl hp' fun v H9 b9 hp9 dv => k v _ H9 (bb.trans b9) hp9 dv ?_
      exact Good.tuple pX pX
    refine way_if rfl (fun _ => ?_) (fun _ => ?_)
    · refine ⟨.ref pt, rfl, .ref x, rfl, .ref x, ws.length, rfl, .inl ⟨_, SqL.of (Hid.sub _ _ eX), by rw [intsV_length]⟩, ws.length, 1, rfl, rfl, pt, (ws.length : Int) + 1, rfl, hp', by omega, log_100 (by omega) (by omega), fun at0 H8 a0 a1 hp8 b8 => ?_⟩
      obtain ⟨at', rfl⟩ := Int.eq_ofNat_of_zero_le a0
      have al : at' ≤ ws.length := by omega
      have al2 : at' ≤ os.length := by omega
      replace eX := b8.hid _ _ eX
      replace eY := b8.hid _ _ eY
      replace dZ := dZ.same b8.hid
      replace bb := bb.trans b8
      have hp' := hp8
      have m : MkD pt H8 [some (.ref pt), some (.ref a), some (.int (sz : Int)), some tv, some (.ref x), some (.ref y), some (.ref z), some (.int wy), some (.int (at' : Int))] (tTup (tCons (tOp rCat (tOp rCat (tSl (rSlL K) (tVar 4) tNoPart (tPart (tVar 8))) (tVar 6)) (tSl (rSlL K) (tVar 4) (tPart (tVar 8)) tNoPart)) (tCons (tOp rCat (tOp rCat (tSl (rSlL K) (tVar 5) tNoPart (tPart (tVar 8))) (tVar 6)) (tSl (rSlL K) (tVar 5) (tPart (tVar 8)) tNoPart)) tNil))) (.tuple [(.list (intsD (ws.take at') ++ intsD ms ++ intsD (ws.drop at'))), (.list (intsD (os.take at') ++ intsD ms ++ intsD (os.drop at')))]) := (mk_tup (mkA_cons (mk_cat (mk_cat (mk_lo rfl eX rfl al) (mk_var rfl dZ) (by rw [intsD, List.length_map, List.length_take]; omega) (by rw [intsD, List.length_map]; omega)) (mk_hi rfl eX rfl al) (by rw [List.length_append, intsD, intsD, List.length_map, List.length_map, List.length_take]; omega) (by rw [intsD, List.length_map, List.length_drop]; omega)) (mkA_cons (mk_cat (mk_cat (mk_lo rfl eY rfl al2) (mk_var rfl dZ) (by rw [intsD, List.length_map, List.length_take]; omega) (by rw [intsD, List.length_map]; omega)) (mk_hi rfl eY rfl al2) (by rw [List.length_append, intsD, intsD, List.length_map, List.length_map, List.length_take]; omega) (by rw [intsD, List.length_map, List.length_drop]; omega)) mkA_nil)) (by show 2 ≤ 1000; decide))
      refine m H8 _ But.rfl hp' fun v H9 b9 hp9 dv => k v _ H9 (bb.trans b9) hp9 dv ?_
      exact Good.tuple (Part.list (app (app (tk kw).1 im) (tk kw).2) (by rw [List.length_append, List.length_append, intsD, intsD, intsD, List.length_map, List.length_map, List.length_map, List.length_take, List.length_drop]; omega)) (Part.list (app (app (tk ko).1 im) (tk ko).2) (by rw [List.length_append, List.length_append, intsD, intsD, intsD, List.length_map, List.length_map, List.length_map, List.length_take, List.length_drop]; omega))
    refine seq_joinS (fun σ G => σ = [some (.ref pt), some (.ref a), some (.int (sz : Int)), some tv, some (.ref x), some (.ref y), some (.ref z), some (.int wy), none] ∧ But pt H G ∧ PotAt G pt ∧ Hid pt G x = some (.lst (intsV ws)) ∧ Hid pt G y = some (.lst (intsV os))) (fun N rest => ?_) (fun σ G f => ?_)
    · refine ⟨_, rfl, rfl, _, rfl, ?_⟩
      by_cases w5 : wy = 5
      · refine ifT (by rw [w5]; simp) ?_
        refine ⟨.ref x, rfl, Nat.zero_le _, fun L hL => ?_⟩
        have bL := But.new hL (p := pt) (o := .lst [])
        have hpL := hp'.same (Same.new hL (o := .lst []))
        have eL : (upd H7 L (.lst [])) L = some (.lst []) := upd_same
        generalize (upd H7 L (.lst [])) = H8 at bL hpL eL ⊢
        replace eX := bL.hid _ _ eX
        replace eY := bL.hid _ _ eY
        replace bb := bb.trans bL
        refine ⟨.list (intsD ws), .list (intsD []), Dx.dp (.lst (Hid.sub _ _ eX) (dx_ints ws)) (ints_plain ws), Dx.dp (.lst eL (dx_ints [])) (ints_plain []), ints_shaped ws, ints_shaped [], _, rfl, ?_⟩
        rw [ints_eqv]
        by_cases e0 : ws = []
        · refine ifF (by rw [decide_eq_true e0]; rfl) ?_
          exact rest _ _ ⟨rfl, bb, hpL, eX, eY⟩
        · refine ifT (by rw [decide_eq_false e0]; rfl) ?_
          have pos : 0 < ws.length := List.length_pos_iff.mpr e0
          refine ⟨.ref pt, rfl, .ref x, rfl, .ref x, ws.length, rfl, .inl ⟨_, SqL.of (Hid.sub _ _ eX), by rw [intsV_length]⟩, pt, (ws.length : Int), rfl, hpL, by omega, log_100 (by omega) (by omega), fun at0 H9 a0 a1 hp9 b9 => ?_⟩
          obtain ⟨at', rfl⟩ := Int.eq_ofNat_of_zero_le a0
          have al : at' ≤ ws.length := by omega
          replace eX := b9.hid _ _ eX
          replace bb := bb.trans b9
          refine ⟨.ref x, rfl, ?_⟩
          refine mk_lo (K := K) (σ := [some (.ref pt), some (.ref a), some (.int (sz : Int)), some tv, some (.ref x), some (.ref y), some (.ref z), some (.int wy), some (.int (at' : Int))]) (i := 4) (j := 8) rfl eX rfl al H9 _ But.rfl hp9 fun v1 H10 b10 hp10 dv1 => ?_
          refine ⟨.ref pt, rfl, .int (sz : Int), rfl, pt, _, rfl, hp10, by omega, log_100 (by omega) (by omega), fun dd H11 d0 d1 hp11 b11 => ⟨by rw [sizeLine_eq]; show 1 ≤ 16777216; decide, fun L2 hL2 => ?_⟩⟩
          obtain ⟨d', rfl⟩ := Int.eq_ofNat_of_zero_le d0
          have b12 := But.new hL2 (p := pt) (o := .lst [.int (d' : Int)])
          have hp12 := hp11.same (Same.new hL2 (o := .lst [.int (d' : Int)]))
          have eL2 := Hid.at_ (p := pt) (hp11.ne hL2) (upd_same (H := H11) (a := L2) (o := .lst [.int (d' : Int)]))
          have dv12 := (dv1.same b11.hid).same b12.hid
          replace eX := b12.hid _ _ (b11.hid _ _ (b10.hid _ _ eX))
          replace bb := bb.trans (b10.trans (b11.trans b12))
          generalize (upd H11 L2 (.lst [.int (d' : Int)])) = H12 at hp12 eL2 dv12 eX bb ⊢
          cases dv12 with
          | @lst A1 vs1 ds1 eA1 all1 =>
            have n1 : vs1.length ≤ 300 := by rw [all1.length, intsD, List.length_map, List.length_take]; omega
            refine ⟨A1, L2, _, _, rfl, rfl, Hid.sub _ _ eA1, Hid.sub _ _ eL2, by rw [sizeLine_eq]; show _ + 1 ≤ _; omega, fun B1 hB1 => ?_⟩
            have b13 := But.new hB1 (p := pt) (o := .lst (vs1 ++ [.int (d' : Int)]))
            have hp13 := hp12.same (Same.new hB1 (o := .lst (vs1 ++ [.int (d' : Int)])))
            have eB1 := Hid.at_ (p := pt) (hp12.ne hB1) (upd_same (H := H12) (a := B1) (o := .lst (vs1 ++ [.int (d' : Int)])))
            replace eX := b13.hid _ _ eX
            replace bb := bb.trans b13
            replace all1 := all1.same b13.hid
            generalize (upd H12 B1 (.lst (vs1 ++ [.int (d' : Int)]))) = H13 at hp13 eB1 eX bb all1 ⊢
            refine ⟨.ref x, rfl, .int (at' : Int), rfl, at', 1, rfl, rfl, (at' : Int) + 1, rfl, x, _, rfl, SqL.of (Hid.sub _ _ eX), fun B2 hB2 => ?_⟩
            rw [show (at' : Int) + 1 = ((at' + 1 : Nat) : Int) from rfl, cut_hi ws (at' + 1) (by omega)]
            have b14 := But.new hB2 (p := pt) (o := .lst (intsV (ws.drop (at' + 1))))
            have hp14 := hp13.same (Same.new hB2 (o := .lst (intsV (ws.drop (at' + 1)))))
            have eB2 := Hid.at_ (p := pt) (hp13.ne hB2) (upd_same (H := H13) (a := B2) (o := .lst (intsV (ws.drop (at' + 1)))))
            replace eX := b14.hid _ _ eX
            replace bb := bb.trans b14
            replace all1 := all1.same b14.hid
            replace eB1 := b14.hid _ _ eB1
            generalize (upd H13 B2 (.lst (intsV (ws.drop (at' + 1))))) = H14 at hp14 eB1 eB2 eX bb all1 ⊢
            refine ⟨B1, B2, _, _, rfl, rfl, Hid.sub _ _ eB1, Hid.sub _ _ eB2, by rw [List.length_append, intsV_length, List.length_drop, sizeLine_eq]; show _ + 1 + _ ≤ _; omega, fun B3 hB3 => ?_⟩
            have b15 := But.new hB3 (p := pt) (o := .lst ((vs1 ++ [.int (d' : Int)]) ++ intsV (ws.drop (at' + 1))))
            have hp15 := hp14.same (Same.new hB3 (o := .lst ((vs1 ++ [.int (d' : Int)]) ++ intsV (ws.drop (at' + 1)))))
            have eB3 := Hid.at_ (p := pt) (hp14.ne hB3) (upd_same (H := H14) (a := B3) (o := .lst ((vs1 ++ [.int (d' : Int)]) ++ intsV (ws.drop (at' + 1)))))
            replace eX := b15.hid _ _ eX
            replace bb := bb.trans b15
            replace all1 := all1.same b15.hid
            generalize (upd H14 B3 (.lst ((vs1 ++ [.int (d' : Int)]) ++ intsV (ws.drop (at' + 1))))) = H15 at hp15 eB3 eX bb all1 ⊢
            refine ⟨by rw [sizeLine_eq]; show 2 ≤ 16777216; decide, fun B4 hB4 => ?_⟩
            have b16 := But.new hB4 (p := pt) (o := .tup [.ref x, .ref B3])
            refine k _ (.tuple [.list (intsD ws), .list ((intsD (ws.take at') ++ [.int (d' : Int)]) ++ intsD (ws.drop (at' + 1)))]) _ (bb.trans b16) (hp15.same (Same.new hB4)) (.tup (Hid.at_ (hp15.ne hB4) upd_same) (.cons (.lst (b16.hid _ _ eX) (dx_ints ws)) (.cons (.lst (b16.hid _ _ eB3) (((all1.same b16.hid).app (.cons (.int _) .nil)).app (dx_ints _))) .nil))) ?_
            refine Good.tuple pX (Part.list (app (app (tk kw).1 fun e he => by rw [List.mem_singleton.mp he]; exact leaf_int (by omega)) (tk kw).2) ?_)
            rw [List.length_append, List.length_append, intsD, intsD, List.length_map, List.length_map, List.length_take, List.length_drop]
            show _ + 1 + _ ≤ 600
            omega
      · refine ifF (decide_eq_false fun y => w5 (V.int.inj y)) ?_
        exact ifF rfl (rest _ _ ⟨rfl, bb, hp', eX, eY⟩)
    obtain ⟨rfl, bG, hpG, eX, eY⟩ := f
    refine ⟨_, rfl, rfl, _, rfl, ?_⟩
    replace dX : Dx (Hid pt G) (.ref x) (.list (intsD ws)) := .lst eX (dx_ints ws)
    replace dY : Dx (Hid pt G) (.ref y) (.list (intsD os)) := .lst eY (dx_ints os)
    replace bb := bG
    replace hp' := hpG
    by_cases w6 : wy = 6
    · refine ifT (by rw [w6]; simp) ?_
      have m : MkD pt G [some (.ref pt), some (.ref a), some (.int (sz : Int)), some tv, some (.ref x), some (.ref y), some (.ref z), some (.int wy), none] (tLst (tCons (tVar 4) (tCons (tVar 5) tNil))) (.list [(.list (intsD ws)), (.list (intsD os))]) := (mk_lst (mkA_cons (mk_var rfl dX) (mkA_cons (mk_var rfl dY) mkA_nil)) (by show 2 ≤ 1000; decide))
      refine m G _ But.rfl hp' fun v H9 b9 hp9 dv => k v _ H9 (bb.trans b9) hp9 dv ?_
      exact Good.list pX pY
    · refine ifF (decide_eq_false fun y => w6 (V.int.inj y)) ?_
      have m : MkD pt G [some (.ref pt), some (.ref a), some (.int (sz : Int)), some tv, some (.ref x), some (.ref y), some (.ref z), some (.int wy), none] (tTup (tCons (tVar 4) (tCons (tVar 5) tNil))) (.tuple [(.list (intsD ws)), (.list (intsD os))]) := (mk_tup (mkA_cons (mk_var rfl dX) (mkA_cons (mk_var rfl dY) mkA_nil)) (by show 2 ≤ 1000; decide))
      refine m G _ But.rfl hp' fun v H9 b9 hp9 dv => k v _ H9 (bb.trans b9) hp9 dv ?_
      exact Good.tuple pX pY
end
end K82
end

section
set_option maxHeartbeats 4000000
/-! calls by keywords alone -/
namespace K82
open PySem PySem.Spec PyProof.Rows L2
theorem vals_rev {zs : List V} {ws : List Value} (r : Vals zs ws) : Vals zs.reverse ws.reverse := by
  induction r with
  | nil => exact .nil
  | cons a _ ih =>
    rw [List.reverse_cons, List.reverse_cons]
    exact ih.append (.cons a .nil)
section
variable {X : Cx} {CX : CXT} {k : Nat} {f : Addr} {fd : FuncData} {ps ks : List Str} {sp : Sp} {E : L2.St → XK} {x : Str} {p pos : Pos} {kws : List Keyword} {tk : TA} {g : List Value → List Value} {gV : List V → List V}
def tCallKW (sp : Sp) (gV : List V → List V) (E : L2.St → XK) (tk : TA) : TE := fun σ H Q => tk σ H fun zs H1 => sp (gV zs) H1 Q (E σ)
theorem pe_callKWS (F : FnOk X.prog X.w X.K X.mg X.base CX k f fd ps sp) (hr : Room k X.A) (hg : Gl X x) (hm : X.mg x = some (.ref f)) (hk : PySem.W.keepIn X.K (.ref f) = true) (hb : KB X.K fd ps ks g gV) (hx : ∀ σ, PassesAt CX X σ (E σ)) (hkw : PK X kws tk)
    (hall : (backToKw pos (keywordEach kws X.env)).all (·.1.isSome) = true := by rfl) (hks : (backToKw pos (keywordEach kws X.env)).filterMap (·.1) = ks := by rfl) (hdb : (x == ("__debug__" : Str)) = false := by decide)
    (hpl : ((backTo pos (starEach [] X.env)).any (·.1) || (backToKw pos (keywordEach kws X.env)).any (·.1.isNone)) = false := by rfl) : PE X (.Call (.Name x p) [] kws pos) (tCallKW sp gV E tk) := by
  refine ⟨fun pins s σ H Q I h => wpAny_Call_Name_kw (ld_glob I hg hm (PySem.W.callWith_KW0 (h₀ := X.base) I.ok.mod.kin hk hall (thn (hkw.run pos pins s σ H _ I h) fun ws s2 hh => ?_) hpl) hdb)⟩
  obtain ⟨zs, H1, I1, r, q⟩ := hh
  refine ⟨I1.kIn, ?_⟩
  rw [hks]
  have r2 := hb.rel r
  have hl : (g ws).length = ps.length := r2.length.symm.trans (F.len _ _ _ _ q)
  refine wpAny_call (codeAny_mono (F.run X.A X.stack s2 H1 ⟨[], ks.zip ws⟩ (g ws) (gV zs) Q (E σ) hr I1.env0 (hb.to s2 ws I1.kIn hl) r2 q) fun res s' hq => ?_)
  match res, hq with
  | .error e, hq => exact hx σ pins H1 s2 e s' I1 hq
  | .ok (.ret u), hq => exact I1.after hq
theorem pe_callKW (F : FnOk X.prog X.w X.K X.mg X.base CX0 k f fd ps sp) (hr : Room k X.A) (hg : Gl X x) (hm : X.mg x = some (.ref f)) (hk : PySem.W.keepIn X.K (.ref f) = true) (hb : KB X.K fd ps ks g gV) (hkw : PK X kws tk)
    (hall : (backToKw pos (keywordEach kws X.env)).all (·.1.isSome) = true := by rfl) (hks : (backToKw pos (keywordEach kws X.env)).filterMap (·.1) = ks := by rfl) (hdb : (x == ("__debug__" : Str)) = false := by decide)
    (hpl : ((backTo pos (starEach [] X.env)).any (·.1) || (backToKw pos (keywordEach kws X.env)).any (·.1.isNone)) = false := by rfl) : PE X (.Call (.Name x p) [] kws pos) (tCallKW sp gV (fun _ => E0) tk) :=
  pe_callKWS (E := fun _ => E0) F hr hg hm hk hb (fun _ _ _ _ _ _ _ h => h.elim) hkw hall hks hdb hpl
end
section
variable {P : Program} {w : World} {K : PySem.W.Frag} {mg : Str → Option Value} {base : Heap} {ad : Str → Addr} {fd : Str → FuncData}
theorem kb_is_clash (X : Tx K mg ad fd) : KB K (fd "is_clash") ["coder", "value"] ["value", "coder"] List.reverse List.reverse :=
  Fun.kb X.F_is_clash vals_rev fun kV doc pm an cdv ct ws hl => by
    have hl' : ws.length = 2 := by rw [List.length_reverse] at hl; exact hl
    match ws, hl' with
    | [_, _], _ => first | rfl | with_unfolding_all rfl
end
end K82
end

section
set_option maxHeartbeats 4000000
/-! right -/
namespace K82
open PySem PySem.Spec PyProof.Rows L2
theorem RatO.but {C : Addr} {H H' : Hp} {pt a : Addr} {p q : Int} (h : RatO C H a p q) (hp : PotAt H pt) (b : But pt H H') : RatO C H' a p q := by
  obtain ⟨dx, e⟩ := h
  exact ⟨dx, b _ _ (fun z => by obtain ⟨x, y, ep, _⟩ := hp; rw [z, ep] at e; cases e) e⟩
theorem CodO.but {C R : Addr} {H H' : Hp} {pt a : Addr} {p q : Int} {c : Ch} {lead : Str} (h : CodO C R H a p q c lead) (hp : PotAt H pt) (b : But pt H H') : CodO C R H' a p q c lead := by
  obtain ⟨dx, r, l, e, hr, hd⟩ := h
  exact ⟨dx, r, l, b _ _ (fun z => by obtain ⟨x, y, ep, _⟩ := hp; rw [z, ep] at e; cases e) e, hr.but hp b, chD_but hd hp b⟩
theorem made_at {C N : Addr} {H : Hp} {a b : V} {d e : PyData} {E : XK} (ha : Dx H a d) (hb : Dx H b e) (ta : Tame d) (tb : Tame e) (q1 : rateD d = false → Err N E H a) (q2 : rateD d = true → rateD e = false → Err N E H b) {x dx : Addr} (hx : H x = none) (hd : H dx = none) (ne : dx ≠ x) {φ : Hp → Prop}
    (q3 : ∀ p q, d = .int p → e = .int q → fitP p q → ∀ (H' : Hp), Same H H' → RatO C H' x p q → φ H') : spInit C N ([.ref x, a, b] ++ []) (upd (upd H dx (.own x)) x (.ins C dx [])) (fun v H2 => v = .non ∧ φ H2) E := by
  obtain ⟨x', dx', a', b', d', e', y, h1, h2, h3, h4, h5, h6, h7, h8⟩ := made (Q := fun v H' => v = .ref x → φ H') ha hb ta tb q1 q2 (fun p q ed ee f H' r s hr ho er => by
    obtain rfl : r = x := V.ref.inj er
    exact q3 p q ed ee f H' s ho) x dx hx hd ne
  exact ⟨x', dx', a', b', d', e', y, h1, h2, h3, h4, h5, h6, h7, fun p q i j k l H' m n => ⟨rfl, (h8 p q i j k l H' m n).2 rfl⟩⟩
theorem passes_no {X : Cx} : Passes (L2.CX X.prog X.w) X E0 := fun _ _ _ _ _ _ _ ⟨_, _, _, _, _, _, _, _, _, _, _, _, z⟩ => z.elim
theorem rate_six {i : Int} (h1 : 1 ≤ i) (h2 : i ≤ 6) : rateD (.int i) = true := by
  show (decide (1 ≤ i) && decide (i ≤ 6)) = true
  rw [decide_eq_true h1, decide_eq_true h2]; rfl
theorem okCh.kept {p q : Int} {c : Ch} (h : okCh p q c) : okCh p q (keptF c) ∧ (keptF c).length ≤ c.length := by
  obtain ⟨h1, h2, h3, h4⟩ := reached_ok h.wf
  have le : (keptF c).length ≤ c.length := by
    rw [keptF_length]
    exact nodup_len h1 h2
  have row : ∀ r ∈ keptF c, ∃ i, i ∈ reached c ∧ rowC c i ∈ c ∧ r = (rowC c i).map fun e => (e.1, (reached c).idxOf e.2) := fun r hr => by
    unfold keptF at hr
    obtain ⟨i, hi, rfl⟩ := List.mem_map.mp hr
    refine ⟨i, hi, ?_, rfl⟩
    unfold rowC
    have il := h2 i hi
    rw [List.getD_eq_getElem?_getD, List.getElem?_eq_getElem il]
    exact List.getElem_mem il
  refine ⟨⟨keptF_wf h.wf, fun r hr => ?_, fun r hr e he => ?_, ?_⟩, le⟩
  · obtain ⟨i, hi, ri, rfl⟩ := row r hr
    rw [List.length_map]
    exact h.rows _ ri
  · obtain ⟨i, hi, ri, rfl⟩ := row r hr
    obtain ⟨e', he', rfl⟩ := List.mem_map.mp he
    exact h.blocks _ ri e' he'
  · have p0 : (0 : Int) ≤ 2 ^ p.toNat := Int.le_of_lt (Int.pow_pos (by decide))
    have := Int.mul_le_mul_of_nonneg_right (show ((keptF c).length : Int) ≤ (c.length : Int) by omega) p0
    have := h.most
    omega
def spRight : Sp := fun vs H Q _ => ∃ (pt : Addr), vs = [.ref pt] ∧ PotAt H pt ∧ ∀ H', But pt H H' → PotAt H' pt → Q (.bl true) H'
theorem sm_bool (b : Bool) : Sm 100 3 (.bool b) := by cases b <;> exact Sm.of (by decide +kernel)
theorem r3_bools (a b : Bool) : R3 (.list [.bool a, .bool b]) := (Sm.list (m := 2) (w := 100) (dp := 3) (fun d hd => by
  rcases List.mem_cons.mp hd with z | z
  · rw [z]; exact sm_bool a
  · rw [List.mem_singleton.mp z]; exact sm_bool b) (Nat.le_refl _)).r3 (by decide) (by decide)
section
variable {P : Program} {w : World} {K : PySem.W.Frag} {mg : Str → Option Value} {base : Heap} {ad : Str → Addr} {fd : Str → FuncData}
theorem scRight : FnScope ["_law_pot_here", "_law_p", "_law_q", "_law_size", "_law_turn", "_law_codes_here", "_law_made", "_law_kept_here", "_law_again", "_law_thing", "_law_shown", "_law_due", "_law_told"] ["_law_pot_here"] (defScope sRight) := ⟨rfl, rfl, rfl, by decide +kernel, rfl, by decide +kernel, by decide +kernel⟩
theorem ok_right (X : Tx K mg ad fd) (RC : RateC K mg ad fd) {N fN : Addr} (LN : ErrV K mg "InvalidNumber" N fN) (CC : CoderC K mg ad fd) (CM : CoderM K mg ad fd) (CP : CoderP K mg ad fd) (CE : CoderE K mg ad fd) (CH : CoderW K mg ad fd) : FnG P w K mg base 8 (ad "_law_right") (fd "_law_right") ["_law_pot_here"] spRight := by
  have G_init := ok_init (P := P) (w := w) (base := base) X RC LN
  have G_cinit := ok_cinit (P := P) (w := w) (base := base) X RC CC
  have G_is_clash := ok_is_clash (P := P) (w := w) (base := base) X RC CC CM CP CE CH
  have G__law_draw := ok_draw (P := P) (w := w) (base := base) X
  have G__law_pick := ok_pick (P := P) (w := w) (base := base) X
  have G__law_codes := ok_codes (P := P) (w := w) (base := base) X
  have G__law_kept := ok_kept (P := P) (w := w) (base := base) X
  have G__law_near := ok_near (P := P) (w := w) (base := base) X RC CC CM CP CE CH
  have G__law_odd := ok_odd (P := P) (w := w) (base := base) X
  have G__law_text := ok_drawn (P := P) (w := w) (base := base) X
  have G__law_judged := ok_judged (P := P) (w := w) (base := base) X
  refine fnG_body X.F__law_right scRight (fun vs H Q E h => ?_) (fun cdv A outer s H vs Q E hr h => ?_)
  · obtain ⟨pt, rfl, _⟩ := h
    rfl
  · obtain ⟨pt, rfl, hp, k⟩ := h
    have hg := hr.gd
    have hs := X.sys
    have hu := hr.rm.units
    have hu64 : (A.deeper (envOfC "_law_right" (defScope sRight) s.heap.objs.size (ad "_law_right") cdv)).units + 64 < cLine := by have := hr.rm.un; omega
    have HR__law_draw : Room 1 _ := hr.rm.mono (by decide)
    have HR__law_pick : Room 2 _ := hr.rm.mono (by decide)
    have HR__law_codes : Room 3 _ := hr.rm.mono (by decide)
    have HR__law_kept : Room 1 _ := hr.rm.mono (by decide)
    have HR__law_near : Room 6 _ := hr.rm.mono (by decide)
    have HR__law_odd : Room 3 _ := hr.rm.mono (by decide)
    have HR__law_text : Room 3 _ := hr.rm.mono (by decide)
    have HR__law_judged : Room 3 _ := hr.rm.mono (by decide)
    have HR_is_clash : Room 4 _ := hr.rm.mono (by decide)
    have HR_cinit : Room (5 + 1) _ := hr.rm.mono (by decide)
    have HR_init : Room (4 + 1) _ := hr.rm.mono (by decide)
    have PASS := passes_no (X := (cxOf CX0 P w K mg base ["_law_pot_here", "_law_p", "_law_q", "_law_size", "_law_turn", "_law_codes_here", "_law_made", "_law_kept_here", "_law_again", "_law_thing", "_law_shown", "_law_due", "_law_told"] "_law_right" (defScope sRight) (ad "_law_right") cdv A outer s H E).nox)
    refine ⟨_, (pss_cons (ps_asg (by exact (pe_call G__law_pick HR__law_pick (by rfl) X.g__law_pick X.F__law_pick.kp X.b__law_pick .nil pass0 (pa_cons (pv 0) (pa_cons (pe_lst (pa_cons (pe_tup (pa_cons pe_int (pa_cons pe_int pa_nil))) (pa_cons (pe_tup (pa_cons pe_int (pa_cons pe_int pa_nil))) (pa_cons (pe_tup (pa_cons pe_int (pa_cons pe_int pa_nil))) (pa_cons (pe_tup (pa_cons pe_int (pa_cons pe_int pa_nil))) (pa_cons (pe_tup (pa_cons pe_int (pa_cons pe_int pa_nil))) pa_nil)))))) pa_nil)))) (pg_tup rfl (pgs_cons (pg_name (i := 1) scRight.nd rfl (.inl rfl)) (pgs_cons (pg_name (i := 2) scRight.nd rfl (.inl rfl)) pgs_nil))))
  (pss_cons (ps_set (i := 3) scRight.nd rfl (.inl rfl) (by exact (pe_ix ix_list (pe_lst (pa_cons pe_int (pa_cons pe_int (pa_cons pe_int (pa_cons pe_int pa_nil))))) (pe_op op_sub (pv 1) pe_int) (fun _ _ => rfl))))
  (pss_cons (ps_for PassesOwn.never rfl (pi_range1 (by rfl) X.m_range (pa_cons pe_int pa_nil)) (pg_name (i := 4) scRight.nd rfl (.inl rfl))
  (pss_cons (ps_set (i := 5) scRight.nd rfl (.inl rfl) (by exact (pe_call G__law_codes HR__law_codes (by rfl) X.g__law_codes X.F__law_codes.kp X.b__law_codes .nil pass0 (pa_cons (pv 0) (pa_cons (pv 3) (pa_cons (pv 2) (pa_cons (pe_op op_add pe_int (pe_call G__law_draw HR__law_draw (by rfl) X.g__law_draw X.F__law_draw.kp X.b__law_draw .nil pass0 (pa_cons (pv 0) (pa_cons pe_int pa_nil)))) (pa_cons pe_str pa_nil))))))))
  (pss_cons (ps_par (i := 6) (j := 7) rfl scRight.nd rfl rfl (by decide) rfl rfl (by exact (pa_cons (pe_make CC.mks G_cinit HR_cinit (by rfl) CC.G CC.b_init .nil pass0 (pa_cons (pe_make RC.mks G_init HR_init (by rfl) RC.G RC.b_init .nil PASS (pa_cons (pv 1) (pa_cons (pv 2) pa_nil))) (pa_cons (pv 5) (pa_cons (pe_call G__law_pick HR__law_pick (by rfl) X.g__law_pick X.F__law_pick.kp X.b__law_pick .nil pass0 (pa_cons (pv 0) (pa_cons (pe_lst (pa_cons pe_str (pa_cons pe_str pa_nil))) pa_nil))) pa_nil)))) (pa_cons (pe_call G__law_kept HR__law_kept (by rfl) X.g__law_kept X.F__law_kept.kp X.b__law_kept .nil pass0 (pa_cons (pv 5) pa_nil)) pa_nil))) (by rfl))
  (pss_one (ps_for PassesOwn.never rfl (pi_range1 (by rfl) X.m_range (pa_cons pe_int pa_nil)) (pg_name (i := 8) scRight.nd rfl (.inl rfl))
  (pss_cons (ps_set (i := 9) scRight.nd rfl (.inl rfl) (by exact (pe_call G__law_near HR__law_near (by rfl) X.g__law_near X.F__law_near.kp X.b__law_near .nil pass0 (pa_cons (pv 0) (pa_cons (pv 6) (pa_cons (pv 3) pa_nil))))))
  (pss_cons (ps_if (pt_cmpR op_eq (pe_call G__law_draw HR__law_draw (by rfl) X.g__law_draw X.F__law_draw.kp X.b__law_draw .nil pass0 (pa_cons (pv 0) (pa_cons pe_int pa_nil))) pe_int (nomark _))
  (pss_one (ps_set (i := 9) scRight.nd rfl (.inl rfl) (by exact (pe_call G__law_odd HR__law_odd (by rfl) X.g__law_odd X.F__law_odd.kp X.b__law_odd .nil pass0 (pa_cons (pv 0) (pa_cons (pv 3) (pa_cons (pe_call G__law_text HR__law_text (by rfl) X.g__law_text X.F__law_text.kp X.b__law_text .nil pass0 (pa_cons (pv 0) (pa_cons (pv 3) (pa_cons pe_int pa_nil)))) pa_nil)))))))
  pss_nil)
  (pss_cons (ps_par (i := 10) (j := 11) rfl scRight.nd rfl rfl (by decide) rfl rfl (by exact (pa_cons (pe_callB (call_reprA hg hu64 hs) (by rfl) X.m_repr (by decide +kernel) (pa_cons (pv 9) pa_nil)) (pa_cons (pe_call G__law_judged HR__law_judged (by rfl) X.g__law_judged X.F__law_judged.kp X.b__law_judged .nil pass0 (pa_cons (pv 7) (pa_cons (pv 3) (pa_cons (pv 9) pa_nil)))) pa_nil))) (by rfl))
  (pss_cons (ps_set (i := 12) scRight.nd rfl (.inl rfl) (by exact (pe_lst (pa_cons (pe_call G_is_clash HR_is_clash (by rfl) X.g_is_clash X.F_is_clash.kp X.b_is_clash .nil pass0 (pa_cons (pv 6) (pa_cons (pv 9) pa_nil))) (pa_cons (pe_callKW G_is_clash HR_is_clash (by rfl) X.g_is_clash X.F_is_clash.kp (kb_is_clash X) (pk_cons (pv 9) (pk_cons (pv 6) pk_nil))) pa_nil)))))
  (pss_one (ps_if (PW.pt (pw_or (pt_cmpR op_ne (pe_callB (call_reprA hg hu64 hs) (by rfl) X.m_repr (by decide +kernel) (pa_cons (pv 12) pa_nil)) (pe_callB (call_reprA hg hu64 hs) (by rfl) X.m_repr (by decide +kernel) (pa_cons (pe_lst (pa_cons (pv 11) (pa_cons (pv 11) pa_nil))) pa_nil)) (nomark _)) (pw_or1 (pt_cmpR op_ne (pe_callB (call_reprA hg hu64 hs) (by rfl) X.m_repr (by decide +kernel) (pa_cons (pv 9) pa_nil)) (pv 10) (nomark _)))))
  (pss_one (ps_ret (by exact pe_bl)))
  pss_nil)))))))))))
  (pss_one (ps_ret (by exact pe_bl)))))), ?_⟩
    have m0 : MkD pt H (L2.start ["_law_pot_here", "_law_p", "_law_q", "_law_size", "_law_turn", "_law_codes_here", "_law_made", "_law_kept_here", "_law_again", "_law_thing", "_law_shown", "_law_due", "_law_told"] [.ref pt]) (tLst (tCons (tTup (tCons (tC (.int 1)) (tCons (tC (.int 1)) tNil))) (tCons (tTup (tCons (tC (.int 1)) (tCons (tC (.int 2)) tNil))) (tCons (tTup (tCons (tC (.int 2)) (tCons (tC (.int 1)) tNil))) (tCons (tTup (tCons (tC (.int 2)) (tCons (tC (.int 2)) tNil))) (tCons (tTup (tCons (tC (.int 4)) (tCons (tC (.int 2)) tNil))) tNil)))))) (.list [(.tuple [(.int 1), (.int 1)]), (.tuple [(.int 1), (.int 2)]), (.tuple [(.int 2), (.int 1)]), (.tuple [(.int 2), (.int 2)]), (.tuple [(.int 4), (.int 2)])]) := (mk_lst (mkA_cons (mk_tup (mkA_cons (mk_c fun _ => .int _) (mkA_cons (mk_c fun _ => .int _) mkA_nil)) (by show 2 ≤ 1000; decide)) (mkA_cons (mk_tup (mkA_cons (mk_c fun _ => .int _) (mkA_cons (mk_c fun _ => .int _) mkA_nil)) (by show 2 ≤ 1000; decide)) (mkA_cons (mk_tup (mkA_cons (mk_c fun _ => .int _) (mkA_cons (mk_c fun _ => .int _) mkA_nil)) (by show 2 ≤ 1000; decide)) (mkA_cons (mk_tup (mkA_cons (mk_c fun _ => .int _) (mkA_cons (mk_c fun _ => .int _) mkA_nil)) (by show 2 ≤ 1000; decide)) (mkA_cons (mk_tup (mkA_cons (mk_c fun _ => .int _) (mkA_cons (mk_c fun _ => .int _) mkA_nil)) (by show 2 ≤ 1000; decide)) mkA_nil))))) (by show 5 ≤ 1000; decide))
    refine mkA_pick m0 hp (by show 0 < 5; decide) (by show 5 ≤ 1000; decide) rfl fun v d H1 b1 hp1 hd dv0 => ?_
    have dv := dv0.same Hid.sub
    obtain ⟨t, p, q, sz, rfl, et, fit, esz, sz1, sz16, hidx⟩ : ∃ (t : Addr) (p q : Int) (sz : Nat), v = .ref t ∧ H1 t = some (.tup [.int p, .int q]) ∧ fitP p q ∧ (2 : Int) ^ p.toNat = (sz : Int) ∧ 1 ≤ sz ∧ sz ≤ 16 ∧ atI [V.int 2, .int 4, .int 8, .int 16] (p - 1) = some (.int (sz : Int)) := by
      clear dv0
      simp only [List.mem_cons, List.not_mem_nil, or_false] at hd
      rcases hd with rfl | rfl | rfl | rfl | rfl
      · cases dv with
        | @tup t0 xs0 ds0 e0 all0 =>
          match xs0, all0 with
          | [_, _], .cons (.int _) (.cons (.int _) .nil) => exact ⟨t0, 1, 1, 2, rfl, e0, ⟨by decide, by decide, by decide, by decide⟩, by decide, by decide, by decide, by decide⟩
      · cases dv with
        | @tup t0 xs0 ds0 e0 all0 =>
          match xs0, all0 with
          | [_, _], .cons (.int _) (.cons (.int _) .nil) => exact ⟨t0, 1, 2, 2, rfl, e0, ⟨by decide, by decide, by decide, by decide⟩, by decide, by decide, by decide, by decide⟩
      · cases dv with
        | @tup t0 xs0 ds0 e0 all0 =>
          match xs0, all0 with
          | [_, _], .cons (.int _) (.cons (.int _) .nil) => exact ⟨t0, 2, 1, 4, rfl, e0, ⟨by decide, by decide, by decide, by decide⟩, by decide, by decide, by decide, by decide⟩
      · cases dv with
        | @tup t0 xs0 ds0 e0 all0 =>
          match xs0, all0 with
          | [_, _], .cons (.int _) (.cons (.int _) .nil) => exact ⟨t0, 2, 2, 4, rfl, e0, ⟨by decide, by decide, by decide, by decide⟩, by decide, by decide, by decide, by decide⟩
      · cases dv with
        | @tup t0 xs0 ds0 e0 all0 =>
          match xs0, all0 with
          | [_, _], .cons (.int _) (.cons (.int _) .nil) => exact ⟨t0, 4, 2, 16, rfl, e0, ⟨by decide, by decide, by decide, by decide⟩, by decide, by decide, by decide, by decide⟩
    refine ⟨t, _, rfl, SqT.of et, rfl, _, _, rfl, _, _, rfl, gN ⟨rfl, ?_⟩⟩
    refine ⟨(by show 4 ≤ sizeLine; decide), fun L hL => ?_⟩
    have sL := Same.new hL (o := .lst [V.int 2, .int 4, .int 8, .int 16])
    refine ⟨.int p, rfl, p, 1, rfl, rfl, L, [.int 2, .int 4, .int 8, .int 16], _, .int (sz : Int), rfl, rfl, SqL.of upd_same, hidx, ?_⟩
    have b2 := b1.trans (But.same sL)
    have hp2 := hp1.same sL
    generalize (upd H1 L (.lst [V.int 2, .int 4, .int 8, .int 16])) = H2 at b2 hp2 ⊢
    refine ⟨4, rfl, by decide, by decide, ?_⟩
    refine for_range (lo := 0) (n := (4 : Int).toNat) (fun i σ H' => ∃ r4 r5 r6 r7 r8 r9 r10 r11 r12, σ = [some (.ref pt), some (.int p), some (.int q), some (.int (sz : Int)), r4, r5, r6, r7, r8, r9, r10, r11, r12] ∧ But pt H H' ∧ PotAt H' pt) ⟨_, _, _, _, _, _, _, _, _, rfl, b2, hp2⟩ ?_ ?_
    · rintro i σ H7 hi ⟨r4, r5, r6, r7, r8, r9, r10, r11, r12, rfl, b7, hp7⟩
      refine ⟨.ref pt, rfl, .int (sz : Int), rfl, .int q, rfl, .ref pt, rfl, pt, 4, rfl, hp7, by decide, by decide +kernel, fun d3 H8 d30 d31 hp8 b8 => ⟨1, d3, rfl, rfl, ?_⟩⟩
      obtain ⟨nn, en⟩ : ∃ n : Nat, 1 + d3 = (n : Int) := ⟨(1 + d3).toNat, by omega⟩
      refine ⟨pt, p, q, nn, "ab", by rw [esz, ← en]; rfl, hp8, fit, by omega, by omega, ⟨by decide +kernel, by decide +kernel, by decide +kernel⟩, fun Fc c H9 b9 hp9 nF dc9 lc oc => ?_⟩
      refine ⟨.int p, rfl, .int q, rfl, fun rx rdx hrx hrdx ne => ?_⟩
      have rp := rate_six fit.1 fit.2.1
      have rq := rate_six fit.2.2.1 fit.2.2.2
      refine made_at (.int p) (.int q) (tame_int (by have := fit.1; have := fit.2.1; omega)) (tame_int (by have := fit.2.2.1; have := fit.2.2.2; omega)) (fun z => absurd (z.symm.trans rp) (by decide)) (fun _ z => absurd (z.symm.trans rq) (by decide)) hrx hrdx ne fun p' q' e e' f' H12 s12 ho => ?_
      cases e
      cases e'
      refine ⟨.ref Fc, rfl, .ref pt, rfl, (by show 2 ≤ sizeLine; decide), fun Z hZ => ?_⟩
      have sZ := Same.new hZ (o := .lst [V.str "", .str "b"])
      have hp12 := hp9.same s12
      refine ⟨pt, .ref Z, rfl, hp12.same sZ, .inr ⟨Z, _, rfl, hp12.ne hZ, upd_same, by decide, by decide, fun x H13 hx hp13 b13 => ?_⟩⟩
      obtain ⟨lead, rfl, okl⟩ : ∃ lt : Str, x = .str lt ∧ okRow lt := by
        simp only [List.mem_cons, List.not_mem_nil, or_false] at hx
        rcases hx with rfl | rfl
        · exact ⟨_, rfl, by decide +kernel, by decide +kernel⟩
        · exact ⟨_, rfl, by decide +kernel, by decide +kernel⟩
      have b12 := (But.same (p := pt) s12).trans ((But.same sZ).trans b13)
      have ho13 := (ho.same sZ).but (hp12.same sZ) b13
      have dc13 := chD_but dc9 hp9 b12
      have b0 := b7.trans (b8.trans (b9.trans b12))
      refine fun y dy hy hdy ney => ?_
      have Sy : Same H13 (upd (upd H13 dy (.own y)) y (.ins (ad "Coder") dy [])) := fun b o eb => by
        rw [upd_ne (ne_of_none eb hy), upd_ne (ne_of_none eb hdy)]
        exact eb
      refine ⟨y, dy, rx, .ref Fc, c, lead, p, q, rfl, upd_same, ho13.same Sy, fit, dc13.same Sy, oc, okl, fun H14 l14 b14 e14 h14 d14 => ⟨rfl, ?_⟩⟩
      have s14 : Same H13 H14 := fun b o eb => b14 _ _ (ne_of_none eb hy) (Sy _ _ eb)
      have co14 : CodO (ad "Coder") (ad "Rate") H14 y p q (keptF c) lead := ⟨dy, rx, l14, e14, h14, d14⟩
      have hp14 := hp13.same s14
      have kl := oc.kept.2
      refine ⟨.ref Fc, rfl, .ref Fc, c, rfl, dc13.same s14, oc.wf, by omega, fun r hr => by have := oc.rows r hr; omega, fun kh H15 s15 nk dk15 => ⟨_, _, rfl, ?_⟩⟩
      have co15 := co14.same s15
      have hp15 := hp14.same s15
      have b15 := b0.trans (But.same (Same.trans s14 s15))
      have ock := oc.kept.1
      have okb : okBlocks (keptF c) := fun r hr e he => (ock.blocks r hr e he).1
      have rln : ∀ r ∈ keptF c, r.length = sz := fun r hr => by have := ock.rows r hr; omega
      refine ⟨8, rfl, by decide, by decide, ?_⟩
      refine for_range (lo := 0) (n := (8 : Int).toNat) (fun j σ G => ∃ r8 r9 r10 r11 r12, σ = [some (.ref pt), some (.int p), some (.int q), some (.int (sz : Int)), some (.int (0 + (i : Int))), some (.ref Fc), some (.ref y), some (.ref kh), r8, r9, r10, r11, r12] ∧ But pt H G ∧ PotAt G pt ∧ CodO (ad "Coder") (ad "Rate") G y p q (keptF c) lead ∧ Dx G (.ref kh) (chD (keptF c))) ⟨_, _, _, _, _, rfl, b15, hp15, co15, dk15⟩ ?_ ?_
      · rintro j σ H16 hj ⟨r8, r9, r10, r11, r12, rfl, b16, hp16, co16, dk16⟩
        refine ⟨.ref pt, rfl, .ref y, rfl, .int (sz : Int), rfl, pt, y, p, q, keptF c, lead, sz, rfl, hp16, co16, ock.wf, by omega, sz1, by omega, rln, fun v d H17 b17 hp17 dv good => ?_⟩
        have co17 := co16.but hp16 b17
        have dk17 := chD_but dk16 hp16 b17
        have bb17 := b16.trans b17
        refine gN ?_
        dsimp only
        refine seq_joinS (fun σ G => ∃ (v : V) (d : PyData), σ = [some (.ref pt), some (.int p), some (.int q), some (.int (sz : Int)), some (.int (0 + (i : Int))), some (.ref Fc), some (.ref y), some (.ref kh), some (.int (0 + (j : Int))), some v, r10, r11, r12] ∧ Dx (Hid pt G) v d ∧ Good d ∧ But pt H G ∧ PotAt G pt ∧ CodO (ad "Coder") (ad "Rate") G y p q (keptF c) lead ∧ Dx G (.ref kh) (chD (keptF c))) (fun N rest => ?_) (fun σ G f => ?_)
        · refine ⟨.ref pt, rfl, pt, 3, rfl, hp17, by decide, by decide +kernel, fun dz H18 z0 z1 hp18 b18 => ⟨rfl, _, rfl, ?_⟩⟩
          by_cases z : dz = 0
          · refine ifT (by rw [z]; simp) ?_
            refine ⟨.ref pt, rfl, .int (sz : Int), rfl, .ref pt, rfl, .int (sz : Int), rfl, pt, (sz : Int), 4, rfl, hp18, by omega, by omega, by decide, by decide, fun tt l H19 b19 hp19 n19 e19 h19 k19 => ?_⟩
            refine ⟨pt, sz, tt, l, rfl, hp19, hp18.ne n19, e19, by omega, fun x hx => by have := k19 x hx; omega, by omega, fun v' d' H20 b20 hp20 dv' good' => ?_⟩
            have bb := b18.trans (b19.trans b20)
            exact rest _ _ ⟨v', d', rfl, dv', good', bb17.trans bb, hp20, co17.but hp17 bb, chD_but dk17 hp17 bb⟩
          · refine ifF (decide_eq_false fun y => z (V.int.inj y)) ?_
            exact rest _ _ ⟨v, d, rfl, dv.same b18.hid, good, bb17.trans b18, hp18, co17.but hp17 b18, chD_but dk17 hp17 b18⟩
        · clear dv good
          obtain ⟨v, d, rfl, dv0, good, bG, hpG, coG, dkG⟩ := f
          have dv := dv0.same Hid.sub
          obtain ⟨g1, g2, g3⟩ := good.r3
          refine ⟨v, rfl, v, d, rfl, dv, g1, g2, g3, .ref kh, rfl, .int (sz : Int), rfl, v, rfl, .ref kh, p, q, keptF c, v, d, by rw [esz]; rfl, dkG, fit, ock, dv, fun x hx => (good.el x hx).2, good.ln, fun H18 s18 => ⟨_, _, rfl, ?_⟩⟩
          have s19' := s18
          refine ⟨.ref y, rfl, v, rfl, y, p, q, keptF c, lead, v, d, rfl, coG.same s18, fit, ock.wf, ock.rows, okb, dv.same s18, good.el, good.ln, fun H19 s19 => ?_⟩
          have s019 := Same.trans s18 s19
          refine ⟨v, rfl, .ref y, rfl, y, p, q, keptF c, lead, v, d, rfl, coG.same s019, fit, ock.wf, ock.rows, okb, dv.same s019, good.el, good.ln, fun H20 s20 => ⟨(by show 2 ≤ sizeLine; decide), fun TL hTL => ?_⟩⟩
          have s020 := Same.trans s019 s20
          have sTL := Same.new hTL (o := .lst [V.bl (clashD (keptF c) (2 ^ p.toNat) d), .bl (clashD (keptF c) (2 ^ p.toNat) d)])
          generalize clashD (keptF c) (2 ^ p.toNat) d = bb at sTL ⊢
          obtain ⟨w1, w2, w3⟩ := r3_bools bb bb
          have eTL : (upd H20 TL (.lst [V.bl bb, .bl bb])) TL = some (.lst [V.bl bb, .bl bb]) := upd_same
          have sG := Same.trans s020 sTL
          generalize (upd H20 TL (.lst [V.bl bb, .bl bb])) = H21 at eTL sG ⊢
          refine gN ?_
          dsimp only
          refine ⟨.ref TL, rfl, .ref TL, .list [.bool bb, .bool bb], rfl, .lst eTL (.cons (.bl _) (.cons (.bl _) .nil)), w1, w2, w3, .bl bb, rfl, .bl bb, rfl, (by show 2 ≤ sizeLine; decide), fun TM hTM => ?_⟩
          have sTM := Same.new hTM (o := .lst [V.bl bb, .bl bb])
          refine ⟨.ref TM, .list [.bool bb, .bool bb], rfl, .lst upd_same (.cons (.bl _) (.cons (.bl _) .nil)), w1, w2, w3, rfl, _, rfl, ifF (by simp) ?_⟩
          have sH := Same.trans sG sTM
          refine ⟨v, rfl, v, d, rfl, dv.same sH, g1, g2, g3, _, rfl, rfl, _, rfl, ifF (by simp) ?_⟩
          exact ⟨_, _, _, _, _, rfl, bG.trans (But.same sH), hpG.same sH, coG.same sH, dkG.same sH⟩
      · rintro σ H16 ⟨r8, r9, r10, r11, r12, rfl, b16, hp16, _⟩
        exact ⟨_, _, _, _, _, _, _, _, _, rfl, b16, hp16⟩
    · rintro σ H7 ⟨r4, r5, r6, r7, r8, r9, r10, r11, r12, rfl, b7, hp7⟩
      exact k _ b7 hp7
end
end K82
end

section
set_option maxHeartbeats 4000000
/-! the law -/
namespace K82
open PySem PySem.Spec PyProof.Rows L2
theorem sqKeep {K : PySem.W.Frag} {H H' : Hp} {a : Addr} {xs : List V} (h : SqL K H a xs) (s : ∀ o, H a = some o → H' a = some o) : SqL K H' a xs := by
  rcases h with h | h
  · rcases h with e | ⟨o, e⟩
    · exact .inl (.inl (s _ e))
    · exact .inl (.inr ⟨o, s _ e⟩)
  · exact .inr h
def spLaw (K : PySem.W.Frag) : Sp := fun vs H Q _ => ∃ (a : Addr) (ns : List Int), vs = [.ref a] ∧ SqL K H a (ns.map V.int) ∧ ∀ H', Q (.bl true) H'
/-! ### terms that make data, with no pot -/
def MkS (H0 : Hp) (σ : L2.St) (te : TE) (d : PyData) : Prop := ∀ (H : Hp) (Q : VK), Same H0 H → (∀ v H', Same H H' → Dx H' v d → Q v H') → te σ H Q
def MkSA (H0 : Hp) (σ : L2.St) (ta : TA) (ds : List PyData) : Prop := ∀ (H : Hp) (Q : List V → Hp → Prop), Same H0 H → (∀ vs H', Same H H' → DxAll H' vs ds → Q vs H') → ta σ H Q
section
variable {H0 : Hp} {σ : L2.St}
theorem mkS_c {v : V} {d : PyData} (h : ∀ H, Dx H v d) : MkS H0 σ (tC v) d := fun H Q b k => k v H Same.refl (h _)
theorem mkSA_nil : MkSA H0 σ tNil [] := fun H Q b k => k [] H Same.refl .nil
theorem mkSA_cons {te : TE} {ta : TA} {d : PyData} {ds : List PyData} (h : MkS H0 σ te d) (h2 : MkSA H0 σ ta ds) : MkSA H0 σ (tCons te ta) (d :: ds) := fun H Q b k => h H _ b fun v H1 b1 dv => h2 H1 _ (Same.trans b b1) fun vs H2 b2 dvs => k (v :: vs) H2 (Same.trans b1 b2) (.cons (dv.same b2) dvs)
theorem mkS_lst {ta : TA} {ds : List PyData} (h : MkSA H0 σ ta ds) (l : ds.length ≤ 1000) : MkS H0 σ (tLst ta) (.list ds) := fun H Q b k => h H _ b fun vs H1 b1 dvs => ⟨by rw [dvs.length, sizeLine_eq]; omega, fun a ha => k (.ref a) _ (Same.trans b1 (Same.new ha)) (.lst upd_same (dvs.same (Same.new ha)))⟩
theorem mkS_tup {ta : TA} {ds : List PyData} (h : MkSA H0 σ ta ds) (l : ds.length ≤ 1000) : MkS H0 σ (tTup ta) (.tuple ds) := fun H Q b k => h H _ b fun vs H1 b1 dvs => ⟨by rw [dvs.length, sizeLine_eq]; omega, fun a ha => k (.ref a) _ (Same.trans b1 (Same.new ha)) (.tup upd_same (dvs.same (Same.new ha)))⟩
theorem mkS_cat {ta tb : TE} {xs ys : List PyData} (h : MkS H0 σ ta (.list xs)) (h2 : MkS H0 σ tb (.list ys)) (lx : xs.length ≤ 500) (ly : ys.length ≤ 500) : MkS H0 σ (tOp rCat ta tb) (.list (xs ++ ys)) := fun H Q b k => h H _ b fun v H1 b1 dv => h2 H1 _ (Same.trans b b1) fun u H2 b2 du => by
  have dv2 := dv.same b2
  cases dv2 with
  | @lst a vs ds ea all =>
    cases du with
    | @lst a' us es ea' all' =>
      refine ⟨a, a', vs, us, rfl, rfl, ea, ea', by rw [all.length, all'.length, sizeLine_eq]; omega, fun c hc => ?_⟩
      exact k (.ref c) _ (Same.trans b1 (Same.trans b2 (Same.new hc))) (.lst upd_same ((all.same (Same.new hc)).app (all'.same (Same.new hc))))
theorem Dx.list' {H : Hp} {v : V} {ds : List PyData} (h : Dx H v (.list ds)) : ∃ a vs, v = .ref a ∧ H a = some (.lst vs) ∧ DxAll H vs ds := by
  cases h with
  | lst e l => exact ⟨_, _, rfl, e, l⟩
theorem dx_rep {H : Hp} {v : V} {d : PyData} (h : Dx H v d) : ∀ n : Nat, DxAll H ((List.replicate n [v]).flatten) (List.replicate n d)
  | 0 => .nil
  | n + 1 => by
    rw [List.replicate_succ, List.replicate_succ, List.flatten_cons]
    exact .cons h (dx_rep h n)
theorem mkS_rep {te : TE} {d : PyData} (h : MkS H0 σ te d) (n : Nat) (hn : n ≤ 1000) : MkS H0 σ (tOp rRep (tLst (tCons te tNil)) (tC (.int (n : Int)))) (.list (List.replicate n d)) := fun H Q b k => h H _ b fun v H1 b1 dv => ⟨by rw [sizeLine_eq]; show 1 ≤ 16777216; decide, fun a ha => by
  have s1 := Same.new ha (o := .lst [v])
  refine ⟨a, n, [v], rfl, rfl, upd_same, by omega, by omega, by rw [Int.toNat_natCast, sizeLine_eq]; show 1 * n ≤ _; omega, fun c hc => ?_⟩
  have s2 := Same.new hc (o := .lst ((List.replicate (n : Int).toNat [v]).flatten))
  exact k (.ref c) _ (Same.trans b1 (Same.trans s1 s2)) (.lst upd_same (by rw [Int.toNat_natCast]; exact dx_rep ((dv.same s1).same (Same.new hc)) n))⟩
end
def chA : Ch := [[(PySem.Str.ofString "a", 0), (PySem.Str.ofString "a", 0)]]
def chW : Ch := [List.replicate 16 (PySem.Str.ofString "a", 0)]
theorem wfA : WfC chA := by
  unfold WfC
  decide +kernel
theorem wfW : WfC chW := by
  unfold WfC
  decide +kernel
theorem okchA : okCh 1 1 chA := ⟨wfA, by decide +kernel, by decide +kernel, by decide +kernel⟩
theorem okchW : okCh 4 1 chW := ⟨wfW, by decide +kernel, by decide +kernel, by decide +kernel⟩
theorem keptchA : keptF chA = chA := by decide +kernel
theorem keptchW : keptF chW = chW := by decide +kernel
theorem okE : okRow (PySem.Str.ofString "") := ⟨by decide +kernel, by decide +kernel⟩
def thD : List PyData := [.tuple [.list [.int 1, .int 11], .list [.int 11, .int 1]], .tuple [.list [.int 1, .int 1], .list [.int 11]], .tuple [.list [.int 11, .int 1], .list [.int 1, .int 1, .int 1]], .tuple [.list [.int 1, .int 11], .list [.int 1, .int 11]]]
theorem th_due : thD.map (clashD chW (2 ^ (4 : Int).toNat)) = [true, false, false, false] := by decide +kernel
theorem th_good : ∀ d ∈ thD, Good d := fun d hd => Good.of (List.all_eq_true.mp (show thD.all goodB = true by decide +kernel) d hd)
theorem one_due : clashD chA (2 ^ (1 : Int).toNat) (.tuple [.list (List.replicate 300 (.int 0)), .list (List.replicate 299 (.int 0) ++ [.int 1])]) = true := by decide +kernel
theorem two_due : clashD chA (2 ^ (1 : Int).toNat) (.tuple [.list (List.replicate 300 (.int 0)), .list (List.replicate 300 (.int 0))]) = false := by decide +kernel
theorem leaf01 {l : List PyData} (h : ∀ e ∈ l, e = .int 0 ∨ e = .int 1) : ∀ e ∈ l, Leaf e := fun e he => (h e he).elim (fun z => by rw [z]; exact leaf_int (n := 0) (by decide)) fun z => by rw [z]; exact leaf_int (n := 1) (by decide)
theorem part0 : Part (.list (List.replicate 300 (.int 0))) := Part.list (leaf01 fun e he => .inl (List.mem_replicate.mp he).2) (by rw [List.length_replicate]; decide)
theorem part1 : Part (.list (List.replicate 299 (.int 0) ++ [.int 1])) := Part.list (leaf01 fun e he => (List.mem_append.mp he).elim (fun z => .inl (List.mem_replicate.mp z).2) fun z => .inr (List.mem_singleton.mp z)) (by rw [List.length_append, List.length_replicate]; decide)
theorem one_good : Good (.tuple [.list (List.replicate 300 (.int 0)), .list (List.replicate 299 (.int 0) ++ [.int 1])]) := Good.tuple part0 part1
theorem two_good : Good (.tuple [.list (List.replicate 300 (.int 0)), .list (List.replicate 300 (.int 0))]) := Good.tuple part0 part0
section
variable {P : Program} {w : World} {K : PySem.W.Frag} {mg : Str → Option Value} {base : Heap} {ad : Str → Addr} {fd : Str → FuncData}
theorem scLaw : FnScope ["_law_script", "_law_alone", "_law_wide", "_law_some", "_law_some_texts", "_law_k"] ["_law_script"] (defScope sLaw) := ⟨rfl, rfl, rfl, by decide +kernel, rfl, by decide +kernel, by decide +kernel⟩
theorem b_init3 (CC : CoderC K mg ad fd) : ∃ ds, Vals [V.str ""] ds ∧ Binds K (fd "Coder.__init__") ["self", "rate", "codes", "lead"] ds := CC.F_init.binds1 (ps := ["self", "rate", "codes", "lead"]) 3 0 (by decide) rfl fun T kV doc pm an cdv ct us its hl hi => (match us, its, hl, hi with | [_, _, _], [_], _, _ => ⟨_, by first | rfl | with_unfolding_all rfl, rfl⟩)
theorem ok_law (X : Tx K mg ad fd) (RC : RateC K mg ad fd) {N fN : Addr} (LN : ErrV K mg "InvalidNumber" N fN) (CC : CoderC K mg ad fd) (CM : CoderM K mg ad fd) (CP : CoderP K mg ad fd) (CE : CoderE K mg ad fd) (CH : CoderW K mg ad fd) : FnG P w K mg base 9 (ad "law") (fd "law") ["_law_script"] (spLaw K) := by
  have G_init := ok_init (P := P) (w := w) (base := base) X RC LN
  have G_cinit := ok_cinit (P := P) (w := w) (base := base) X RC CC
  have G_is_clash := ok_is_clash (P := P) (w := w) (base := base) X RC CC CM CP CE CH
  have G_right := ok_right (P := P) (w := w) (base := base) X RC LN CC CM CP CE CH
  have G__law_pot := ok_pot (P := P) (w := w) (base := base) X
  obtain ⟨dI, vI, bI⟩ := b_init3 CC
  refine fnG_body X.F_law scLaw (fun vs H Q E h => ?_) (fun cdv A outer s H vs Q E hr h => ?_)
  · obtain ⟨a, ns, rfl, _⟩ := h
    rfl
  · obtain ⟨a, ns, rfl, sq, k⟩ := h
    have hu64 : (A.deeper (envOfC "law" (defScope sLaw) s.heap.objs.size (ad "law") cdv)).units + 64 < cLine := by have := hr.rm.un; omega
    have HG8 : RoomG 8 _ := hr
    have HR__law_pot : Room 1 _ := hr.rm.mono (by decide)
    have HR_is_clash : Room 4 _ := hr.rm.mono (by decide)
    have HR_cinit : Room (5 + 1) _ := hr.rm.mono (by decide)
    have HR_init : Room (4 + 1) _ := hr.rm.mono (by decide)
    have PASS := passes_no (X := (cxOf CX0 P w K mg base ["_law_script", "_law_alone", "_law_wide", "_law_some", "_law_some_texts", "_law_k"] "law" (defScope sLaw) (ad "law") cdv A outer s H E).nox)
    refine ⟨_, (pss_cons (ps_set (i := 1) scLaw.nd rfl (.inl rfl) (by exact (pe_make CC.mks G_cinit HR_cinit (by rfl) CC.G bI vI pass0 (pa_cons (pe_make RC.mks G_init HR_init (by rfl) RC.G RC.b_init .nil PASS (pa_cons pe_int (pa_cons pe_int pa_nil))) (pa_cons (pe_lst (pa_cons (pe_lst (pa_cons (pe_tup (pa_cons pe_str (pa_cons pe_int pa_nil))) (pa_cons (pe_tup (pa_cons pe_str (pa_cons pe_int pa_nil))) pa_nil))) pa_nil)) pa_nil)))))
  (pss_cons (ps_if (PW.pt (pw_or (pt_not (pt_val (pe_call G_is_clash HR_is_clash (by rfl) X.g_is_clash X.F_is_clash.kp X.b_is_clash .nil pass0 (pa_cons (pv 1) (pa_cons (pe_tup (pa_cons (pe_op op_rep (pe_lst (pa_cons pe_int pa_nil)) pe_int) (pa_cons (pe_op op_cat (pe_op op_rep (pe_lst (pa_cons pe_int pa_nil)) pe_int) (pe_lst (pa_cons pe_int pa_nil))) pa_nil))) pa_nil))))) (pw_or1 (pt_val (pe_call G_is_clash HR_is_clash (by rfl) X.g_is_clash X.F_is_clash.kp X.b_is_clash .nil pass0 (pa_cons (pv 1) (pa_cons (pe_tup (pa_cons (pe_op op_rep (pe_lst (pa_cons pe_int pa_nil)) pe_int) (pa_cons (pe_op op_rep (pe_lst (pa_cons pe_int pa_nil)) pe_int) pa_nil))) pa_nil)))))))
  (pss_one (ps_ret (by exact pe_bl)))
  pss_nil)
  (pss_cons (ps_set (i := 2) scLaw.nd rfl (.inr rfl) (by exact (pe_make CC.mks G_cinit HR_cinit (by rfl) CC.G bI vI pass0 (pa_cons (pe_make RC.mks G_init HR_init (by rfl) RC.G RC.b_init .nil PASS (pa_cons pe_int (pa_cons pe_int pa_nil))) (pa_cons (pe_lst (pa_cons (pe_op op_rep (pe_lst (pa_cons (pe_tup (pa_cons pe_str (pa_cons pe_int pa_nil))) pa_nil)) pe_int) pa_nil)) pa_nil)))))
  (pss_cons (ps_set (i := 3) scLaw.nd rfl (.inl rfl) (by exact (pe_lst (pa_cons (pe_tup (pa_cons (pe_lst (pa_cons pe_int (pa_cons pe_int pa_nil))) (pa_cons (pe_lst (pa_cons pe_int (pa_cons pe_int pa_nil))) pa_nil))) (pa_cons (pe_tup (pa_cons (pe_lst (pa_cons pe_int (pa_cons pe_int pa_nil))) (pa_cons (pe_lst (pa_cons pe_int pa_nil)) pa_nil))) (pa_cons (pe_tup (pa_cons (pe_lst (pa_cons pe_int (pa_cons pe_int pa_nil))) (pa_cons (pe_lst (pa_cons pe_int (pa_cons pe_int (pa_cons pe_int pa_nil)))) pa_nil))) (pa_cons (pe_tup (pa_cons (pe_lst (pa_cons pe_int (pa_cons pe_int pa_nil))) (pa_cons (pe_lst (pa_cons pe_int (pa_cons pe_int pa_nil))) pa_nil))) pa_nil)))))))
  (pss_cons (ps_if (pt_cmpR (op_neD hu64) (pe_lc (own := [("_law_some_texts", 4)]) (g := gName 4) rfl scLaw.nd (pi_list (pv 3)) (blkOk_by (own := [("_law_some_texts", 4)]) (N := ["_law_script", "_law_alone", "_law_wide", "_law_some", "_law_some_texts", "_law_k"]) (sc := defScope sLaw) (by decide +kernel)) (fun _ _ _ _ _ => pg_name (i := 4) scLaw.nd rfl (Or.inl rfl)) (fun _ _ _ _ _ => pts_nil) (fun _ _ _ _ _ => (pe_call G_is_clash HR_is_clash (by rfl) X.g_is_clash X.F_is_clash.kp X.b_is_clash .nil pass0 (pa_cons (pv 2) (pa_cons (pv 4) pa_nil))))) (pe_lst (pa_cons pe_bl (pa_cons pe_bl (pa_cons pe_bl (pa_cons pe_bl pa_nil))))) (nomark _))
  (pss_one (ps_ret (by exact pe_bl)))
  pss_nil)
  (pss_one (ps_ret (by exact (pe_callB (cr_all rfl) (by rfl) X.m_all (by decide +kernel) (pa_cons (pe_lc (own := [("_law_k", 5)]) (g := gName 5) rfl scLaw.nd (pi_range1 (by rfl) X.m_range (pa_cons (pe_callB (call_max2 rfl) (by rfl) X.m_max (by decide +kernel) (pa_cons pe_int (pa_cons (pe_callB (call_min2 rfl) (by rfl) X.m_min (by decide +kernel) (pa_cons pe_int (pa_cons (pe_callB call_len (by rfl) X.m_len (by decide +kernel) (pa_cons (pv 0) pa_nil)) pa_nil))) pa_nil))) pa_nil)) (blkOk_by (own := [("_law_k", 5)]) (N := ["_law_script", "_law_alone", "_law_wide", "_law_some", "_law_some_texts", "_law_k"]) (sc := defScope sLaw) (by decide +kernel)) (fun _ _ _ _ _ => pg_name (i := 5) scLaw.nd rfl (Or.inl rfl)) (fun _ _ _ _ _ => pts_nil) (fun _ _ _ _ _ => (pe_callG (E := E0) G_right HG8 (by rfl) X.g__law_right X.F__law_right.kp X.b__law_right (pa_cons (pe_call G__law_pot HR__law_pot (by rfl) X.g__law_pot X.F__law_pot.kp X.b__law_pot .nil pass0 (pa_cons (pv 0) (pa_cons (pv 5) pa_nil))) pa_nil)))) pa_nil)))))))))), ?_⟩
    refine fun rx rdx hrx hrdx ne => ?_
    refine made_at (.int 1) (.int 1) (tame_int (by decide)) (tame_int (by decide)) (fun z => absurd (z.symm.trans (rate_six (i := 1) (by decide) (by decide))) (by decide)) (fun _ z => absurd (z.symm.trans (rate_six (i := 1) (by decide) (by decide))) (by decide)) hrx hrdx ne fun p' q' e e' f' H12 s12 ho1 => ?_
    cases e
    cases e'
    have mc1 : MkS H12 (L2.start ["_law_script", "_law_alone", "_law_wide", "_law_some", "_law_some_texts", "_law_k"] [.ref a]) (tLst (tCons (tLst (tCons (tTup (tCons (tC (.str "a")) (tCons (tC (.int 0)) tNil))) (tCons (tTup (tCons (tC (.str "a")) (tCons (tC (.int 0)) tNil))) tNil))) tNil)) (.list [(.list [(.tuple [(.str "a"), (.int 0)]), (.tuple [(.str "a"), (.int 0)])])]) := (mkS_lst (mkSA_cons (mkS_lst (mkSA_cons (mkS_tup (mkSA_cons (mkS_c fun _ => .str _) (mkSA_cons (mkS_c fun _ => .int _) mkSA_nil)) (by show 2 ≤ 1000; decide)) (mkSA_cons (mkS_tup (mkSA_cons (mkS_c fun _ => .str _) (mkSA_cons (mkS_c fun _ => .int _) mkSA_nil)) (by show 2 ≤ 1000; decide)) mkSA_nil)) (by show 2 ≤ 1000; decide)) mkSA_nil) (by show 1 ≤ 1000; decide))
    refine mc1 H12 _ Same.refl fun v1 H13 s13 dv1 => ?_
    refine fun y1 dy1 hy1 hdy1 ney1 => ?_
    have Sy1 : Same H13 (upd (upd H13 dy1 (.own y1)) y1 (.ins (ad "Coder") dy1 [])) := fun b o eb => by
      rw [upd_ne (ne_of_none eb hy1), upd_ne (ne_of_none eb hdy1)]
      exact eb
    refine ⟨y1, dy1, rx, v1, chA, "", 1, 1, rfl, upd_same, (ho1.same s13).same Sy1, f', dv1.same Sy1, okchA, okE, fun H14 l14 b14 e14 h14 d14 => ⟨rfl, ?_⟩⟩
    have s14 : Same H13 H14 := fun b o eb => b14 _ _ (ne_of_none eb hy1) (Sy1 _ _ eb)
    have co1 : CodO (ad "Coder") (ad "Rate") H14 y1 1 1 (keptF chA) "" := ⟨dy1, rx, l14, e14, h14, d14⟩
    rw [keptchA] at co1
    refine gN ?_
    dsimp only
    refine ⟨.ref y1, rfl, ?_⟩
    have mt1 : MkS H14 ((L2.start ["_law_script", "_law_alone", "_law_wide", "_law_some", "_law_some_texts", "_law_k"] [.ref a]).set 1 (some (.ref y1))) (tTup (tCons (tOp rRep (tLst (tCons (tC (.int 0)) tNil)) (tC (.int 300))) (tCons (tOp rCat (tOp rRep (tLst (tCons (tC (.int 0)) tNil)) (tC (.int 299))) (tLst (tCons (tC (.int 1)) tNil))) tNil))) (.tuple [(.list (List.replicate 300 (.int 0))), (.list (List.replicate 299 (.int 0) ++ [.int 1]))]) := (mkS_tup (mkSA_cons (mkS_rep (mkS_c fun _ => .int _) 300 (by decide)) (mkSA_cons (mkS_cat (mkS_rep (mkS_c fun _ => .int _) 299 (by decide)) (mkS_lst (mkSA_cons (mkS_c fun _ => .int _) mkSA_nil) (by show 1 ≤ 1000; decide)) (by decide +kernel) (by show 1 ≤ 500; decide)) mkSA_nil)) (by show 2 ≤ 1000; decide))
    refine mt1 H14 _ Same.refl fun u1 H15 s15 du1 => ?_
    refine ⟨y1, 1, 1, chA, "", u1, _, rfl, co1.same s15, ⟨by decide, by decide, by decide, by decide⟩, wfA, okchA.rows, (fun r hr e he => (okchA.blocks r hr e he).1), du1, one_good.el, one_good.ln, fun H16 s16 => ?_⟩
    rw [one_due]
    refine ⟨_, rfl, ifF rfl ?_⟩
    refine ⟨.ref y1, rfl, ?_⟩
    have s416 := Same.trans s15 s16
    have mt2 : MkS H16 ((L2.start ["_law_script", "_law_alone", "_law_wide", "_law_some", "_law_some_texts", "_law_k"] [.ref a]).set 1 (some (.ref y1))) (tTup (tCons (tOp rRep (tLst (tCons (tC (.int 0)) tNil)) (tC (.int 300))) (tCons (tOp rRep (tLst (tCons (tC (.int 0)) tNil)) (tC (.int 300))) tNil))) (.tuple [(.list (List.replicate 300 (.int 0))), (.list (List.replicate 300 (.int 0)))]) := (mkS_tup (mkSA_cons (mkS_rep (mkS_c fun _ => .int _) 300 (by decide)) (mkSA_cons (mkS_rep (mkS_c fun _ => .int _) 300 (by decide)) mkSA_nil)) (by show 2 ≤ 1000; decide))
    refine mt2 H16 _ Same.refl fun u2 H17 s17 du2 => ?_
    have s417 := Same.trans s416 s17
    refine ⟨y1, 1, 1, chA, "", u2, _, rfl, co1.same s417, ⟨by decide, by decide, by decide, by decide⟩, wfA, okchA.rows, (fun r hr e he => (okchA.blocks r hr e he).1), du2, two_good.el, two_good.ln, fun H18 s18 => ?_⟩
    rw [two_due]
    refine ⟨_, rfl, ifF rfl ?_⟩
    have s418 := Same.trans s417 s18
    refine fun rx rdx hrx hrdx ne => ?_
    refine made_at (.int 4) (.int 1) (tame_int (by decide)) (tame_int (by decide)) (fun z => absurd (z.symm.trans (rate_six (i := 4) (by decide) (by decide))) (by decide)) (fun _ z => absurd (z.symm.trans (rate_six (i := 1) (by decide) (by decide))) (by decide)) hrx hrdx ne fun p' q' e e' f' H22 s22 ho2 => ?_
    cases e
    cases e'
    have mc2 : MkS H22 ((L2.start ["_law_script", "_law_alone", "_law_wide", "_law_some", "_law_some_texts", "_law_k"] [.ref a]).set 1 (some (.ref y1))) (tLst (tCons (tOp rRep (tLst (tCons (tTup (tCons (tC (.str "a")) (tCons (tC (.int 0)) tNil))) tNil)) (tC (.int 16))) tNil)) (.list [(.list (List.replicate 16 (.tuple [(.str "a"), (.int 0)])))]) := (mkS_lst (mkSA_cons (mkS_rep (mkS_tup (mkSA_cons (mkS_c fun _ => .str _) (mkSA_cons (mkS_c fun _ => .int _) mkSA_nil)) (by show 2 ≤ 1000; decide)) 16 (by decide)) mkSA_nil) (by show 1 ≤ 1000; decide))
    refine mc2 H22 _ Same.refl fun v2 H23 s23 dv2 => ?_
    refine fun y2 dy2 hy2 hdy2 ney2 => ?_
    have Sy2 : Same H23 (upd (upd H23 dy2 (.own y2)) y2 (.ins (ad "Coder") dy2 [])) := fun b o eb => by
      rw [upd_ne (ne_of_none eb hy2), upd_ne (ne_of_none eb hdy2)]
      exact eb
    refine ⟨y2, dy2, rx, v2, chW, "", 4, 1, rfl, upd_same, (ho2.same s23).same Sy2, f', dv2.same Sy2, okchW, okE, fun H24 l24 b24 e24 h24 d24 => ⟨rfl, ?_⟩⟩
    have s24 : Same H23 H24 := fun b o eb => b24 _ _ (ne_of_none eb hy2) (Sy2 _ _ eb)
    have co2 : CodO (ad "Coder") (ad "Rate") H24 y2 4 1 (keptF chW) "" := ⟨dy2, rx, l24, e24, h24, d24⟩
    rw [keptchW] at co2
    refine gN ?_
    dsimp only
    have mt3 : MkS H24 (((L2.start ["_law_script", "_law_alone", "_law_wide", "_law_some", "_law_some_texts", "_law_k"] [.ref a]).set 1 (some (.ref y1))).set 2 (some (.ref y2))) (tLst (tCons (tTup (tCons (tLst (tCons (tC (.int 1)) (tCons (tC (.int 11)) tNil))) (tCons (tLst (tCons (tC (.int 11)) (tCons (tC (.int 1)) tNil))) tNil))) (tCons (tTup (tCons (tLst (tCons (tC (.int 1)) (tCons (tC (.int 1)) tNil))) (tCons (tLst (tCons (tC (.int 11)) tNil)) tNil))) (tCons (tTup (tCons (tLst (tCons (tC (.int 11)) (tCons (tC (.int 1)) tNil))) (tCons (tLst (tCons (tC (.int 1)) (tCons (tC (.int 1)) (tCons (tC (.int 1)) tNil)))) tNil))) (tCons (tTup (tCons (tLst (tCons (tC (.int 1)) (tCons (tC (.int 11)) tNil))) (tCons (tLst (tCons (tC (.int 1)) (tCons (tC (.int 11)) tNil))) tNil))) tNil))))) (.list [(.tuple [(.list [(.int 1), (.int 11)]), (.list [(.int 11), (.int 1)])]), (.tuple [(.list [(.int 1), (.int 1)]), (.list [(.int 11)])]), (.tuple [(.list [(.int 11), (.int 1)]), (.list [(.int 1), (.int 1), (.int 1)])]), (.tuple [(.list [(.int 1), (.int 11)]), (.list [(.int 1), (.int 11)])])]) := (mkS_lst (mkSA_cons (mkS_tup (mkSA_cons (mkS_lst (mkSA_cons (mkS_c fun _ => .int _) (mkSA_cons (mkS_c fun _ => .int _) mkSA_nil)) (by show 2 ≤ 1000; decide)) (mkSA_cons (mkS_lst (mkSA_cons (mkS_c fun _ => .int _) (mkSA_cons (mkS_c fun _ => .int _) mkSA_nil)) (by show 2 ≤ 1000; decide)) mkSA_nil)) (by show 2 ≤ 1000; decide)) (mkSA_cons (mkS_tup (mkSA_cons (mkS_lst (mkSA_cons (mkS_c fun _ => .int _) (mkSA_cons (mkS_c fun _ => .int _) mkSA_nil)) (by show 2 ≤ 1000; decide)) (mkSA_cons (mkS_lst (mkSA_cons (mkS_c fun _ => .int _) mkSA_nil) (by show 1 ≤ 1000; decide)) mkSA_nil)) (by show 2 ≤ 1000; decide)) (mkSA_cons (mkS_tup (mkSA_cons (mkS_lst (mkSA_cons (mkS_c fun _ => .int _) (mkSA_cons (mkS_c fun _ => .int _) mkSA_nil)) (by show 2 ≤ 1000; decide)) (mkSA_cons (mkS_lst (mkSA_cons (mkS_c fun _ => .int _) (mkSA_cons (mkS_c fun _ => .int _) (mkSA_cons (mkS_c fun _ => .int _) mkSA_nil))) (by show 3 ≤ 1000; decide)) mkSA_nil)) (by show 2 ≤ 1000; decide)) (mkSA_cons (mkS_tup (mkSA_cons (mkS_lst (mkSA_cons (mkS_c fun _ => .int _) (mkSA_cons (mkS_c fun _ => .int _) mkSA_nil)) (by show 2 ≤ 1000; decide)) (mkSA_cons (mkS_lst (mkSA_cons (mkS_c fun _ => .int _) (mkSA_cons (mkS_c fun _ => .int _) mkSA_nil)) (by show 2 ≤ 1000; decide)) mkSA_nil)) (by show 2 ≤ 1000; decide)) mkSA_nil)))) (by show 4 ≤ 1000; decide))
    refine seq_set ?_
    refine mt3 H24 _ Same.refl fun u3 H25 s25 du3 => ?_
    have s1825 : Same H18 H25 := fun b o eb => s25 _ _ (s24 _ _ (s23 _ _ (s22 _ _ eb)))
    have co5 := co2.same s25
    obtain ⟨au, vu, eu, hu3, allu⟩ := du3.list'
    subst eu
    refine ⟨.ref au, rfl, au, rfl, ⟨_, SqL.of hu3⟩, fun D hD => ?_⟩
    have lv : vu.length = 4 := allu.length
    refine lc_map (w := walk_list (K := K) (a := au) (xs := vu)) (fun i => V.bl (([true, false, false, false] : List Bool).getD i false)) hD (by omega) (fun i Hc _ sc => SqL.of (sc _ _ hu3)) (fun _ => rfl) (fun i x' Hc Hd hi sc yy => ?_) (fun H26 s26 eD => ?_)
    · obtain ⟨rfl, hx'⟩ := yy
      refine ⟨Same.refl, fun Q' hQ => ?_⟩
      obtain ⟨d', h1, h2⟩ := allu.from_ hx'
      have gd := th_good d' (List.mem_of_getElem? h1)
      have due : clashD chW (2 ^ (4 : Int).toNat) d' = ([true, false, false, false] : List Bool).getD i false := by
        rw [← th_due, List.getD_eq_getElem?_getD, List.getElem?_map]
        rw [show thD[i]? = some d' from h1]
        rfl
      refine ⟨.ref y2, rfl, x', rfl, y2, 4, 1, chW, "", x', d', rfl, co5.same sc, ⟨by decide, by decide, by decide, by decide⟩, wfW, okchW.rows, (fun r hr e he => (okchW.blocks r hr e he).1), h2.same sc, gd.el, gd.ln, fun H27 s27 => ?_⟩
      rw [due]
      exact hQ H27 s27
    · rw [lv] at eD
      have eD' : H26 D = some (.lst [V.bl true, .bl false, .bl false, .bl false]) := eD
      refine ⟨(by show 4 ≤ sizeLine; decide), fun E1 hE1 => ?_⟩
      have sE := Same.new hE1 (o := .lst [V.bl true, .bl false, .bl false, .bl false])
      refine ⟨.list [.bool true, .bool false, .bool false, .bool false], .list [.bool true, .bool false, .bool false, .bool false], Dx.dp (.lst (sE _ _ eD') (.cons (.bl _) (.cons (.bl _) (.cons (.bl _) (.cons (.bl _) .nil))))) (by rfl), Dx.dp (.lst upd_same (.cons (.bl _) (.cons (.bl _) (.cons (.bl _) (.cons (.bl _) .nil))))) (by rfl), by decide +kernel, by decide +kernel, _, rfl, ifF (by decide +kernel) ?_⟩
      have sZ : Same H (upd H26 E1 (.lst [V.bl true, .bl false, .bl false, .bl false])) := fun b o eb => sE _ _ (s26 _ _ (s1825 _ _ (s418 _ _ (s14 _ _ (s13 _ _ (s12 _ _ eb))))))
      generalize (upd H26 E1 (.lst [V.bl true, .bl false, .bl false, .bl false])) = HZ at sZ ⊢
      obtain ⟨m, hm, em⟩ : ∃ m : Nat, m ≤ 4 ∧ (if (if ((ns.map V.int).length : Int) < 4 then ((ns.map V.int).length : Int) else 4) > 1 then (if ((ns.map V.int).length : Int) < 4 then ((ns.map V.int).length : Int) else 4) else 1) = (m : Int) := by
        by_cases c : ((ns.map V.int).length : Int) < 4
        · rw [if_pos c]
          by_cases c2 : ((ns.map V.int).length : Int) > 1
          · rw [if_pos c2]; exact ⟨_, by omega, rfl⟩
          · rw [if_neg c2]; exact ⟨1, by omega, rfl⟩
        · rw [if_neg c, if_pos (by decide)]; exact ⟨4, Nat.le_refl _, rfl⟩
      refine ⟨.ref a, rfl, .ref a, _, rfl, .inl ⟨_, sqKeep sq (fun o e => sZ _ _ e), rfl⟩, 4, _, rfl, 1, _, rfl, _, rfl, ?_⟩
      rw [em]
      refine ⟨by omega, by omega, fun D2 hD2 => ?_⟩
      refine lc_range (lo := 0) (n := (m : Int).toNat) (fun i H' => (∀ o, H a = some o → H' a = some o) ∧ H' D2 = some (.lst ((List.replicate i true).map V.bl))) ⟨fun o e => Same.new hD2 _ _ (sZ _ _ e), upd_same⟩ (fun i H' hi hP => ?_) (fun H' hP => ?_)
      · obtain ⟨s4, eD⟩ := hP
        refine ⟨rfl, .ref a, rfl, .int (0 + i), rfl, a, ns, _, rfl, sqKeep sq s4, by omega, by omega, fun p H4 hp0 hpot s5 => ⟨p, rfl, hpot, fun H5 hb hp5 => ?_⟩⟩
        have eD4 := s5 _ _ eD
        have nDp : D2 ≠ p := ne_of_none eD hp0
        have eD5 := hb _ _ nDp eD4
        refine ⟨_, eD5, ?_, ?_, ?_⟩
        · rw [List.length_map, List.length_replicate, sizeLine_eq]; omega
        · intro o e
          rw [upd_ne (ne_of_none (sZ _ _ e) hD2)]
          exact hb _ _ (ne_of_none (s4 o e) hp0) (s5 _ _ (s4 o e))
        · rw [upd_same, List.replicate_succ', List.map_append]; rfl
      · obtain ⟨s4, eD⟩ := hP
        have ea : (List.replicate (m : Int).toNat true).all id = true := by simp
        refine ⟨D2, _, rfl, SqL.of eD, ?_⟩
        rw [ea]
        exact k _
end
end K82
end

section
set_option maxHeartbeats 4000000
/-! the end of a law whose defs call repr -/
namespace K82
open PySem PySem.Spec PyProof.Rows L2
/-- what is tracked at the law's call: the script, unless it is one of the module's own objects -/
def H0 (K : PySem.W.Frag) (a : Addr) (o : Obj) (xs : List V) : Hp := fun b => if b = a ∧ K.lookup a = none then some (.frz o (.lst xs)) else none
theorem H0_some {K : PySem.W.Frag} {a : Addr} {o : Obj} {xs : List V} {b : Addr} {u : HO} (h : H0 K a o xs b = some u) : b = a ∧ K.lookup a = none ∧ u = .frz o (.lst xs) := by
  unfold H0 at h
  split at h
  · rename_i c
    exact ⟨c.1, c.2, (Option.some.inj h).symm⟩
  · cases h
theorem law_endG {P : Program} {w : World} {K : PySem.W.Frag} {mg mb : Str → Option Value} {k : Nat} {fa a : Addr} {fd : FuncData} {x : Str} {sp : Sp} {s₁ : Shared} {vs : List Value} {ns : List Int}
    (inK : K.In s₁.heap) (gl : s₁.heap.Ns mainGlobals mg) (bl : s₁.heap.Ns builtinsNs mb) (bb : ∀ x : Str, x ≠ "__name__" → mb x = bootBuiltins x) (nl : s₁.heap.NoLimit) (g0 : s₁.gens = #[])
    (at_a : s₁.heap.get? a = some { cls := .type "list", data := .seq vs.toArray }) (hints : IntsAre vs ns) (size : ns.length ≤ sizeLine) (room : Room k callerA)
    (F : ∀ base : Heap, K.In base → base.Ns mainGlobals mg → FnG P w K mg base k fa fd [x] sp) (bind : ∀ (s : Shared) (u : Value), BindsTo s fd ⟨[u], []⟩ [(x, u)])
    (goal : ∀ H : Hp, Only H → SqL K H a (ns.map V.int) → sp [.ref a] H (fun v _ => v = .bl true) fun _ _ _ => False) :
    codeAny (model P w) callerA (.call (.ref fa) ⟨[.ref a], []⟩) (fun r s' => r = .ok (.ret (.bool true)) ∧ OldK s₁.heap s'.heap ∧ s'.os = s₁.os ∧ AllBare s'.gens) s₁ := by
  let ob : Obj := { cls := .type "list", data := .seq vs.toArray }
  have vals := vals_ints hints
  let H := H0 K a ob (ns.map V.int)
  have only : Only H := fun b => by
    cases e : H b with
    | none => exact .inl rfl
    | some u => exact .inr ⟨_, _, congrArg some (H0_some e).2.2⟩
  have sq : SqL K H a (ns.map V.int) := by
    cases e : K.lookup a with
    | some o =>
      have z : o = ob := Option.some.inj ((inK a o e).symm.trans at_a)
      subst z
      exact .inr ⟨_, _, _, e, rfl, rfl, rfl, by rw [List.size_toArray, hints.length]; exact size, by simpa using vals⟩
    | none => exact .inl (.inr ⟨ob, if_pos ⟨rfl, e⟩⟩)
  have ok : HOk P w H s₁.heap := fun b u e => by
    obtain ⟨rfl, _, rfl⟩ := H0_some e
    exact ⟨at_a, by rw [List.length_map]; exact size, vs, _, vals, at_a⟩
  have up : ∀ {b : Addr} {o : Obj}, s₁.heap.get? b = some o → H b = none → (hidT s₁.heap H).get? b = some o := fun e n => hidT_get e n
  have inB : K.In (hidT s₁.heap H) := fun b o e => up (inK b o e) (by
    cases z : H b with
    | none => rfl
    | some u =>
      obtain ⟨rfl, n, _⟩ := H0_some z
      have n2 : K.lookup b = some o := e
      rw [n] at n2; cases n2)
  have ns' : ∀ {b : Addr} {m : Str → Option Value}, s₁.heap.Ns b m → (hidT s₁.heap H).Ns b m := by
    rintro b m ⟨o, es, ep, e, d, r⟩
    refine ⟨o, es, ep, up e ?_, d, r⟩
    cases z : H b with
    | none => rfl
    | some u =>
      obtain ⟨rfl, _, _⟩ := H0_some z
      have z2 : o = ob := Option.some.inj (e.symm.trans at_a)
      subst z2
      have d' : Data.seq vs.toArray _ = Data.dict es ep := d
      cases d'
  have md : Mod K mg (hidT s₁.heap H) := ⟨inB, ns' gl, ⟨mb, ns' bl, bb⟩, nl.elim fun mc q => ⟨mc, ns' q.1, q.2⟩⟩
  have nofr : ∀ b, b ∉ frs ([] : List Env) := fun b z => by cases (show b ∈ ([] : List Addr) from z)
  have e0 : Env0 P w K mg (hidT s₁.heap H) callerA [] s₁ H := ⟨rfl, md, fun b o e => of_hidT e, Nat.le_of_eq (hidT_size _ _), trivial, fun b z => (nofr b z).elim, ok, .of_eq g0⟩
  refine codeAny_mono ((F _ inB (ns' gl)).run callerA [] s₁ H ⟨[.ref a], []⟩ [.ref a] [.ref a] _ _ ⟨room, rfl⟩ e0 (bind s₁ (.ref a)) (.cons rfl .nil) (goal H only sq)) ?_
  intro r s' hr
  match r, hr with
  | .ok (.ret u), ⟨v, H', os, bare, un, ok', rv, (hv : v = .bl true)⟩ =>
    subst hv
    obtain rfl : u = Value.bool true := rv
    refine ⟨rfl, OldK.of_keep fun b o e => ?_, os, bare⟩
    rcases only b with z | ⟨o2, xs, z⟩
    · exact un.keep b o e z (nofr b) (by simp)
    · have old := (ok b _ z).1
      rw [e] at old
      cases old
      exact (ok' b _ (un.frzs b _ _ z)).1
theorem walk_ofG {l : PySem.W.OpenLaw} {n k : Nat} {q : Program} {loose : List Str} {XP : (Str → Option Value) → Heap → Prop} {YP : World → Heap → Prop} {d : DefRec} {K : Params → PySem.W.Frag} {sp : World → Sp} {x : Str}
    (hn : l.most = some n) (hn2 : n ≤ sizeLine) (hdf : d.params.defaults = []) (hr : Room k callerA)
    (hY : ∀ (w : World) (h : Heap), YP w h → (K w.params).In h)
    (F : ∀ (w : World) (mg : Str → Option Value) (fa : Addr) (h : Heap), (K w.params).In h → h.Ns mainGlobals mg → mg d.name = some (.ref fa) →
      ∃ fd : FuncData, (∀ (s : Shared) (u : Value), BindsTo s fd ⟨[u], []⟩ [(x, u)]) ∧ ∀ base : Heap, (K w.params).In base → base.Ns mainGlobals mg → FnG l.prog w (K w.params) mg base k fa fd [x] (sp w))
    (hsp : ∀ (w : World) (H : Hp) (a : Addr) (ns : List Int), ns.length ≤ n → Only H → SqL (K w.params) H a (ns.map V.int) → sp w [.ref a] H (fun v _ => v = .bl true) fun _ _ _ => False) :
    PySem.W.WalkO q loose XP YP l.row.toRowW d [] (fun f vs => PySem.call f vs) :=
  Att.attach_call hn hdf fun w s₀ s₁ mg mb fa o pm cd doc a vs ns G Y ho hd hcd hmg hobj hints hlen hg => by
    obtain ⟨fd, hb, hF⟩ := F w mg fa _ (hY w _ Y) G.T.g hmg
    exact law_endG (hY w _ Y) G.T.g G.T.b G.T.builtins G.T.nolimit hg hobj hints (Nat.le_trans hlen hn2) hr hF hb fun H hO hS => hsp w H a ns hlen hO hS
end K82
end

section
set_option maxHeartbeats 4000000
/-! what the top has left, as bools of the written part -/
namespace K82
open PySem PySem.Spec PyProof.Rows L2
section
open PySem.W
def xbB (K : Frag) (C : Addr) (bmB : List Value) (newId : String) : Bool := match K.lookup C with
  | some ⟨.type "type", _, .cls cd, sl⟩ => (match cd.mro, sl.toList with
    | .ref C' :: bm, [_, _, _, _, some (.builtin n), _] => C' == C && n == newId && !cd.hasDel && cd.hasDict && refsTo bmB bm
    | _, _ => false)
  | _ => false
theorem xb_cls {K : Frag} {C : Addr} {bmB : List Value} {newId : String} (q : xbB K C bmB newId = true) :
    ∃ nm qn N bs bm sn sub ab col dd k0 k1 k2 k3 k5, K.lookup C = some (excClassObj nm qn C N bs bm true sn sub ab col dd k0 k1 k2 k3 k5 newId) ∧ refsTo bmB bm = true := by
  unfold xbB at q
  split at q
  · rename_i dd cd sl ho
    split at q
    · rename_i C' bm k0 k1 k2 k3 n k5 hm hs
      simp only [Bool.and_eq_true, beq_iff_eq, Bool.not_eq_true'] at q
      obtain ⟨⟨⟨⟨rfl, rfl⟩, hdel⟩, hdic⟩, ht⟩ := q
      obtain ⟨nm, bs, mro, ns, qn, hd, sn, sub, ab, col, del⟩ := cd
      dsimp only at hm hdel hdic
      subst hm hdel hdic
      refine ⟨nm, qn, ns, bs, bm, sn, sub, ab, col, dd, k0, k1, k2, k3, k5, ?_, ht⟩
      rw [ho]
      have e : sl = #[k0, k1, k2, k3, some (.builtin n), k5] := by
        obtain ⟨l⟩ := sl
        have : l = [k0, k1, k2, k3, some (.builtin n), k5] := hs
        rw [this]
      rw [e]
    · cases q
  · cases q
def ecB (K : Frag) (D : Addr) : Bool :=
  decide (findIn K (.ref D) "__getattribute__" = some (some (.builtin "BaseException.__getattribute__"))) && (decide (findIn K (.ref D) "__getattr__" = some none) && (decide (subIn K (.ref D) (.type "BaseException") = some true) && (hasDictIn K D &&
  (decide (findIn K (.ref D) "__class__" = some (some (.builtin "object.__class__"))) && (decide (specialIn K (.builtin "object.__class__") "__get__" = some (some (.builtin "getset_descriptor.__get__"))) && (decide (takesIn K (.builtin "object.__class__") = some true) && decide (mroIn K D (.type "object") = some true)))))))
theorem ec_of {K : Frag} {D : Addr} (h : ecB K D = true) : EC K D := by
  obtain ⟨h1, h⟩ := He.ba h
  obtain ⟨h2, h⟩ := He.ba h
  obtain ⟨h3, h⟩ := He.ba h
  obtain ⟨h4, h⟩ := He.ba h
  obtain ⟨h5, h⟩ := He.ba h
  obtain ⟨h6, h⟩ := He.ba h
  obtain ⟨h7, h8⟩ := He.ba h
  exact ⟨of_decide_eq_true h1, of_decide_eq_true h2, of_decide_eq_true h3, h4, of_decide_eq_true h5, of_decide_eq_true h6, of_decide_eq_true h7, of_decide_eq_true h8⟩
def xbAll (K : Frag) (C : Addr) (bmB : List Value) (newId : String) : Bool :=
  xbB K C bmB newId && (ecB K C && (decide (findIn K (.ref C) "__setattr__" = some (some (.builtin "object.__setattr__"))) && (decide (typeIn K (.ref C) = some (.type "type")) && keepIn K (.ref C))))
theorem xb_of {K : Frag} {C : Addr} {bmB : List Value} {newId : String} (h : xbAll K C bmB newId = true) : XB K C bmB newId := by
  obtain ⟨h1, h⟩ := He.ba h
  obtain ⟨h2, h⟩ := He.ba h
  obtain ⟨h3, h⟩ := He.ba h
  obtain ⟨h4, h5⟩ := He.ba h
  exact ⟨xb_cls h1, ec_of h2, of_decide_eq_true h3, of_decide_eq_true h4, h5⟩
def xiB (K : Frag) (C fI : Addr) : Bool := decide (findIn K (.ref C) "__init__" = some (some (.ref fI))) && decide (typeIn K (.ref fI) = some (.type "function"))
theorem xi_of {K : Frag} {C fI : Addr} (h : xiB K C fI = true) : XI K C fI := by
  obtain ⟨h1, h2⟩ := He.ba h
  exact ⟨of_decide_eq_true h1, of_decide_eq_true h2⟩
/-- the def at f, without defaults -/
def fnA (K : Frag) (f : Addr) : He.FnW := match K.lookup f with
  | some ⟨_, _, .func fd, _⟩ => some (fd.name, fd.qualname, fd.params, fd.body, fd.scope, fd.globals, fd.closure, fd.builtins)
  | _ => none
def plain2 (d k : Value) (b : Bool) : Bool := match d, k with
  | .none, .none => b
  | _, _ => false
theorem plain2_ok {d k : Value} {b : Bool} (h : plain2 d k b = true) : d = .none ∧ k = .none ∧ b = true := by
  unfold plain2 at h
  split at h
  · exact ⟨rfl, rfl, h⟩
  · cases h
def plainB (K : Frag) (f : Addr) : Bool := match K.lookup f with
  | some ⟨_, _, .func fd, _⟩ => plain2 fd.defaults fd.kwdefaults (codeIn K fd.code fd.qualname)
  | _ => false
theorem fn_at {K : Frag} {f : Addr} {nm qual : Str} {params : Arguments} {body : List Stmt} {scope : Scope} (e : fnA K f = some (nm, qual, params, .stmts body, scope, mainGlobals, [], builtinsNs)) (c : plainB K f = true) :
    ∃ (oc : Value) (od : Option Addr) (doc pm : Value) (an : Option Addr) (cdv ct : Value) (osl : Array (Option Value)), K.lookup f = some ⟨oc, od, .func (fnOf nm qual params body scope .none .none doc pm an cdv ct), osl⟩ ∧ codeIn K cdv qual = true := by
  unfold fnA at e
  unfold plainB at c
  cases q : K.lookup f with
  | none => rw [q] at e; cases e
  | some o =>
    obtain ⟨oc, od, dt, osl⟩ := o
    rw [q] at c e
    cases dt with
    | func fd =>
      obtain ⟨n1, n2, n3, n4, n5, n6, n7, n8, n9, n10, n11, n12, n13, n14, n15⟩ := fd
      have e2 : (some (n1, n2, n3, n4, n5, n6, n7, n15) : He.FnW) = some (nm, qual, params, .stmts body, scope, mainGlobals, [], builtinsNs) := e
      simp only [Option.some.injEq, Prod.mk.injEq] at e2
      obtain ⟨h1, h2, h3, h4, h5, h6, h7, h8⟩ := e2
      subst h1 h2 h3 h4 h5 h6 h7 h8
      obtain ⟨rfl, rfl, c3⟩ := plain2_ok (show plain2 n8 n9 (codeIn K n13 n2) = true from c)
      exact ⟨oc, od, n10, n11, n12, n13, n14, osl, rfl, c3⟩
    | _ => cases e
def dfnB (K : Frag) (f : Addr) (dvs : List V) : Bool := match K.lookup f with
  | some ⟨_, _, .func fd, _⟩ => He.dflB K fd.defaults dvs && codeIn K fd.code fd.qualname
  | _ => false
theorem fnV_at {K : Frag} {f : Addr} {dvs : List V} {nm qual : Str} {params : Arguments} {body : List Stmt} {scope : Scope} (e : fnA K f = some (nm, qual, params, .stmts body, scope, mainGlobals, [], builtinsNs)) (c : dfnB K f dvs = true) :
    ∃ (oc : Value) (od : Option Addr) (dV kV doc pm : Value) (an : Option Addr) (cdv ct : Value) (osl : Array (Option Value)), K.lookup f = some ⟨oc, od, .func (fnOf nm qual params body scope dV kV doc pm an cdv ct), osl⟩ ∧ DflV K dV dvs ∧ codeIn K cdv qual = true := by
  unfold fnA at e
  unfold dfnB at c
  cases q : K.lookup f with
  | none => rw [q] at e; cases e
  | some o =>
    obtain ⟨oc, od, dt, osl⟩ := o
    rw [q] at c e
    cases dt with
    | func fd =>
      obtain ⟨n1, n2, n3, n4, n5, n6, n7, n8, n9, n10, n11, n12, n13, n14, n15⟩ := fd
      have e2 : (some (n1, n2, n3, n4, n5, n6, n7, n15) : He.FnW) = some (nm, qual, params, .stmts body, scope, mainGlobals, [], builtinsNs) := e
      simp only [Option.some.injEq, Prod.mk.injEq] at e2
      obtain ⟨h1, h2, h3, h4, h5, h6, h7, h8⟩ := e2
      subst h1 h2 h3 h4 h5 h6 h7 h8
      obtain ⟨c1, c2⟩ := He.ba (show (He.dflB K n8 dvs && codeIn K n13 n2) = true from c)
      exact ⟨oc, od, n8, n9, n10, n11, n12, n13, n14, osl, rfl, He.dflB_ok c1, c2⟩
    | _ => cases e
theorem binds_nil {K : Frag} {fd : FuncData} {ps : List Str} (h : ∃ ds, Vals ([] : List V) ds ∧ Binds K fd ps ds) : Binds K fd ps [] := by
  obtain ⟨ds, v, b⟩ := h
  cases v
  exact b
/-- a constant of a class: a whole number -/
def conB (K : Frag) (C : Addr) (f : Str) (n : Int) : Bool := match findIn K (.ref C) f with
  | some (some (.int i t)) => decide (i = n) && decide (specialIn K (.int i t) "__get__" = some none)
  | _ => false
theorem con_ok {K : Frag} {C : Addr} {f : Str} {n : Int} (h : conB K C f n = true) (cp : copiedNames.contains f = false) : ∃ u, Con K C f (.int n) u := by
  unfold conB at h
  split at h
  · rename_i i t e
    obtain ⟨h1, h2⟩ := He.ba h
    have h1 := of_decide_eq_true h1
    subst h1
    exact ⟨_, e, ⟨t, rfl⟩, of_decide_eq_true h2, cp⟩
  · cases h
end
end K82
end

section
set_option maxHeartbeats 0
/-! what the top has left, by names -/
namespace K82
open PySem PySem.Spec PyProof.Rows L2
def meths : List (Str × (Str × Str)) := [("InvalidNumber.__init__", ("InvalidNumber", "__init__")), ("Rate.__init__", ("Rate", "__init__")), ("Rate.__mul__", ("Rate", "__mul__")), ("Rate.__rmul__", ("Rate", "__rmul__")), ("Rate.__eq__", ("Rate", "__eq__")), ("Rate.__str__", ("Rate", "__str__")), ("Rate.__repr__", ("Rate", "__repr__")), ("Rate.read!", ("Rate", "read")), ("Rate.p!", ("Rate", "p")), ("Rate.q!", ("Rate", "q")), ("Rate.size!", ("Rate", "size")), ("Coder.__init__", ("Coder", "__init__")), ("Coder.codes", ("Coder", "codes")), ("Coder.follow", ("Coder", "follow")), ("Coder.__len__", ("Coder", "__len__")), ("Coder.rate!", ("Coder", "rate")), ("Coder.lead!", ("Coder", "lead"))]
def gets : List (Str × (Str × Str × String)) := [("Rate.read", ("Rate", "read", "staticmethod")), ("Rate.p", ("Rate", "p", "property")), ("Rate.q", ("Rate", "q", "property")), ("Rate.size", ("Rate", "size", "property")), ("Coder.rate", ("Coder", "rate", "property")), ("Coder.lead", ("Coder", "lead", "property"))]
def recAt (K : PySem.W.Frag) (p : Addr) (r : String) : Addr := match PySem.W.recIn K p r with
  | some (.ref g :: _) => g
  | _ => 0
def adK (K : PySem.W.Frag) (x : Str) : Addr := match meths.lookup x with
  | some (C, m) => He.ma K (He.ga K C) m
  | none => match gets.lookup x with
    | some (C, m, r) => recAt K (He.ma K (He.ga K C) m) r
    | none => He.ga K x
def recB (K : PySem.W.Frag) (p : Addr) (r : String) (g : Addr) : Bool := match PySem.W.recIn K p r with
  | some (.ref g' :: _) => decide (g' = g)
  | _ => false
theorem rec_ok {K : PySem.W.Frag} {p g : Addr} {r : String} (h : recB K p r g = true) : ∃ rest, PySem.W.recIn K p r = some (.ref g :: rest) := by
  unfold recB at h
  split at h
  · rename_i g' rest e
    rw [← of_decide_eq_true h]
    exact ⟨rest, e⟩
  · cases h
def smB (K : PySem.W.Frag) (C : Addr) (mc : Value) (m : Str) (p : Addr) : Bool := match PySem.W.findCls K (.ref C) mc m with
  | some (.get (.builtin n) (.ref p') .none (.ref C')) => decide (n = "staticmethod.__get__") && (decide (p' = p) && decide (C' = C))
  | _ => false
theorem smB_ok {K : PySem.W.Frag} {C p : Addr} {mc : Value} {m : Str} (h : smB K C mc m p = true) : PySem.W.findCls K (.ref C) mc m = some (.get (.builtin "staticmethod.__get__") (.ref p) .none (.ref C)) := by
  unfold smB at h
  split at h
  · rename_i n p' C' e
    obtain ⟨h1, h⟩ := He.ba h
    obtain ⟨h2, h3⟩ := He.ba h
    rw [e, of_decide_eq_true h1, of_decide_eq_true h2, of_decide_eq_true h3]
  · cases h
def tyB (K : PySem.W.Frag) (C : Addr) : Bool := tyNs.all fun T => decide (PySem.W.kitOne K (.type T) (.ref C) = some false) && (decide (PySem.W.subIn K (.ref C) (.type T) = some false) && decide (PySem.W.subIn K (.type T) (.ref C) = some false))
theorem ty_ok {K : PySem.W.Frag} {C : Addr} (h : tyB K C = true) : ∀ T ∈ tyNs, PySem.W.kitOne K (.type T) (.ref C) = some false ∧ PySem.W.subIn K (.ref C) (.type T) = some false ∧ PySem.W.subIn K (.type T) (.ref C) = some false := by
  intro T hT
  obtain ⟨h1, h⟩ := He.ba (List.all_eq_true.mp h T hT)
  obtain ⟨h2, h3⟩ := He.ba h
  exact ⟨of_decide_eq_true h1, of_decide_eq_true h2, of_decide_eq_true h3⟩
def fdK (K : PySem.W.Frag) (x : Str) : FuncData := match K.lookup (adK K x) with
  | some ⟨_, _, .func f, _⟩ => f
  | _ => PySem.W.fnOf "" "" (defArgs sLaw) (defBody sLaw) (defScope sLaw) .none .none .none .none none .none .none
def addrs0 : List Addr := [
  1,
  2,
  3,
  15,
  17,
  18,
  20,
  21,
  22,
  29,
  30,
  31,
  32,
  35,
  42,
  44,
  45,
  47,
  48,
  49,
  50,
  51,
  54,
  61,
  63,
  64,
  66,
  67,
  68,
  69,
  70,
  73,
  80,
  82,
  83,
  85,
  86,
  87,
  88,
  89,
  92,
  99,
  101,
  102,
  104,
  105,
  106,
  107,
  108,
  111,
  118,
  120,
  121,
  123,
  124,
  125,
  126,
  127,
  130,
  137]
def addrs1 : List Addr := [
  139,
  140,
  142,
  143,
  144,
  145,
  146,
  149,
  156,
  158,
  159,
  161,
  162,
  163,
  164,
  165,
  168,
  175,
  177,
  178,
  180,
  181,
  182,
  183,
  184,
  187,
  194,
  195,
  196,
  197,
  200,
  207,
  209,
  210,
  212,
  213,
  214,
  215,
  216,
  219,
  221,
  222,
  224,
  225,
  226,
  228,
  229,
  231,
  232,
  233,
  236,
  237,
  238,
  240,
  241,
  243,
  244,
  245,
  247,
  248]
def addrs2 : List Addr := [
  250,
  251,
  252,
  254,
  255,
  257,
  258,
  259,
  261,
  262,
  264,
  265,
  266,
  269,
  270,
  271,
  273,
  274,
  276,
  277,
  278,
  279,
  281,
  282,
  284,
  285,
  286,
  288,
  289,
  291,
  292,
  300,
  302,
  303,
  305,
  306,
  307,
  309,
  310,
  312,
  313,
  314,
  315,
  316,
  317,
  319,
  320,
  322,
  323,
  324,
  325,
  327,
  328,
  330,
  331,
  332,
  333,
  335,
  336,
  338]
def addrs3 : List Addr := [
  339,
  340,
  341,
  343,
  344,
  346,
  347,
  348,
  350,
  351,
  353,
  354,
  355,
  357,
  358,
  360,
  361,
  362,
  364,
  365,
  367,
  368,
  369,
  371,
  372,
  374,
  375,
  376,
  377,
  378,
  379,
  380,
  383,
  385,
  386,
  388,
  389,
  390,
  392,
  393,
  395,
  396,
  397,
  399,
  400,
  402,
  403,
  404,
  406,
  407,
  409,
  410,
  418,
  419,
  421,
  422,
  424,
  425,
  426,
  428]
def addrs4 : List Addr := [
  429,
  431,
  432,
  433,
  434,
  436,
  437,
  439,
  440,
  441,
  442,
  445,
  446,
  447,
  448,
  450,
  451,
  453,
  454,
  455,
  456,
  458,
  459,
  461,
  462,
  463,
  465,
  466,
  468,
  469,
  470,
  472,
  473,
  475,
  476,
  477,
  479,
  480,
  482,
  483,
  484,
  486,
  487,
  489,
  490,
  491,
  493,
  494,
  496,
  497,
  498,
  500,
  501,
  503,
  504,
  505,
  507,
  508,
  510,
  511]
def addrs5 : List Addr := [
  512,
  514,
  515,
  517,
  518,
  519,
  520,
  521,
  522,
  523,
  526,
  529,
  530,
  531,
  533,
  534,
  536,
  537,
  538,
  541,
  542,
  543,
  545,
  546,
  548,
  549,
  550,
  552,
  553,
  555,
  556,
  557,
  559,
  560,
  562,
  563,
  564,
  566,
  567,
  569,
  570,
  571,
  573,
  574,
  576,
  577,
  578,
  580,
  581,
  583,
  584,
  585,
  588,
  589,
  590,
  592,
  593,
  595,
  596,
  597]
def addrs6 : List Addr := [
  599,
  600,
  602,
  603,
  604,
  606,
  607,
  609,
  610,
  611,
  613,
  614,
  616,
  617,
  618,
  621,
  622,
  623,
  626,
  627,
  628,
  630,
  631,
  633,
  634,
  635,
  638,
  639,
  640,
  643,
  644,
  645,
  648,
  649,
  650,
  652,
  653,
  655,
  656,
  657,
  659,
  660,
  662,
  663,
  664,
  666,
  667,
  669,
  670,
  671,
  674,
  675]
def addrs : List Addr := addrs0 ++ (addrs1 ++ (addrs2 ++ (addrs3 ++ (addrs4 ++ (addrs5 ++ (addrs6))))))
def facts0 : List (PySem.W.Frag → Bool) := [
  fun K => He.eqO (PySem.W.nsIn K mainGlobals "isinstance") (some none),
  fun K => He.eqO (PySem.W.nsIn K mainGlobals "int") (some none),
  fun K => He.eqO (PySem.W.nsIn K mainGlobals "bool") (some none),
  fun K => He.eqO (PySem.W.nsIn K mainGlobals "str") (some none),
  fun K => He.eqO (PySem.W.nsIn K mainGlobals "all") (some none),
  fun K => He.eqO (PySem.W.nsIn K mainGlobals "any") (some none),
  fun K => He.eqO (PySem.W.nsIn K mainGlobals "len") (some none),
  fun K => He.eqO (PySem.W.nsIn K mainGlobals "abs") (some none),
  fun K => He.eqO (PySem.W.nsIn K mainGlobals "max") (some none),
  fun K => He.eqO (PySem.W.nsIn K mainGlobals "min") (some none),
  fun K => He.eqO (PySem.W.nsIn K mainGlobals "divmod") (some none),
  fun K => He.eqO (PySem.W.nsIn K mainGlobals "range") (some none),
  fun K => He.eqO (PySem.W.nsIn K mainGlobals "repr") (some none),
  fun K => He.eqO (PySem.W.nsIn K mainGlobals "dict") (some none),
  fun K => He.eqO (PySem.W.nsIn K mainGlobals "list") (some none),
  fun K => He.eqO (PySem.W.nsIn K mainGlobals "tuple") (some none),
  fun K => He.eqO (PySem.W.nsIn K mainGlobals "enumerate") (some none),
  fun K => He.eqO (PySem.W.nsIn K mainGlobals "sum") (some none),
  fun K => He.eqO (PySem.W.nsIn K mainGlobals "ValueError") (some none),
  fun K => He.eqO (PySem.W.nsIn K mainGlobals "ArithmeticError") (some none),
  fun K => match K.lookup sysModules with | some o => decide (o.cls ≠ .type "list") | none => false,
  fun K => He.Fa.ok K (.int "MOST_IN_RATE" 6),
  fun K => He.Fa.ok K (.str "DIGITS" "123456"),
  fun K => He.Fa.ok K (.str "ALL_SIGNS" "abcd"),
  fun K => He.Fa.ok K (.int "MOST_IN_ROW" 2000),
  fun K => He.Fa.ok K (.int "MOST_IN_TEXT" 200),
  fun K => He.Fa.ok K (.int "MOST_FOLLOWED" 64),
  fun K => plainB K (adK K "is_integer"),
  fun K => PySem.W.keepIn K (.ref (adK K "is_integer")),
  fun K => He.eqO (PySem.W.nsIn K mainGlobals "is_integer") (some (some (.ref (adK K "is_integer"))))]
def facts1 : List (PySem.W.Frag → Bool) := [
  fun K => plainB K (adK K "is_between"),
  fun K => PySem.W.keepIn K (.ref (adK K "is_between")),
  fun K => He.eqO (PySem.W.nsIn K mainGlobals "is_between") (some (some (.ref (adK K "is_between")))),
  fun K => plainB K (adK K "is_row"),
  fun K => PySem.W.keepIn K (.ref (adK K "is_row")),
  fun K => He.eqO (PySem.W.nsIn K mainGlobals "is_row") (some (some (.ref (adK K "is_row")))),
  fun K => plainB K (adK K "is_list"),
  fun K => PySem.W.keepIn K (.ref (adK K "is_list")),
  fun K => He.eqO (PySem.W.nsIn K mainGlobals "is_list") (some (some (.ref (adK K "is_list")))),
  fun K => plainB K (adK K "is_short_row"),
  fun K => PySem.W.keepIn K (.ref (adK K "is_short_row")),
  fun K => He.eqO (PySem.W.nsIn K mainGlobals "is_short_row") (some (some (.ref (adK K "is_short_row")))),
  fun K => plainB K (adK K "check_row"),
  fun K => PySem.W.keepIn K (.ref (adK K "check_row")),
  fun K => He.eqO (PySem.W.nsIn K mainGlobals "check_row") (some (some (.ref (adK K "check_row")))),
  fun K => plainB K (adK K "check_state"),
  fun K => PySem.W.keepIn K (.ref (adK K "check_state")),
  fun K => He.eqO (PySem.W.nsIn K mainGlobals "check_state") (some (some (.ref (adK K "check_state")))),
  fun K => plainB K (adK K "is_text"),
  fun K => PySem.W.keepIn K (.ref (adK K "is_text")),
  fun K => He.eqO (PySem.W.nsIn K mainGlobals "is_text") (some (some (.ref (adK K "is_text")))),
  fun K => plainB K (adK K "check_word"),
  fun K => PySem.W.keepIn K (.ref (adK K "check_word")),
  fun K => He.eqO (PySem.W.nsIn K mainGlobals "check_word") (some (some (.ref (adK K "check_word")))),
  fun K => dfnB K (adK K "check_text") [.int 0, .int 200],
  fun K => PySem.W.keepIn K (.ref (adK K "check_text")),
  fun K => He.eqO (PySem.W.nsIn K mainGlobals "check_text") (some (some (.ref (adK K "check_text")))),
  fun K => plainB K (adK K "is_block"),
  fun K => PySem.W.keepIn K (.ref (adK K "is_block")),
  fun K => He.eqO (PySem.W.nsIn K mainGlobals "is_block") (some (some (.ref (adK K "is_block"))))]
def facts2 : List (PySem.W.Frag → Bool) := [
  fun K => plainB K (adK K "is_rate"),
  fun K => PySem.W.keepIn K (.ref (adK K "is_rate")),
  fun K => He.eqO (PySem.W.nsIn K mainGlobals "is_rate") (some (some (.ref (adK K "is_rate")))),
  fun K => plainB K (adK K "multiple"),
  fun K => PySem.W.keepIn K (.ref (adK K "multiple")),
  fun K => He.eqO (PySem.W.nsIn K mainGlobals "multiple") (some (some (.ref (adK K "multiple")))),
  fun K => plainB K (adK K "check_times"),
  fun K => PySem.W.keepIn K (.ref (adK K "check_times")),
  fun K => He.eqO (PySem.W.nsIn K mainGlobals "check_times") (some (some (.ref (adK K "check_times")))),
  fun K => plainB K (adK K "check_rate"),
  fun K => PySem.W.keepIn K (.ref (adK K "check_rate")),
  fun K => He.eqO (PySem.W.nsIn K mainGlobals "check_rate") (some (some (.ref (adK K "check_rate")))),
  fun K => plainB K (adK K "kept_codes"),
  fun K => PySem.W.keepIn K (.ref (adK K "kept_codes")),
  fun K => He.eqO (PySem.W.nsIn K mainGlobals "kept_codes") (some (some (.ref (adK K "kept_codes")))),
  fun K => plainB K (adK K "is_entry"),
  fun K => PySem.W.keepIn K (.ref (adK K "is_entry")),
  fun K => He.eqO (PySem.W.nsIn K mainGlobals "is_entry") (some (some (.ref (adK K "is_entry")))),
  fun K => plainB K (adK K "check_codes"),
  fun K => PySem.W.keepIn K (.ref (adK K "check_codes")),
  fun K => He.eqO (PySem.W.nsIn K mainGlobals "check_codes") (some (some (.ref (adK K "check_codes")))),
  fun K => plainB K (adK K "check_coder"),
  fun K => PySem.W.keepIn K (.ref (adK K "check_coder")),
  fun K => He.eqO (PySem.W.nsIn K mainGlobals "check_coder") (some (some (.ref (adK K "check_coder")))),
  fun K => plainB K (adK K "check_states"),
  fun K => PySem.W.keepIn K (.ref (adK K "check_states")),
  fun K => He.eqO (PySem.W.nsIn K mainGlobals "check_states") (some (some (.ref (adK K "check_states")))),
  fun K => plainB K (adK K "groups_of"),
  fun K => PySem.W.keepIn K (.ref (adK K "groups_of")),
  fun K => He.eqO (PySem.W.nsIn K mainGlobals "groups_of") (some (some (.ref (adK K "groups_of"))))]
def facts3 : List (PySem.W.Frag → Bool) := [
  fun K => plainB K (adK K "twin_steps"),
  fun K => PySem.W.keepIn K (.ref (adK K "twin_steps")),
  fun K => He.eqO (PySem.W.nsIn K mainGlobals "twin_steps") (some (some (.ref (adK K "twin_steps")))),
  fun K => plainB K (adK K "word_pair"),
  fun K => PySem.W.keepIn K (.ref (adK K "word_pair")),
  fun K => He.eqO (PySem.W.nsIn K mainGlobals "word_pair") (some (some (.ref (adK K "word_pair")))),
  fun K => plainB K (adK K "clash"),
  fun K => PySem.W.keepIn K (.ref (adK K "clash")),
  fun K => He.eqO (PySem.W.nsIn K mainGlobals "clash") (some (some (.ref (adK K "clash")))),
  fun K => plainB K (adK K "is_clash"),
  fun K => PySem.W.keepIn K (.ref (adK K "is_clash")),
  fun K => He.eqO (PySem.W.nsIn K mainGlobals "is_clash") (some (some (.ref (adK K "is_clash")))),
  fun K => plainB K (adK K "texts_to"),
  fun K => PySem.W.keepIn K (.ref (adK K "texts_to")),
  fun K => He.eqO (PySem.W.nsIn K mainGlobals "texts_to") (some (some (.ref (adK K "texts_to")))),
  fun K => plainB K (adK K "_law_pot"),
  fun K => PySem.W.keepIn K (.ref (adK K "_law_pot")),
  fun K => He.eqO (PySem.W.nsIn K mainGlobals "_law_pot") (some (some (.ref (adK K "_law_pot")))),
  fun K => plainB K (adK K "_law_draw"),
  fun K => PySem.W.keepIn K (.ref (adK K "_law_draw")),
  fun K => He.eqO (PySem.W.nsIn K mainGlobals "_law_draw") (some (some (.ref (adK K "_law_draw")))),
  fun K => plainB K (adK K "_law_pick"),
  fun K => PySem.W.keepIn K (.ref (adK K "_law_pick")),
  fun K => He.eqO (PySem.W.nsIn K mainGlobals "_law_pick") (some (some (.ref (adK K "_law_pick")))),
  fun K => plainB K (adK K "_law_codes"),
  fun K => PySem.W.keepIn K (.ref (adK K "_law_codes")),
  fun K => He.eqO (PySem.W.nsIn K mainGlobals "_law_codes") (some (some (.ref (adK K "_law_codes")))),
  fun K => plainB K (adK K "_law_kept"),
  fun K => PySem.W.keepIn K (.ref (adK K "_law_kept")),
  fun K => He.eqO (PySem.W.nsIn K mainGlobals "_law_kept") (some (some (.ref (adK K "_law_kept"))))]
def facts4 : List (PySem.W.Frag → Bool) := [
  fun K => plainB K (adK K "_law_run"),
  fun K => PySem.W.keepIn K (.ref (adK K "_law_run")),
  fun K => He.eqO (PySem.W.nsIn K mainGlobals "_law_run") (some (some (.ref (adK K "_law_run")))),
  fun K => plainB K (adK K "_law_is_text"),
  fun K => PySem.W.keepIn K (.ref (adK K "_law_is_text")),
  fun K => He.eqO (PySem.W.nsIn K mainGlobals "_law_is_text") (some (some (.ref (adK K "_law_is_text")))),
  fun K => plainB K (adK K "_law_judged"),
  fun K => PySem.W.keepIn K (.ref (adK K "_law_judged")),
  fun K => He.eqO (PySem.W.nsIn K mainGlobals "_law_judged") (some (some (.ref (adK K "_law_judged")))),
  fun K => plainB K (adK K "_law_text"),
  fun K => PySem.W.keepIn K (.ref (adK K "_law_text")),
  fun K => He.eqO (PySem.W.nsIn K mainGlobals "_law_text") (some (some (.ref (adK K "_law_text")))),
  fun K => plainB K (adK K "_law_odd"),
  fun K => PySem.W.keepIn K (.ref (adK K "_law_odd")),
  fun K => He.eqO (PySem.W.nsIn K mainGlobals "_law_odd") (some (some (.ref (adK K "_law_odd")))),
  fun K => plainB K (adK K "_law_near"),
  fun K => PySem.W.keepIn K (.ref (adK K "_law_near")),
  fun K => He.eqO (PySem.W.nsIn K mainGlobals "_law_near") (some (some (.ref (adK K "_law_near")))),
  fun K => plainB K (adK K "_law_right"),
  fun K => PySem.W.keepIn K (.ref (adK K "_law_right")),
  fun K => He.eqO (PySem.W.nsIn K mainGlobals "_law_right") (some (some (.ref (adK K "_law_right")))),
  fun K => plainB K (adK K "law"),
  fun K => PySem.W.keepIn K (.ref (adK K "law")),
  fun K => He.eqO (PySem.W.nsIn K mainGlobals "law") (some (some (.ref (adK K "law")))),
  fun K => He.eqO (PySem.W.nsIn K mainGlobals "Rate") (some (some (.ref (adK K "Rate")))),
  fun K => PySem.W.plainGet K (adK K "Rate") Str.empty,
  fun K => PySem.W.hasDictIn K (adK K "Rate"),
  fun K => PySem.W.plainOver K (adK K "Rate"),
  fun K => decide (PySem.W.findIn K (.ref (adK K "Rate")) "__setattr__" = some (some (.builtin "object.__setattr__"))),
  fun K => PySem.W.makesIn K (adK K "Rate")]
def facts5 : List (PySem.W.Frag → Bool) := [
  fun K => decide (PySem.W.findIn K (.ref (adK K "Rate")) "__init__" = some (some (.ref (adK K "Rate.__init__")))),
  fun K => PySem.W.isFn K (.ref (adK K "Rate.__init__")),
  fun K => PySem.W.keepIn K (.ref (adK K "Rate")),
  fun K => He.eqO (PySem.W.findIn K (.ref (adK K "Rate")) "_p") (some none),
  fun K => He.eqO (PySem.W.findIn K (.ref (adK K "Rate")) "_q") (some none),
  fun K => PySem.W.selfFirst K (adK K "Rate"),
  fun K => decide (PySem.W.findIn K (.ref (adK K "Rate")) "__mul__" = some (some (.ref (adK K "Rate.__mul__")))),
  fun K => PySem.W.isFn K (.ref (adK K "Rate.__mul__")),
  fun K => decide (PySem.W.findIn K (.ref (adK K "Rate")) "__rmul__" = some (some (.ref (adK K "Rate.__rmul__")))),
  fun K => PySem.W.isFn K (.ref (adK K "Rate.__rmul__")),
  fun K => decide (PySem.W.findIn K (.ref (adK K "Rate")) "__imul__" = some none),
  fun K => decide (PySem.W.subIn K (.ref (adK K "Rate")) (.type "int") = some false),
  fun K => (PySem.W.clsIn K (adK K "Rate")).any (fun cd => cd.mro == [.ref (adK K "Rate"), .type "object"]),
  fun K => decide (PySem.W.mroIn K (adK K "Rate") (.type "object") = some true),
  fun K => decide (PySem.W.findIn K (.ref (adK K "Rate")) "__class__" = some (some (.builtin "object.__class__"))),
  fun K => decide (PySem.W.specialIn K (.builtin "object.__class__") "__get__" = some (some (.builtin "getset_descriptor.__get__"))),
  fun K => decide (PySem.W.takesIn K (.builtin "object.__class__") = some true),
  fun K => decide (PySem.W.findIn K (.ref (adK K "Rate")) "__ne__" = some (some (.builtin "object.__ne__"))),
  fun K => decide (PySem.W.findIn K (.ref (adK K "Rate")) "__eq__" = some (some (.ref (adK K "Rate.__eq__")))),
  fun K => PySem.W.isFn K (.ref (adK K "Rate.__eq__")),
  fun K => decide (PySem.W.findIn K (.ref (adK K "Rate")) "__str__" = some (some (.ref (adK K "Rate.__str__")))),
  fun K => PySem.W.isFn K (.ref (adK K "Rate.__str__")),
  fun K => decide (PySem.W.findIn K (.ref (adK K "Rate")) "__repr__" = some (some (.ref (adK K "Rate.__repr__")))),
  fun K => PySem.W.isFn K (.ref (adK K "Rate.__repr__")),
  fun K => PySem.W.readsIn K (adK K "Rate") (.type "type"),
  fun K => decide (PySem.W.specialIn K (.ref (adK K "Rate")) "__getattribute__" = some (some (.builtin "type.__getattribute__"))),
  fun K => smB K (adK K "Rate") (.type "type") "read" (adK K "Rate.read!"),
  fun K => recB K (adK K "Rate.read!") "staticmethod" (adK K "Rate.read"),
  fun K => PySem.W.isClsIn K (adK K "Rate"),
  fun K => decide (PySem.W.findIn K (.ref (adK K "Rate")) "read" = some (some (.ref (adK K "Rate.read!"))))]
def facts6 : List (PySem.W.Frag → Bool) := [
  fun K => decide (PySem.W.typeIn K (.ref (adK K "Rate.read!")) = some (.type "staticmethod")),
  fun K => decide (PySem.W.specialIn K (.ref (adK K "Rate.read!")) "__get__" = some (some (.builtin "staticmethod.__get__"))),
  fun K => decide (PySem.W.takesIn K (.ref (adK K "Rate.read!")) = some false),
  fun K => PySem.W.keepIn K (.ref (adK K "Rate.read")),
  fun K => decide (PySem.W.findIn K (.ref (adK K "Rate")) "p" = some (some (.ref (adK K "Rate.p!")))),
  fun K => decide (PySem.W.specialIn K (.ref (adK K "Rate.p!")) "__get__" = some (some (.builtin "property.__get__"))),
  fun K => decide (PySem.W.takesIn K (.ref (adK K "Rate.p!")) = some true),
  fun K => recB K (adK K "Rate.p!") "property" (adK K "Rate.p"),
  fun K => decide (PySem.W.findIn K (.ref (adK K "Rate")) "q" = some (some (.ref (adK K "Rate.q!")))),
  fun K => decide (PySem.W.specialIn K (.ref (adK K "Rate.q!")) "__get__" = some (some (.builtin "property.__get__"))),
  fun K => decide (PySem.W.takesIn K (.ref (adK K "Rate.q!")) = some true),
  fun K => recB K (adK K "Rate.q!") "property" (adK K "Rate.q"),
  fun K => decide (PySem.W.findIn K (.ref (adK K "Rate")) "size" = some (some (.ref (adK K "Rate.size!")))),
  fun K => decide (PySem.W.specialIn K (.ref (adK K "Rate.size!")) "__get__" = some (some (.builtin "property.__get__"))),
  fun K => decide (PySem.W.takesIn K (.ref (adK K "Rate.size!")) = some true),
  fun K => recB K (adK K "Rate.size!") "property" (adK K "Rate.size"),
  fun K => tyB K (adK K "Rate"),
  fun K => plainB K (adK K "Rate.__init__"),
  fun K => PySem.W.keepIn K (.ref (adK K "Rate.__init__")),
  fun K => plainB K (adK K "Rate.read"),
  fun K => PySem.W.keepIn K (.ref (adK K "Rate.read")),
  fun K => plainB K (adK K "Rate.p"),
  fun K => PySem.W.keepIn K (.ref (adK K "Rate.p")),
  fun K => plainB K (adK K "Rate.q"),
  fun K => PySem.W.keepIn K (.ref (adK K "Rate.q")),
  fun K => plainB K (adK K "Rate.size"),
  fun K => PySem.W.keepIn K (.ref (adK K "Rate.size")),
  fun K => plainB K (adK K "Rate.__mul__"),
  fun K => PySem.W.keepIn K (.ref (adK K "Rate.__mul__")),
  fun K => plainB K (adK K "Rate.__rmul__")]
def facts7 : List (PySem.W.Frag → Bool) := [
  fun K => PySem.W.keepIn K (.ref (adK K "Rate.__rmul__")),
  fun K => plainB K (adK K "Rate.__eq__"),
  fun K => PySem.W.keepIn K (.ref (adK K "Rate.__eq__")),
  fun K => plainB K (adK K "Rate.__str__"),
  fun K => PySem.W.keepIn K (.ref (adK K "Rate.__str__")),
  fun K => plainB K (adK K "Rate.__repr__"),
  fun K => PySem.W.keepIn K (.ref (adK K "Rate.__repr__")),
  fun K => dfnB K (adK K "Coder.__init__") [.str ""],
  fun K => PySem.W.keepIn K (.ref (adK K "Coder.__init__")),
  fun K => He.eqO (PySem.W.nsIn K mainGlobals "Coder") (some (some (.ref (adK K "Coder")))),
  fun K => PySem.W.plainGet K (adK K "Coder") Str.empty,
  fun K => PySem.W.hasDictIn K (adK K "Coder"),
  fun K => PySem.W.plainOver K (adK K "Coder"),
  fun K => decide (PySem.W.findIn K (.ref (adK K "Coder")) "__setattr__" = some (some (.builtin "object.__setattr__"))),
  fun K => PySem.W.makesIn K (adK K "Coder"),
  fun K => decide (PySem.W.findIn K (.ref (adK K "Coder")) "__init__" = some (some (.ref (adK K "Coder.__init__")))),
  fun K => PySem.W.isFn K (.ref (adK K "Coder.__init__")),
  fun K => PySem.W.keepIn K (.ref (adK K "Coder")),
  fun K => He.eqO (PySem.W.findIn K (.ref (adK K "Coder")) "_rate") (some none),
  fun K => He.eqO (PySem.W.findIn K (.ref (adK K "Coder")) "_lead") (some none),
  fun K => He.eqO (PySem.W.findIn K (.ref (adK K "Coder")) "_codes") (some none),
  fun K => conB K (adK K "Coder") "MOST_ENTRIES" 2000,
  fun K => plainB K (adK K "Coder.rate"),
  fun K => PySem.W.keepIn K (.ref (adK K "Coder.rate")),
  fun K => plainB K (adK K "Coder.lead"),
  fun K => PySem.W.keepIn K (.ref (adK K "Coder.lead")),
  fun K => plainB K (adK K "Coder.codes"),
  fun K => PySem.W.keepIn K (.ref (adK K "Coder.codes")),
  fun K => plainB K (adK K "Coder.follow"),
  fun K => PySem.W.keepIn K (.ref (adK K "Coder.follow"))]
def facts8 : List (PySem.W.Frag → Bool) := [
  fun K => plainB K (adK K "Coder.__len__"),
  fun K => PySem.W.keepIn K (.ref (adK K "Coder.__len__")),
  fun K => decide (PySem.W.findIn K (.ref (adK K "Coder")) "__class__" = some (some (.builtin "object.__class__"))),
  fun K => decide (PySem.W.mroIn K (adK K "Coder") (.type "object") = some true),
  fun K => decide (PySem.W.findIn K (.ref (adK K "Coder")) "follow" = some (some (.ref (adK K "Coder.follow")))),
  fun K => PySem.W.isFn K (.ref (adK K "Coder.follow")),
  fun K => PySem.W.keepIn K (.ref (adK K "Coder.follow")),
  fun K => decide (PySem.W.findIn K (.ref (adK K "Coder")) "__len__" = some (some (.ref (adK K "Coder.__len__")))),
  fun K => PySem.W.isFn K (.ref (adK K "Coder.__len__")),
  fun K => decide (PySem.W.findIn K (.ref (adK K "Coder")) "rate" = some (some (.ref (adK K "Coder.rate!")))),
  fun K => decide (PySem.W.specialIn K (.ref (adK K "Coder.rate!")) "__get__" = some (some (.builtin "property.__get__"))),
  fun K => decide (PySem.W.takesIn K (.ref (adK K "Coder.rate!")) = some true),
  fun K => recB K (adK K "Coder.rate!") "property" (adK K "Coder.rate"),
  fun K => decide (PySem.W.findIn K (.ref (adK K "Coder")) "lead" = some (some (.ref (adK K "Coder.lead!")))),
  fun K => decide (PySem.W.specialIn K (.ref (adK K "Coder.lead!")) "__get__" = some (some (.builtin "property.__get__"))),
  fun K => decide (PySem.W.takesIn K (.ref (adK K "Coder.lead!")) = some true),
  fun K => recB K (adK K "Coder.lead!") "property" (adK K "Coder.lead"),
  fun K => decide (PySem.W.findIn K (.ref (adK K "Coder")) "codes" = some (some (.ref (adK K "Coder.codes")))),
  fun K => PySem.W.isFn K (.ref (adK K "Coder.codes")),
  fun K => PySem.W.keepIn K (.ref (adK K "Coder.codes")),
  fun K => xbAll K (adK K "InvalidNumber") [.type "ValueError", .type "Exception", .type "BaseException", .type "object"] "ValueError.__new__",
  fun K => xiB K (adK K "InvalidNumber") (adK K "InvalidNumber.__init__"),
  fun K => plainB K (adK K "InvalidNumber.__init__"),
  fun K => He.eqO (PySem.W.findIn K (.ref (adK K "InvalidNumber")) "value") (some none),
  fun K => He.eqO (PySem.W.nsIn K mainGlobals "InvalidNumber") (some (some (.ref (adK K "InvalidNumber"))))]
def facts : List (PySem.W.Frag → Bool) := facts0 ++ (facts1 ++ (facts2 ++ (facts3 ++ (facts4 ++ (facts5 ++ (facts6 ++ (facts7 ++ (facts8))))))))
def fnd0 : List (Str × (Str × Str × Arguments × FuncBody × Scope × Addr × List (Str × Addr) × Addr)) := [
  ("is_integer", ("is_integer", "is_integer", defArgs sIsInteger, .stmts (defBody sIsInteger), defScope sIsInteger, mainGlobals, [], builtinsNs)),
  ("is_between", ("is_between", "is_between", defArgs sIsBetween, .stmts (defBody sIsBetween), defScope sIsBetween, mainGlobals, [], builtinsNs)),
  ("is_row", ("is_row", "is_row", defArgs sIsRow, .stmts (defBody sIsRow), defScope sIsRow, mainGlobals, [], builtinsNs)),
  ("is_list", ("is_list", "is_list", defArgs sIsList, .stmts (defBody sIsList), defScope sIsList, mainGlobals, [], builtinsNs)),
  ("is_short_row", ("is_short_row", "is_short_row", defArgs sIsShortRow, .stmts (defBody sIsShortRow), defScope sIsShortRow, mainGlobals, [], builtinsNs)),
  ("check_row", ("check_row", "check_row", defArgs sCheckRow, .stmts (defBody sCheckRow), defScope sCheckRow, mainGlobals, [], builtinsNs)),
  ("check_state", ("check_state", "check_state", defArgs sCheckState, .stmts (defBody sCheckState), defScope sCheckState, mainGlobals, [], builtinsNs)),
  ("is_text", ("is_text", "is_text", defArgs sIsText, .stmts (defBody sIsText), defScope sIsText, mainGlobals, [], builtinsNs)),
  ("check_word", ("check_word", "check_word", defArgs sCheckWord, .stmts (defBody sCheckWord), defScope sCheckWord, mainGlobals, [], builtinsNs)),
  ("check_text", ("check_text", "check_text", defArgs sCheckText, .stmts (defBody sCheckText), defScope sCheckText, mainGlobals, [], builtinsNs)),
  ("is_block", ("is_block", "is_block", defArgs sIsBlock, .stmts (defBody sIsBlock), defScope sIsBlock, mainGlobals, [], builtinsNs)),
  ("is_rate", ("is_rate", "is_rate", defArgs sIsRate, .stmts (defBody sIsRate), defScope sIsRate, mainGlobals, [], builtinsNs)),
  ("multiple", ("multiple", "multiple", defArgs sMultiple, .stmts (defBody sMultiple), defScope sMultiple, mainGlobals, [], builtinsNs)),
  ("check_times", ("check_times", "check_times", defArgs sCheckTimes, .stmts (defBody sCheckTimes), defScope sCheckTimes, mainGlobals, [], builtinsNs)),
  ("check_rate", ("check_rate", "check_rate", defArgs sCheckRate, .stmts (defBody sCheckRate), defScope sCheckRate, mainGlobals, [], builtinsNs)),
  ("kept_codes", ("kept_codes", "kept_codes", defArgs sKeptCodes, .stmts (defBody sKeptCodes), defScope sKeptCodes, mainGlobals, [], builtinsNs)),
  ("is_entry", ("is_entry", "is_entry", defArgs sIsEntry, .stmts (defBody sIsEntry), defScope sIsEntry, mainGlobals, [], builtinsNs)),
  ("check_codes", ("check_codes", "check_codes", defArgs sCheckCodes, .stmts (defBody sCheckCodes), defScope sCheckCodes, mainGlobals, [], builtinsNs)),
  ("check_coder", ("check_coder", "check_coder", defArgs sCheckCoder, .stmts (defBody sCheckCoder), defScope sCheckCoder, mainGlobals, [], builtinsNs)),
  ("check_states", ("check_states", "check_states", defArgs sCheckStates, .stmts (defBody sCheckStates), defScope sCheckStates, mainGlobals, [], builtinsNs)),
  ("groups_of", ("groups_of", "groups_of", defArgs sGroupsOf, .stmts (defBody sGroupsOf), defScope sGroupsOf, mainGlobals, [], builtinsNs)),
  ("twin_steps", ("twin_steps", "twin_steps", defArgs sTwinSteps, .stmts (defBody sTwinSteps), defScope sTwinSteps, mainGlobals, [], builtinsNs)),
  ("word_pair", ("word_pair", "word_pair", defArgs sWordPair, .stmts (defBody sWordPair), defScope sWordPair, mainGlobals, [], builtinsNs)),
  ("clash", ("clash", "clash", defArgs sClash, .stmts (defBody sClash), defScope sClash, mainGlobals, [], builtinsNs)),
  ("is_clash", ("is_clash", "is_clash", defArgs sIsClash, .stmts (defBody sIsClash), defScope sIsClash, mainGlobals, [], builtinsNs)),
  ("texts_to", ("texts_to", "texts_to", defArgs sTextsTo, .stmts (defBody sTextsTo), defScope sTextsTo, mainGlobals, [], builtinsNs)),
  ("_law_pot", ("_law_pot", "_law_pot", defArgs sPot, .stmts (defBody sPot), defScope sPot, mainGlobals, [], builtinsNs)),
  ("_law_draw", ("_law_draw", "_law_draw", defArgs sDraw, .stmts (defBody sDraw), defScope sDraw, mainGlobals, [], builtinsNs)),
  ("_law_pick", ("_law_pick", "_law_pick", defArgs sPick, .stmts (defBody sPick), defScope sPick, mainGlobals, [], builtinsNs)),
  ("_law_codes", ("_law_codes", "_law_codes", defArgs sCodes, .stmts (defBody sCodes), defScope sCodes, mainGlobals, [], builtinsNs))]
def fnd1 : List (Str × (Str × Str × Arguments × FuncBody × Scope × Addr × List (Str × Addr) × Addr)) := [
  ("_law_kept", ("_law_kept", "_law_kept", defArgs sKept, .stmts (defBody sKept), defScope sKept, mainGlobals, [], builtinsNs)),
  ("_law_run", ("_law_run", "_law_run", defArgs sRun, .stmts (defBody sRun), defScope sRun, mainGlobals, [], builtinsNs)),
  ("_law_is_text", ("_law_is_text", "_law_is_text", defArgs sLawIsText, .stmts (defBody sLawIsText), defScope sLawIsText, mainGlobals, [], builtinsNs)),
  ("_law_judged", ("_law_judged", "_law_judged", defArgs sJudged, .stmts (defBody sJudged), defScope sJudged, mainGlobals, [], builtinsNs)),
  ("_law_text", ("_law_text", "_law_text", defArgs sText, .stmts (defBody sText), defScope sText, mainGlobals, [], builtinsNs)),
  ("_law_odd", ("_law_odd", "_law_odd", defArgs sOdd, .stmts (defBody sOdd), defScope sOdd, mainGlobals, [], builtinsNs)),
  ("_law_near", ("_law_near", "_law_near", defArgs sNear, .stmts (defBody sNear), defScope sNear, mainGlobals, [], builtinsNs)),
  ("_law_right", ("_law_right", "_law_right", defArgs sRight, .stmts (defBody sRight), defScope sRight, mainGlobals, [], builtinsNs)),
  ("law", ("law", "law", defArgs sLaw, .stmts (defBody sLaw), defScope sLaw, mainGlobals, [], builtinsNs)),
  ("Rate.__init__", ("__init__", "Rate.__init__", defArgs sR_init, .stmts (defBody sR_init), defScope sR_init, mainGlobals, [], builtinsNs)),
  ("Rate.read", ("read", "Rate.read", defArgs sR_read, .stmts (defBody sR_read), defScope sR_read, mainGlobals, [], builtinsNs)),
  ("Rate.p", ("p", "Rate.p", defArgs sR_p, .stmts (defBody sR_p), defScope sR_p, mainGlobals, [], builtinsNs)),
  ("Rate.q", ("q", "Rate.q", defArgs sR_q, .stmts (defBody sR_q), defScope sR_q, mainGlobals, [], builtinsNs)),
  ("Rate.size", ("size", "Rate.size", defArgs sR_size, .stmts (defBody sR_size), defScope sR_size, mainGlobals, [], builtinsNs)),
  ("Rate.__mul__", ("__mul__", "Rate.__mul__", defArgs sR_mul, .stmts (defBody sR_mul), defScope sR_mul, mainGlobals, [], builtinsNs)),
  ("Rate.__rmul__", ("__rmul__", "Rate.__rmul__", defArgs sR_rmul, .stmts (defBody sR_rmul), defScope sR_rmul, mainGlobals, [], builtinsNs)),
  ("Rate.__eq__", ("__eq__", "Rate.__eq__", defArgs sR_eq, .stmts (defBody sR_eq), defScope sR_eq, mainGlobals, [], builtinsNs)),
  ("Rate.__str__", ("__str__", "Rate.__str__", defArgs sR_str, .stmts (defBody sR_str), defScope sR_str, mainGlobals, [], builtinsNs)),
  ("Rate.__repr__", ("__repr__", "Rate.__repr__", defArgs sR_repr, .stmts (defBody sR_repr), defScope sR_repr, mainGlobals, [], builtinsNs)),
  ("Coder.__init__", ("__init__", "Coder.__init__", defArgs sC_init, .stmts (defBody sC_init), defScope sC_init, mainGlobals, [], builtinsNs)),
  ("Coder.rate", ("rate", "Coder.rate", defArgs sC_rate, .stmts (defBody sC_rate), defScope sC_rate, mainGlobals, [], builtinsNs)),
  ("Coder.lead", ("lead", "Coder.lead", defArgs sC_lead, .stmts (defBody sC_lead), defScope sC_lead, mainGlobals, [], builtinsNs)),
  ("Coder.codes", ("codes", "Coder.codes", defArgs sC_codes, .stmts (defBody sC_codes), defScope sC_codes, mainGlobals, [], builtinsNs)),
  ("Coder.follow", ("follow", "Coder.follow", defArgs sC_follow, .stmts (defBody sC_follow), defScope sC_follow, mainGlobals, [], builtinsNs)),
  ("Coder.__len__", ("__len__", "Coder.__len__", defArgs sC_len, .stmts (defBody sC_len), defScope sC_len, mainGlobals, [], builtinsNs)),
  ("InvalidNumber.__init__", ("__init__", "InvalidNumber.__init__", defArgs (inS 6 0), .stmts (defBody (inS 6 0)), defScope (inS 6 0), mainGlobals, [], builtinsNs))]
def fnd : List (Str × (Str × Str × Arguments × FuncBody × Scope × Addr × List (Str × Addr) × Addr)) := fnd0 ++ (fnd1)
abbrev AlK : Type := Bool × List He.FnW
def obsK (K : PySem.W.Frag) : AlK := (facts.all fun f => f K, fnd.map fun p => fnA K (adK K p.1))
def valK : AlK := (true, fnd.map fun p => some p.2)
def obG (g : Addr → Option Obj) : AlK := obsK (He.frG g addrs)
def hookK : PySem.W.Hook where
  α := AlK
  obs := fun s => obG s.heap.get?
  val := fun _ => valK
  says := fun _ h => ∃ K : PySem.W.Frag, K.In h ∧ obsK K = valK
  of := fun _ _ e => ⟨_, He.frG_in, e⟩
  keeps := fun _ _ _ ⟨K, hK, c⟩ k => ⟨K, PySem.W.Frag.In.keeps hK k, c⟩
def ob (s : PySem.W.SharedT) : AlK := obG (HandSHeadRun.getT s)
theorem ob_eq (s : PySem.W.SharedT) : ob s = hookK.obs s.abs := by
  have e : HandSHeadRun.getT s = s.abs.heap.get? := funext (HandSHeadRun.getT_eq s)
  show obG _ = obG _
  rw [e]
theorem fx {K : PySem.W.Frag} (c : obsK K = valK) (i : Nat) {f : PySem.W.Frag → Bool} (h : facts[i]? = some f := by rfl) : f K = true := by
  have c1 : (facts.all fun f => f K) = true := congrArg (fun z : AlK => z.1) c
  exact List.all_eq_true.mp c1 f (List.mem_of_getElem? h)
theorem fnx {K : PySem.W.Frag} (c : obsK K = valK) (i : Nat) {x : Str} {d : Str × Str × Arguments × FuncBody × Scope × Addr × List (Str × Addr) × Addr} (h : fnd[i]? = some (x, d) := by rfl) : fnA K (adK K x) = some d := by
  have e : fnd.map (fun p => fnA K (adK K p.1)) = fnd.map fun p => some p.2 := congrArg (fun z : AlK => z.2) c
  have e2 : (fnd.map fun p => fnA K (adK K p.1))[i]? = (fnd.map fun p => some p.2)[i]? := by rw [e]
  rw [List.getElem?_map, List.getElem?_map, h] at e2
  exact Option.some.inj e2
theorem sys_of {K : PySem.W.Frag} (h : (match K.lookup sysModules with | some o => decide (o.cls ≠ .type "list") | none => false) = true) : ∃ o, K.lookup sysModules = some o ∧ o.cls ≠ .type "list" := by
  cases e : K.lookup sysModules with
  | none => rw [e] at h; cases h
  | some o => rw [e] at h; exact ⟨o, rfl, of_decide_eq_true h⟩
theorem fun_of {K : PySem.W.Frag} {nm x : Str} {st : Stmt} (e : fnA K (adK K x) = some (nm, x, defArgs st, .stmts (defBody st), defScope st, mainGlobals, [], builtinsNs)) (c : plainB K (adK K x) = true) (k : PySem.W.keepIn K (.ref (adK K x)) = true) : Fun K nm x st (adK K x) (fdK K x) := by
  obtain ⟨oc, od, doc, pm, an, cdv, ct, osl, ho, hc⟩ := fn_at e c
  have ef : fdK K x = PySem.W.fnOf nm x (defArgs st) (defBody st) (defScope st) .none .none doc pm an cdv ct := by
    unfold fdK
    rw [ho]
  refine ⟨⟨oc, od, .none, doc, pm, an, cdv, ct, osl, ef, ?_, hc⟩, k⟩
  rw [ef]; exact ho
theorem funV_of {K : PySem.W.Frag} {nm x : Str} {st : Stmt} {dvs : List V} (e : fnA K (adK K x) = some (nm, x, defArgs st, .stmts (defBody st), defScope st, mainGlobals, [], builtinsNs)) (c : dfnB K (adK K x) dvs = true) (k : PySem.W.keepIn K (.ref (adK K x)) = true) : FunV K nm x st dvs (adK K x) (fdK K x) := by
  obtain ⟨oc, od, dV, kV, doc, pm, an, cdv, ct, osl, ho, hd, hc⟩ := fnV_at e c
  have ef : fdK K x = PySem.W.fnOf nm x (defArgs st) (defBody st) (defScope st) dV kV doc pm an cdv ct := by
    unfold fdK
    rw [ho]
  refine ⟨⟨oc, od, dV, kV, doc, pm, an, cdv, ct, osl, ef, ?_, hc, hd, .inl rfl⟩, k⟩
  rw [ef]; exact ho
section
variable {K : PySem.W.Frag} {h : Heap} {mg : Str → Option Value}
theorem txK (X : K.In h) (G : h.Ns mainGlobals mg) (c : obsK K = valK) : Tx K mg (adK K) (fdK K) where
  m_isinstance := (PySem.W.mg_none_of X G (He.eqO_ok (fx c 0)))
  m_int := (PySem.W.mg_none_of X G (He.eqO_ok (fx c 1)))
  m_bool := (PySem.W.mg_none_of X G (He.eqO_ok (fx c 2)))
  m_str := (PySem.W.mg_none_of X G (He.eqO_ok (fx c 3)))
  m_all := (PySem.W.mg_none_of X G (He.eqO_ok (fx c 4)))
  m_any := (PySem.W.mg_none_of X G (He.eqO_ok (fx c 5)))
  m_len := (PySem.W.mg_none_of X G (He.eqO_ok (fx c 6)))
  m_abs := (PySem.W.mg_none_of X G (He.eqO_ok (fx c 7)))
  m_max := (PySem.W.mg_none_of X G (He.eqO_ok (fx c 8)))
  m_min := (PySem.W.mg_none_of X G (He.eqO_ok (fx c 9)))
  m_divmod := (PySem.W.mg_none_of X G (He.eqO_ok (fx c 10)))
  m_range := (PySem.W.mg_none_of X G (He.eqO_ok (fx c 11)))
  m_repr := (PySem.W.mg_none_of X G (He.eqO_ok (fx c 12)))
  m_dict := (PySem.W.mg_none_of X G (He.eqO_ok (fx c 13)))
  m_list := (PySem.W.mg_none_of X G (He.eqO_ok (fx c 14)))
  m_tuple := (PySem.W.mg_none_of X G (He.eqO_ok (fx c 15)))
  m_enumerate := (PySem.W.mg_none_of X G (He.eqO_ok (fx c 16)))
  m_sum := (PySem.W.mg_none_of X G (He.eqO_ok (fx c 17)))
  m_ValueError := (PySem.W.mg_none_of X G (He.eqO_ok (fx c 18)))
  m_ArithmeticError := (PySem.W.mg_none_of X G (He.eqO_ok (fx c 19)))
  sys := sys_of (fx c 20)
  g_MOST_IN_RATE := He.int_ok X G (fx c 21)
  g_DIGITS := He.str_ok X G (fx c 22)
  g_ALL_SIGNS := He.str_ok X G (fx c 23)
  g_MOST_IN_ROW := He.int_ok X G (fx c 24)
  g_MOST_IN_TEXT := He.int_ok X G (fx c 25)
  g_MOST_FOLLOWED := He.int_ok X G (fx c 26)
  F_is_integer := (fun_of (st := sIsInteger) (fnx c 0) (fx c 27) (fx c 28))
  g_is_integer := (PySem.W.mg_of X G (He.eqO_ok (fx c 29)))
  b_is_integer := (fun_of (st := sIsInteger) (fnx c 0) (fx c 27) (fx c 28)).binds (ps := ["value"]) fun _ _ _ _ _ _ us hl => match us, hl with | [_], _ => rfl
  F_is_between := (fun_of (st := sIsBetween) (fnx c 1) (fx c 30) (fx c 31))
  g_is_between := (PySem.W.mg_of X G (He.eqO_ok (fx c 32)))
  b_is_between := (fun_of (st := sIsBetween) (fnx c 1) (fx c 30) (fx c 31)).binds (ps := ["value", "low", "high"]) fun _ _ _ _ _ _ us hl => match us, hl with | [_, _, _], _ => rfl
  F_is_row := (fun_of (st := sIsRow) (fnx c 2) (fx c 33) (fx c 34))
  g_is_row := (PySem.W.mg_of X G (He.eqO_ok (fx c 35)))
  b_is_row := (fun_of (st := sIsRow) (fnx c 2) (fx c 33) (fx c 34)).binds (ps := ["value"]) fun _ _ _ _ _ _ us hl => match us, hl with | [_], _ => rfl
  F_is_list := (fun_of (st := sIsList) (fnx c 3) (fx c 36) (fx c 37))
  g_is_list := (PySem.W.mg_of X G (He.eqO_ok (fx c 38)))
  b_is_list := (fun_of (st := sIsList) (fnx c 3) (fx c 36) (fx c 37)).binds (ps := ["value"]) fun _ _ _ _ _ _ us hl => match us, hl with | [_], _ => rfl
  F_is_short_row := (fun_of (st := sIsShortRow) (fnx c 4) (fx c 39) (fx c 40))
  g_is_short_row := (PySem.W.mg_of X G (He.eqO_ok (fx c 41)))
  b_is_short_row := (fun_of (st := sIsShortRow) (fnx c 4) (fx c 39) (fx c 40)).binds (ps := ["value"]) fun _ _ _ _ _ _ us hl => match us, hl with | [_], _ => rfl
  F_check_row := (fun_of (st := sCheckRow) (fnx c 5) (fx c 42) (fx c 43))
  g_check_row := (PySem.W.mg_of X G (He.eqO_ok (fx c 44)))
  b_check_row := (fun_of (st := sCheckRow) (fnx c 5) (fx c 42) (fx c 43)).binds (ps := ["row"]) fun _ _ _ _ _ _ us hl => match us, hl with | [_], _ => rfl
  F_check_state := (fun_of (st := sCheckState) (fnx c 6) (fx c 45) (fx c 46))
  g_check_state := (PySem.W.mg_of X G (He.eqO_ok (fx c 47)))
  b_check_state := (fun_of (st := sCheckState) (fnx c 6) (fx c 45) (fx c 46)).binds (ps := ["state", "size"]) fun _ _ _ _ _ _ us hl => match us, hl with | [_, _], _ => rfl
  F_is_text := (fun_of (st := sIsText) (fnx c 7) (fx c 48) (fx c 49))
  g_is_text := (PySem.W.mg_of X G (He.eqO_ok (fx c 50)))
  b_is_text := (fun_of (st := sIsText) (fnx c 7) (fx c 48) (fx c 49)).binds (ps := ["value", "size"]) fun _ _ _ _ _ _ us hl => match us, hl with | [_, _], _ => rfl
  F_check_word := (fun_of (st := sCheckWord) (fnx c 8) (fx c 51) (fx c 52))
  g_check_word := (PySem.W.mg_of X G (He.eqO_ok (fx c 53)))
  b_check_word := (fun_of (st := sCheckWord) (fnx c 8) (fx c 51) (fx c 52)).binds (ps := ["word", "size"]) fun _ _ _ _ _ _ us hl => match us, hl with | [_, _], _ => rfl
  F_check_text := (funV_of (st := sCheckText) (x := "check_text") (dvs := [.int 0, .int 200]) (fnx c 9) (fx c 54) (fx c 55))
  g_check_text := (PySem.W.mg_of X G (He.eqO_ok (fx c 56)))
  F_is_block := (fun_of (st := sIsBlock) (fnx c 10) (fx c 57) (fx c 58))
  g_is_block := (PySem.W.mg_of X G (He.eqO_ok (fx c 59)))
  b_is_block := (fun_of (st := sIsBlock) (fnx c 10) (fx c 57) (fx c 58)).binds (ps := ["value", "length"]) fun _ _ _ _ _ _ us hl => match us, hl with | [_, _], _ => rfl
  F_is_rate := (fun_of (st := sIsRate) (fnx c 11) (fx c 60) (fx c 61))
  g_is_rate := (PySem.W.mg_of X G (He.eqO_ok (fx c 62)))
  b_is_rate := (fun_of (st := sIsRate) (fnx c 11) (fx c 60) (fx c 61)).binds (ps := ["value"]) fun _ _ _ _ _ _ us hl => match us, hl with | [_], _ => rfl
  F_multiple := (fun_of (st := sMultiple) (fnx c 12) (fx c 63) (fx c 64))
  g_multiple := (PySem.W.mg_of X G (He.eqO_ok (fx c 65)))
  b_multiple := (fun_of (st := sMultiple) (fnx c 12) (fx c 63) (fx c 64)).binds (ps := ["rate", "times"]) fun _ _ _ _ _ _ us hl => match us, hl with | [_, _], _ => rfl
  F_check_times := (fun_of (st := sCheckTimes) (fnx c 13) (fx c 66) (fx c 67))
  g_check_times := (PySem.W.mg_of X G (He.eqO_ok (fx c 68)))
  b_check_times := (fun_of (st := sCheckTimes) (fnx c 13) (fx c 66) (fx c 67)).binds (ps := ["times"]) fun _ _ _ _ _ _ us hl => match us, hl with | [_], _ => rfl
  F_check_rate := (fun_of (st := sCheckRate) (fnx c 14) (fx c 69) (fx c 70))
  g_check_rate := (PySem.W.mg_of X G (He.eqO_ok (fx c 71)))
  b_check_rate := (fun_of (st := sCheckRate) (fnx c 14) (fx c 69) (fx c 70)).binds (ps := ["rate"]) fun _ _ _ _ _ _ us hl => match us, hl with | [_], _ => rfl
  F_kept_codes := (fun_of (st := sKeptCodes) (fnx c 15) (fx c 72) (fx c 73))
  g_kept_codes := (PySem.W.mg_of X G (He.eqO_ok (fx c 74)))
  b_kept_codes := (fun_of (st := sKeptCodes) (fnx c 15) (fx c 72) (fx c 73)).binds (ps := ["codes"]) fun _ _ _ _ _ _ us hl => match us, hl with | [_], _ => rfl
  F_is_entry := (fun_of (st := sIsEntry) (fnx c 16) (fx c 75) (fx c 76))
  g_is_entry := (PySem.W.mg_of X G (He.eqO_ok (fx c 77)))
  b_is_entry := (fun_of (st := sIsEntry) (fnx c 16) (fx c 75) (fx c 76)).binds (ps := ["value", "length", "size"]) fun _ _ _ _ _ _ us hl => match us, hl with | [_, _, _], _ => rfl
  F_check_codes := (fun_of (st := sCheckCodes) (fnx c 17) (fx c 78) (fx c 79))
  g_check_codes := (PySem.W.mg_of X G (He.eqO_ok (fx c 80)))
  b_check_codes := (fun_of (st := sCheckCodes) (fnx c 17) (fx c 78) (fx c 79)).binds (ps := ["codes", "rate"]) fun _ _ _ _ _ _ us hl => match us, hl with | [_, _], _ => rfl
  F_check_coder := (fun_of (st := sCheckCoder) (fnx c 18) (fx c 81) (fx c 82))
  g_check_coder := (PySem.W.mg_of X G (He.eqO_ok (fx c 83)))
  b_check_coder := (fun_of (st := sCheckCoder) (fnx c 18) (fx c 81) (fx c 82)).binds (ps := ["coder"]) fun _ _ _ _ _ _ us hl => match us, hl with | [_], _ => rfl
  F_check_states := (fun_of (st := sCheckStates) (fnx c 19) (fx c 84) (fx c 85))
  g_check_states := (PySem.W.mg_of X G (He.eqO_ok (fx c 86)))
  b_check_states := (fun_of (st := sCheckStates) (fnx c 19) (fx c 84) (fx c 85)).binds (ps := ["coder"]) fun _ _ _ _ _ _ us hl => match us, hl with | [_], _ => rfl
  F_groups_of := (fun_of (st := sGroupsOf) (fnx c 20) (fx c 87) (fx c 88))
  g_groups_of := (PySem.W.mg_of X G (He.eqO_ok (fx c 89)))
  b_groups_of := (fun_of (st := sGroupsOf) (fnx c 20) (fx c 87) (fx c 88)).binds (ps := ["coder"]) fun _ _ _ _ _ _ us hl => match us, hl with | [_], _ => rfl
  F_twin_steps := (fun_of (st := sTwinSteps) (fnx c 21) (fx c 90) (fx c 91))
  g_twin_steps := (PySem.W.mg_of X G (He.eqO_ok (fx c 92)))
  b_twin_steps := (fun_of (st := sTwinSteps) (fnx c 21) (fx c 90) (fx c 91)).binds (ps := ["groups", "pair"]) fun _ _ _ _ _ _ us hl => match us, hl with | [_, _], _ => rfl
  F_word_pair := (fun_of (st := sWordPair) (fnx c 22) (fx c 93) (fx c 94))
  g_word_pair := (PySem.W.mg_of X G (He.eqO_ok (fx c 95)))
  b_word_pair := (fun_of (st := sWordPair) (fnx c 22) (fx c 93) (fx c 94)).binds (ps := ["words", "others"]) fun _ _ _ _ _ _ us hl => match us, hl with | [_, _], _ => rfl
  F_clash := (fun_of (st := sClash) (fnx c 23) (fx c 96) (fx c 97))
  g_clash := (PySem.W.mg_of X G (He.eqO_ok (fx c 98)))
  b_clash := (fun_of (st := sClash) (fnx c 23) (fx c 96) (fx c 97)).binds (ps := ["coder"]) fun _ _ _ _ _ _ us hl => match us, hl with | [_], _ => rfl
  F_is_clash := (fun_of (st := sIsClash) (fnx c 24) (fx c 99) (fx c 100))
  g_is_clash := (PySem.W.mg_of X G (He.eqO_ok (fx c 101)))
  b_is_clash := (fun_of (st := sIsClash) (fnx c 24) (fx c 99) (fx c 100)).binds (ps := ["coder", "value"]) fun _ _ _ _ _ _ us hl => match us, hl with | [_, _], _ => rfl
  F_texts_to := (fun_of (st := sTextsTo) (fnx c 25) (fx c 102) (fx c 103))
  g_texts_to := (PySem.W.mg_of X G (He.eqO_ok (fx c 104)))
  b_texts_to := (fun_of (st := sTextsTo) (fnx c 25) (fx c 102) (fx c 103)).binds (ps := ["met", "pair", "words"]) fun _ _ _ _ _ _ us hl => match us, hl with | [_, _, _], _ => rfl
  F__law_pot := (fun_of (st := sPot) (fnx c 26) (fx c 105) (fx c 106))
  g__law_pot := (PySem.W.mg_of X G (He.eqO_ok (fx c 107)))
  b__law_pot := (fun_of (st := sPot) (fnx c 26) (fx c 105) (fx c 106)).binds (ps := ["_law_script", "_law_k"]) fun _ _ _ _ _ _ us hl => match us, hl with | [_, _], _ => rfl
  F__law_draw := (fun_of (st := sDraw) (fnx c 27) (fx c 108) (fx c 109))
  g__law_draw := (PySem.W.mg_of X G (He.eqO_ok (fx c 110)))
  b__law_draw := (fun_of (st := sDraw) (fnx c 27) (fx c 108) (fx c 109)).binds (ps := ["_law_pot_here", "_law_size"]) fun _ _ _ _ _ _ us hl => match us, hl with | [_, _], _ => rfl
  F__law_pick := (fun_of (st := sPick) (fnx c 28) (fx c 111) (fx c 112))
  g__law_pick := (PySem.W.mg_of X G (He.eqO_ok (fx c 113)))
  b__law_pick := (fun_of (st := sPick) (fnx c 28) (fx c 111) (fx c 112)).binds (ps := ["_law_pot_here", "_law_some"]) fun _ _ _ _ _ _ us hl => match us, hl with | [_, _], _ => rfl
  F__law_codes := (fun_of (st := sCodes) (fnx c 29) (fx c 114) (fx c 115))
  g__law_codes := (PySem.W.mg_of X G (He.eqO_ok (fx c 116)))
  b__law_codes := (fun_of (st := sCodes) (fnx c 29) (fx c 114) (fx c 115)).binds (ps := ["_law_pot_here", "_law_size", "_law_length", "_law_states", "_law_letters"]) fun _ _ _ _ _ _ us hl => match us, hl with | [_, _, _, _, _], _ => rfl
  F__law_kept := (fun_of (st := sKept) (fnx c 30) (fx c 117) (fx c 118))
  g__law_kept := (PySem.W.mg_of X G (He.eqO_ok (fx c 119)))
  b__law_kept := (fun_of (st := sKept) (fnx c 30) (fx c 117) (fx c 118)).binds (ps := ["_law_codes_here"]) fun _ _ _ _ _ _ us hl => match us, hl with | [_], _ => rfl
  F__law_run := (fun_of (st := sRun) (fnx c 31) (fx c 120) (fx c 121))
  g__law_run := (PySem.W.mg_of X G (He.eqO_ok (fx c 122)))
  b__law_run := (fun_of (st := sRun) (fnx c 31) (fx c 120) (fx c 121)).binds (ps := ["_law_codes_here", "_law_lead_word", "_law_text_here"]) fun _ _ _ _ _ _ us hl => match us, hl with | [_, _, _], _ => rfl
  F__law_is_text := (fun_of (st := sLawIsText) (fnx c 32) (fx c 123) (fx c 124))
  g__law_is_text := (PySem.W.mg_of X G (He.eqO_ok (fx c 125)))
  b__law_is_text := (fun_of (st := sLawIsText) (fnx c 32) (fx c 123) (fx c 124)).binds (ps := ["_law_thing", "_law_size"]) fun _ _ _ _ _ _ us hl => match us, hl with | [_, _], _ => rfl
  F__law_judged := (fun_of (st := sJudged) (fnx c 33) (fx c 126) (fx c 127))
  g__law_judged := (PySem.W.mg_of X G (He.eqO_ok (fx c 128)))
  b__law_judged := (fun_of (st := sJudged) (fnx c 33) (fx c 126) (fx c 127)).binds (ps := ["_law_codes_here", "_law_size", "_law_thing"]) fun _ _ _ _ _ _ us hl => match us, hl with | [_, _, _], _ => rfl
  F__law_text := (fun_of (st := sText) (fnx c 34) (fx c 129) (fx c 130))
  g__law_text := (PySem.W.mg_of X G (He.eqO_ok (fx c 131)))
  b__law_text := (fun_of (st := sText) (fnx c 34) (fx c 129) (fx c 130)).binds (ps := ["_law_pot_here", "_law_size", "_law_most"]) fun _ _ _ _ _ _ us hl => match us, hl with | [_, _, _], _ => rfl
  F__law_odd := (fun_of (st := sOdd) (fnx c 35) (fx c 132) (fx c 133))
  g__law_odd := (PySem.W.mg_of X G (He.eqO_ok (fx c 134)))
  b__law_odd := (fun_of (st := sOdd) (fnx c 35) (fx c 132) (fx c 133)).binds (ps := ["_law_pot_here", "_law_size", "_law_text_here"]) fun _ _ _ _ _ _ us hl => match us, hl with | [_, _, _], _ => rfl
  F__law_near := (fun_of (st := sNear) (fnx c 36) (fx c 135) (fx c 136))
  g__law_near := (PySem.W.mg_of X G (He.eqO_ok (fx c 137)))
  b__law_near := (fun_of (st := sNear) (fnx c 36) (fx c 135) (fx c 136)).binds (ps := ["_law_pot_here", "_law_made", "_law_size"]) fun _ _ _ _ _ _ us hl => match us, hl with | [_, _, _], _ => rfl
  F__law_right := (fun_of (st := sRight) (fnx c 37) (fx c 138) (fx c 139))
  g__law_right := (PySem.W.mg_of X G (He.eqO_ok (fx c 140)))
  b__law_right := (fun_of (st := sRight) (fnx c 37) (fx c 138) (fx c 139)).binds (ps := ["_law_pot_here"]) fun _ _ _ _ _ _ us hl => match us, hl with | [_], _ => rfl
  F_law := (fun_of (st := sLaw) (fnx c 38) (fx c 141) (fx c 142))
  g_law := (PySem.W.mg_of X G (He.eqO_ok (fx c 143)))
  b_law := (fun_of (st := sLaw) (fnx c 38) (fx c 141) (fx c 142)).binds (ps := ["_law_script"]) fun _ _ _ _ _ _ us hl => match us, hl with | [_], _ => rfl
theorem rateC (X : K.In h) (G : h.Ns mainGlobals mg) (c : obsK K = valK) : RateC K mg (adK K) (fdK K) where
  G := (PySem.W.mg_of X G (He.eqO_ok (fx c 144)))
  cl := ⟨(fx c 145), (fx c 146), (fx c 147), (of_decide_eq_true (fx c 148))⟩
  mks := ⟨(fx c 149), (of_decide_eq_true (fx c 150)), (fx c 151), (fx c 152)⟩
  np := He.eqO_ok (fx c 153)
  nq := He.eqO_ok (fx c 154)
  ml := ⟨(fx c 155), (of_decide_eq_true (fx c 156)), (fx c 157), (of_decide_eq_true (fx c 158)), (fx c 159), (of_decide_eq_true (fx c 160)), (of_decide_eq_true (fx c 161))⟩
  mro := (fx c 162)
  ob := (of_decide_eq_true (fx c 163))
  ca := (of_decide_eq_true (fx c 164))
  cn := (of_decide_eq_true (fx c 165))
  ct := (of_decide_eq_true (fx c 166))
  ne := (of_decide_eq_true (fx c 167))
  eq := (of_decide_eq_true (fx c 168))
  eqf := (fx c 169)
  st := (of_decide_eq_true (fx c 170))
  stf := (fx c 171)
  rp := (of_decide_eq_true (fx c 172))
  rpf := (fx c 173)
  rd := {
    rd := ⟨(fx c 174), (of_decide_eq_true (fx c 175))⟩
    at_ := smB_ok (fx c 176)
    rc := rec_ok (fx c 177)
    pg := (fx c 145)
    ic := (fx c 178)
    ai := (of_decide_eq_true (fx c 179))
    ty := (of_decide_eq_true (fx c 180))
    get := (of_decide_eq_true (fx c 181))
    tk := (of_decide_eq_true (fx c 182))
    cp := by decide +kernel
    kp := (fx c 183) }
  pp := ⟨(of_decide_eq_true (fx c 184)), (of_decide_eq_true (fx c 185)), (of_decide_eq_true (fx c 186)), rec_ok (fx c 187)⟩
  pq := ⟨(of_decide_eq_true (fx c 188)), (of_decide_eq_true (fx c 189)), (of_decide_eq_true (fx c 190)), rec_ok (fx c 191)⟩
  ps := ⟨(of_decide_eq_true (fx c 192)), (of_decide_eq_true (fx c 193)), (of_decide_eq_true (fx c 194)), rec_ok (fx c 195)⟩
  ty := ty_ok (fx c 196)
  F_init := (fun_of (st := sR_init) (fnx c 39) (fx c 197) (fx c 198))
  b_init := (fun_of (st := sR_init) (fnx c 39) (fx c 197) (fx c 198)).binds (ps := ["self", "p", "q"]) fun _ _ _ _ _ _ us hl => match us, hl with | [_, _, _], _ => rfl
  F_read := (fun_of (st := sR_read) (fnx c 40) (fx c 199) (fx c 200))
  b_read := (fun_of (st := sR_read) (fnx c 40) (fx c 199) (fx c 200)).binds (ps := ["string"]) fun _ _ _ _ _ _ us hl => match us, hl with | [_], _ => rfl
  F_p := (fun_of (st := sR_p) (fnx c 41) (fx c 201) (fx c 202))
  b_p := (fun_of (st := sR_p) (fnx c 41) (fx c 201) (fx c 202)).binds (ps := ["self"]) fun _ _ _ _ _ _ us hl => match us, hl with | [_], _ => rfl
  F_q := (fun_of (st := sR_q) (fnx c 42) (fx c 203) (fx c 204))
  b_q := (fun_of (st := sR_q) (fnx c 42) (fx c 203) (fx c 204)).binds (ps := ["self"]) fun _ _ _ _ _ _ us hl => match us, hl with | [_], _ => rfl
  F_size := (fun_of (st := sR_size) (fnx c 43) (fx c 205) (fx c 206))
  b_size := (fun_of (st := sR_size) (fnx c 43) (fx c 205) (fx c 206)).binds (ps := ["self"]) fun _ _ _ _ _ _ us hl => match us, hl with | [_], _ => rfl
  F_mul := (fun_of (st := sR_mul) (fnx c 44) (fx c 207) (fx c 208))
  b_mul := (fun_of (st := sR_mul) (fnx c 44) (fx c 207) (fx c 208)).binds (ps := ["self", "other"]) fun _ _ _ _ _ _ us hl => match us, hl with | [_, _], _ => rfl
  F_rmul := (fun_of (st := sR_rmul) (fnx c 45) (fx c 209) (fx c 210))
  b_rmul := (fun_of (st := sR_rmul) (fnx c 45) (fx c 209) (fx c 210)).binds (ps := ["self", "other"]) fun _ _ _ _ _ _ us hl => match us, hl with | [_, _], _ => rfl
  F_eq := (fun_of (st := sR_eq) (fnx c 46) (fx c 211) (fx c 212))
  b_eq := (fun_of (st := sR_eq) (fnx c 46) (fx c 211) (fx c 212)).binds (ps := ["self", "other"]) fun _ _ _ _ _ _ us hl => match us, hl with | [_, _], _ => rfl
  F_str := (fun_of (st := sR_str) (fnx c 47) (fx c 213) (fx c 214))
  b_str := (fun_of (st := sR_str) (fnx c 47) (fx c 213) (fx c 214)).binds (ps := ["self"]) fun _ _ _ _ _ _ us hl => match us, hl with | [_], _ => rfl
  F_repr := (fun_of (st := sR_repr) (fnx c 48) (fx c 215) (fx c 216))
  b_repr := (fun_of (st := sR_repr) (fnx c 48) (fx c 215) (fx c 216)).binds (ps := ["self"]) fun _ _ _ _ _ _ us hl => match us, hl with | [_], _ => rfl
theorem coderC (X : K.In h) (G : h.Ns mainGlobals mg) (c : obsK K = valK) : CoderC K mg (adK K) (fdK K) where
  G := (PySem.W.mg_of X G (He.eqO_ok (fx c 219)))
  cl := ⟨(fx c 220), (fx c 221), (fx c 222), (of_decide_eq_true (fx c 223))⟩
  mks := ⟨(fx c 224), (of_decide_eq_true (fx c 225)), (fx c 226), (fx c 227)⟩
  nr := He.eqO_ok (fx c 228)
  nl := He.eqO_ok (fx c 229)
  nc := He.eqO_ok (fx c 230)
  most := con_ok (fx c 231) (by decide +kernel)
  F_init := (funV_of (st := sC_init) (x := "Coder.__init__") (dvs := [.str ""]) (fnx c 49) (fx c 217) (fx c 218))
  b_init := binds_nil ((funV_of (st := sC_init) (x := "Coder.__init__") (dvs := [.str ""]) (fnx c 49) (fx c 217) (fx c 218)).binds1 (ps := ["self", "rate", "codes", "lead"]) 4 1 (by decide) rfl fun T kV doc pm an cdv ct us its hl hi => (match us, its, hl, hi with | [_, _, _, _], [_], _, _ => ⟨_, by first | rfl | with_unfolding_all rfl, rfl⟩))
theorem coderM (X : K.In h) (G : h.Ns mainGlobals mg) (c : obsK K = valK) : CoderM K mg (adK K) (fdK K) where
  F_rate := (fun_of (st := sC_rate) (fnx c 50) (fx c 232) (fx c 233))
  b_rate := (fun_of (st := sC_rate) (fnx c 50) (fx c 232) (fx c 233)).binds (ps := ["self"]) fun _ _ _ _ _ _ us hl => match us, hl with | [_], _ => rfl
  F_lead := (fun_of (st := sC_lead) (fnx c 51) (fx c 234) (fx c 235))
  b_lead := (fun_of (st := sC_lead) (fnx c 51) (fx c 234) (fx c 235)).binds (ps := ["self"]) fun _ _ _ _ _ _ us hl => match us, hl with | [_], _ => rfl
  F_codes := (fun_of (st := sC_codes) (fnx c 52) (fx c 236) (fx c 237))
  b_codes := (fun_of (st := sC_codes) (fnx c 52) (fx c 236) (fx c 237)).binds (ps := ["self"]) fun _ _ _ _ _ _ us hl => match us, hl with | [_], _ => rfl
  F_follow := (fun_of (st := sC_follow) (fnx c 53) (fx c 238) (fx c 239))
  b_follow := (fun_of (st := sC_follow) (fnx c 53) (fx c 238) (fx c 239)).binds (ps := ["self", "text", "state"]) fun _ _ _ _ _ _ us hl => match us, hl with | [_, _, _], _ => rfl
  F_len := (fun_of (st := sC_len) (fnx c 54) (fx c 240) (fx c 241))
  b_len := (fun_of (st := sC_len) (fnx c 54) (fx c 240) (fx c 241)).binds (ps := ["self"]) fun _ _ _ _ _ _ us hl => match us, hl with | [_], _ => rfl
theorem coderE (X : K.In h) (G : h.Ns mainGlobals mg) (c : obsK K = valK) : CoderE K mg (adK K) (fdK K) where
  ca := (of_decide_eq_true (fx c 242))
  ob := (of_decide_eq_true (fx c 243))
theorem coderP (X : K.In h) (G : h.Ns mainGlobals mg) (c : obsK K = valK) : CoderP K mg (adK K) (fdK K) where
  pr := ⟨(of_decide_eq_true (fx c 249)), (of_decide_eq_true (fx c 250)), (of_decide_eq_true (fx c 251)), rec_ok (fx c 252)⟩
  pl := ⟨(of_decide_eq_true (fx c 253)), (of_decide_eq_true (fx c 254)), (of_decide_eq_true (fx c 255)), rec_ok (fx c 256)⟩
  m_codes := ⟨(of_decide_eq_true (fx c 257)), (fx c 258), (fx c 259)⟩
theorem coderW (X : K.In h) (G : h.Ns mainGlobals mg) (c : obsK K = valK) : CoderW K mg (adK K) (fdK K) where
  m_follow := ⟨(of_decide_eq_true (fx c 244)), (fx c 245), (fx c 246)⟩
  ln := (of_decide_eq_true (fx c 247))
  lnf := (fx c 248)
theorem errN (X : K.In h) (G : h.Ns mainGlobals mg) (c : obsK K = valK) : ErrV K mg "InvalidNumber" (adK K "InvalidNumber") (adK K "InvalidNumber.__init__") := ⟨(xb_of (fx c 260)), (xi_of (fx c 261)), (by
    obtain ⟨oc, od, doc, pm, an, cdv, ct, osl, ho, hc⟩ := fn_at (fnx c 55) (fx c 262)
    exact ⟨He.eqO_ok (fx c 263), oc, od, doc, pm, an, cdv, ct, osl, _, _, _, _, _, _, _, ho, hc⟩), (PySem.W.mg_of X G (He.eqO_ok (fx c 264)))⟩
end
end K82
end

section
set_option maxHeartbeats 0
namespace K82
open PySem PySem.W PySem.Calls PyProof.Rows
abbrev RW : OpenRow := OpenLaw.row PySem.Challenge.rw_barredrows_k82_clashes_judged
abbrev qv : Program := view RW.prog [66]
def names0 : List PySem.Str := ["_wall", "BarredError", "InvalidTable", "InvalidState", "InvalidRow", "InvalidNumber", "InvalidRate", "InvalidCoder", "InvalidWord", "InvalidText", "LimitError", "TooMany", "ALL_SIGNS", "is_integer", "is_between", "is_row", "MOST_IN_ROW", "MOST_IN_TEXT", "is_list", "is_short_row", "check_row", "check_state", "is_text", "check_word", "check_text", "is_block", "MOST_IN_RATE", "DIGITS", "Rate", "is_rate"]
def names1 : List PySem.Str := ["multiple", "check_times", "check_rate", "MOST_FOLLOWED", "Coder", "kept_codes", "is_entry", "check_codes", "check_coder", "check_states", "groups_of", "twin_steps", "word_pair", "clash", "is_clash", "texts_to", "_law_pot", "_law_draw", "_law_pick", "_law_codes", "_law_kept", "_law_run", "_law_is_text", "_law_judged", "_law_text", "_law_odd", "_law_near", "_law_right"]
def names : List PySem.Str := names0 ++ names1
/-- the top's run -/
noncomputable abbrev runT (w : World) (os : OsState) : Option SharedT := HandSHeadRun.endF (HandSHeadRun.stepQ (HandSHeadRun.denQ HandSHeadRun.tabQ) RW.prog w) 13000 RW.prog w os
noncomputable def partB (fs : List (PySem.W.Frag → Bool)) (s : SharedT) : Bool := fs.all fun f => f (He.frG (HandSHeadRun.getT s) addrs)
noncomputable def partF (s : SharedT) : List He.FnW := fnd.map fun p => fnA (He.frG (HandSHeadRun.getT s) addrs) (adK (He.frG (HandSHeadRun.getT s) addrs) p.1)
def factsA : List (PySem.W.Frag → Bool) := facts0 ++ (facts1 ++ facts2)
def factsB : List (PySem.W.Frag → Bool) := facts3 ++ (facts4 ++ facts5)
def factsC : List (PySem.W.Frag → Bool) := facts6 ++ (facts7 ++ facts8)
theorem facts_all (K : PySem.W.Frag) : (facts.all fun f => f K) = ((factsA.all fun f => f K) && ((factsB.all fun f => f K) && factsC.all fun f => f K)) := by
  unfold facts factsA factsB factsC
  simp only [List.all_append, Bool.and_assoc]
end K82
end

section
set_option maxHeartbeats 0
namespace K82
open PySem PySem.W PySem.Calls PyProof.Rows
theorem run0 (w : World) (os : OsState) : (runT w os).map (fun s => (HandSHeadRun.looksF RW.prog (boot_heap w.params) s.abs, HandSHeadRun.seenQ qv names (importedModules RW.prog.main.body) (fun s => xlAt qv [] s && recOk RW.toRowW.records s) s.abs)) = some (true, openGood qv names) := by
  kernel_rfl
end K82
end

section
set_option maxHeartbeats 0
namespace K82
open PySem PySem.W PySem.Calls PyProof.Rows
theorem runA (w : World) (os : OsState) : (runT w os).map (partB factsA) = some true := by
  kernel_rfl
end K82
end

section
set_option maxHeartbeats 0
namespace K82
open PySem PySem.W PySem.Calls PyProof.Rows
theorem runB (w : World) (os : OsState) : (runT w os).map (partB factsB) = some true := by
  kernel_rfl
end K82
end

section
set_option maxHeartbeats 0
namespace K82
open PySem PySem.W PySem.Calls PyProof.Rows
theorem runC (w : World) (os : OsState) : (runT w os).map (partB factsC) = some true := by
  kernel_rfl
end K82
end

section
set_option maxHeartbeats 0
namespace K82
open PySem PySem.W PySem.Calls PyProof.Rows
theorem runFd (w : World) (os : OsState) : (runT w os).map partF = some (fnd.map fun p => some p.2) := by
  kernel_rfl
end K82
end

section
set_option maxHeartbeats 0
namespace K82
open PySem PySem.W PySem.Calls PyProof.Rows
theorem of_map {α β : Type} {x : Option α} {s : α} {f : α → β} {v : β} (e : x = some s) (h : x.map f = some v) : f s = v := by
  rw [e] at h
  exact Option.some.inj h
theorem runK (w : World) : HandSHeadRun.RunEq RW qv hookK ob 13000 names w := by
  intro os
  obtain ⟨s, es, e0⟩ := Option.map_eq_some_iff.mp (run0 w os)
  have eA := of_map es (runA w os)
  have eB := of_map es (runB w os)
  have eC := of_map es (runC w os)
  have eF := of_map es (runFd w os)
  have eo : ob s = valK := by
    show ((facts.all fun f => f (He.frG (HandSHeadRun.getT s) addrs)), partF s) = valK
    rw [facts_all, show (factsA.all fun f => f (He.frG (HandSHeadRun.getT s) addrs)) = true from eA, show (factsB.all fun f => f (He.frG (HandSHeadRun.getT s) addrs)) = true from eB, show (factsC.all fun f => f (He.frG (HandSHeadRun.getT s) addrs)) = true from eC, eF]
    rfl
  obtain ⟨e1, e2⟩ := Prod.mk.inj e0
  show (runT w os).map _ = _
  rw [es]
  show some (_, _, ob s) = _
  rw [eo, e1, e2]
  rfl
end K82
end

section
set_option maxHeartbeats 0
namespace K82
open PySem PySem.Spec PyProof.Rows L2
theorem walkE {l : PySem.W.OpenLaw} {n k : Nat} {q : Program} {loose : List Str} {XP : (Str → Option Value) → Heap → Prop} {YP : World → Heap → Prop} {d : DefRec} {x : Str}
    (hn : l.most = some n) (hn2 : n ≤ sizeLine) (hdf : d.params.defaults = []) (hr : Room k callerA)
    (F : ∀ (w : World) (mg : Str → Option Value) (fa : Addr) (h : Heap), YP w h → h.Ns mainGlobals mg → mg d.name = some (.ref fa) →
      ∃ (K : PySem.W.Frag) (fd : FuncData) (sp : Sp), K.In h ∧ (∀ (s : Shared) (u : Value), BindsTo s fd ⟨[u], []⟩ [(x, u)]) ∧
        (∀ (H : Hp) (a : Addr) (ns : List Int), ns.length ≤ n → Only H → SqL K H a (ns.map V.int) → sp [.ref a] H (fun v _ => v = .bl true) fun _ _ _ => False) ∧
        ∀ base : Heap, K.In base → base.Ns mainGlobals mg → FnG l.prog w K mg base k fa fd [x] sp) :
    PySem.W.WalkO q loose XP YP l.row.toRowW d [] (fun f vs => PySem.call f vs) := by
  refine Att.attach_call hn hdf fun w s₀ s₁ mg mb fa o pm cd doc a vs ns G Y ho hd hcd hmg hobj hints hlen hg => ?_
  obtain ⟨K, fd, sp, KX, hb, hsp, hF⟩ := F w mg fa _ Y G.T.g hmg
  exact law_endG KX G.T.g G.T.b G.T.builtins G.T.nolimit hg hobj hints (Nat.le_trans hlen hn2) hr hF hb fun H hO hS => hsp H a ns hlen hO hS
theorem lawF {P : Program} {w : World} {K : PySem.W.Frag} {h : Heap} {mg : Str → Option Value} {fa : Addr} (X : K.In h) (G : h.Ns mainGlobals mg) (hfa : mg ("law" : Str) = some (.ref fa)) (c : obsK K = valK) :
    (∀ (s : Shared) (u : Value), BindsTo s (fdK K "law") ⟨[u], []⟩ [("_law_script", u)]) ∧ ∀ base : Heap, K.In base → base.Ns mainGlobals mg → FnG P w K mg base 9 fa (fdK K "law") ["_law_script"] (spLaw K) := by
  have T := txK X G c
  have e := hfa.symm.trans T.g_law
  cases e
  refine ⟨fun s u => ?_, fun base _ _ => ok_law T (rateC X G c) (errN X G c) (coderC X G c) (coderM X G c) (coderP X G c) (coderE X G c) (coderW X G c)⟩
  obtain ⟨oc, od, kV, doc, pm, an, cdv, ct, osl, ef, _⟩ := T.F_law.ex
  rw [ef]
  exact .of_eq rfl
end K82
open PySem PySem.W PySem.Calls PyProof.Rows
theorem PySem.Challenge.cw_barredrows_k82_clashes_judged_holds : PySem.Challenge.rw_barredrows_k82_clashes_judged.Holds := by
  w_on; o_law
  refine HandSHeadRun.head_any (r := OpenLaw.row PySem.Challenge.rw_barredrows_k82_clashes_judged) (q := K82.qv) (H := K82.hookK) (ob := K82.ob) (M := 13000) (loose := K82.names) (d := HandSHeadRun.topDef (OpenLaw.row PySem.Challenge.rw_barredrows_k82_clashes_judged).prog 66) (kwd := []) K82.ob_eq
    (by kernel_rfl) (fun s => by kernel_rfl) K82.runK (by kernel_rfl) (by kernel_rfl) (by kernel_rfl) (by rfl) (by first | assumption | decide +kernel) (by decide +kernel) ⟨rfl, rfl, rfl, rfl, rfl, by decide +kernel⟩ ?hw ?hc
  case hw => w_witness2
  case hc =>
    refine K82.walkE (l := PySem.Challenge.rw_barredrows_k82_clashes_judged) (n := 63) (k := 9) (x := "_law_script") rfl (by decide) (by kernel_rfl) ⟨rfl, by decide, by decide⟩ ?F
    intro w mg fa h Y G hmg0
    obtain ⟨K, KX, c⟩ := Y
    have hmg : mg ("law" : PySem.Str) = some (.ref fa) := by
      have e : (HandSHeadRun.topDef (OpenLaw.row PySem.Challenge.rw_barredrows_k82_clashes_judged).prog 66).name = ("law" : PySem.Str) := by kernel_rfl
      rw [← e]
      exact hmg0
    obtain ⟨hb, hF⟩ := K82.lawF (P := (PySem.Challenge.rw_barredrows_k82_clashes_judged).prog) (w := w) KX G hmg c
    exact ⟨K, _, K82.spLaw K, KX, hb, fun H a ns hl _ hS => ⟨a, ns, rfl, hS, fun _ => rfl⟩, hF⟩
end
