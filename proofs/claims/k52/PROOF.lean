import PyProof.Rows.All
import Wide.All
import OpenK.AllK
import Wide.FinOn
import HandS.ForMost
import HandS.Exc
import HandS.ExcInit
import HandS.IsInst
import HandS.Wide
import HandS.WideBits
import HandS.Defaults
import HandS.ExcField
import HandS.Walk
import HandS.Lambda
import HandS.EndTab
import HandS.Property
import HandS.FStr
import PySem.Challenge.RW_barredrows_k52_whole_equal_coders
import KE.KExcIs
import KE.KExcInit
import HandS.ExcValue
import HandS.WordsExc
import HandS.TryOnly
import HandS.TryMany
import KE.KOpsOwn
import KE.KCallOwn
import OpenK.KOps
import HandS.ClsMeth
import PyProof.Rows.StrBin
import PyProof.StrLawsRepr
import HandS.Conv
import HandS.Star
import HandS.HeadHook2
import HandS.Head0
import HandS.Head1
import HandS.Head2
import HandS.HeadHook1
import KE.KNestM
import KE.KStateDown
import Lean
import HandS.HeadEnd
set_option Elab.async false
set_option linter.all false
set_option maxRecDepth 100000
section
set_option maxHeartbeats 4000000
namespace K52
open PySem PySem.Spec PyProof.Rows L2
/-! ### the text by places -/
def topS (i : Nat) : Stmt := PySem.Challenge.pw_barredrows_k52_whole_equal_coders.main.body.getD i (.Pass ⟨0, 0, 0, 0⟩)
def inS (i j : Nat) : Stmt := match topS i with
  | .ClassDef (body := b) .. => b.getD j (.Pass ⟨0, 0, 0, 0⟩)
  | _ => .Pass ⟨0, 0, 0, 0⟩
abbrev sIsInteger : Stmt := topS 14
abbrev sIsBetween : Stmt := topS 15
abbrev sIsRow : Stmt := topS 16
abbrev sIsList : Stmt := topS 20
abbrev sIsShortRow : Stmt := topS 21
abbrev sCheckRow : Stmt := topS 22
abbrev sCheckState : Stmt := topS 23
abbrev sCheckWord : Stmt := topS 24
abbrev sCheckText : Stmt := topS 25
abbrev sIsBlock : Stmt := topS 26
abbrev sIsRate : Stmt := topS 31
abbrev sMultiple : Stmt := topS 32
abbrev sCheckTimes : Stmt := topS 33
abbrev sCheckRate : Stmt := topS 34
abbrev sKeptCodes : Stmt := topS 37
abbrev sIsEntry : Stmt := topS 38
abbrev sCheckCodes : Stmt := topS 39
abbrev sPot : Stmt := topS 41
abbrev sDraw : Stmt := topS 42
abbrev sPick : Stmt := topS 43
abbrev sMixed : Stmt := topS 44
abbrev sReached : Stmt := topS 45
abbrev sKept : Stmt := topS 46
abbrev sWay : Stmt := topS 47
abbrev sLooseCodes : Stmt := topS 48
abbrev sWords : Stmt := topS 49
abbrev sMade : Stmt := topS 50
abbrev sTold : Stmt := topS 51
abbrev sTurned : Stmt := topS 52
abbrev sWider : Stmt := topS 53
abbrev sDoubled : Stmt := topS 54
abbrev sOther : Stmt := topS 55
abbrev sBesideRight : Stmt := topS 56
abbrev sRight : Stmt := topS 57
abbrev sLaw : Stmt := topS 58
abbrev sR_init : Stmt := inS 30 0
abbrev sR_read : Stmt := inS 30 1
abbrev sR_p : Stmt := inS 30 2
abbrev sR_q : Stmt := inS 30 3
abbrev sR_size : Stmt := inS 30 4
abbrev sR_mul : Stmt := inS 30 5
abbrev sR_rmul : Stmt := inS 30 6
abbrev sR_eq : Stmt := inS 30 7
abbrev sR_str : Stmt := inS 30 8
abbrev sR_repr : Stmt := inS 30 9
abbrev sC_init : Stmt := inS 36 1
abbrev sC_rate : Stmt := inS 36 2
abbrev sC_lead : Stmt := inS 36 3
abbrev sC_codes : Stmt := inS 36 4
abbrev sC_end : Stmt := inS 36 5
abbrev sC_blocks : Stmt := inS 36 6
abbrev sC_spelled : Stmt := inS 36 7
abbrev sC_follow : Stmt := inS 36 8
abbrev sC_call : Stmt := inS 36 9
abbrev sC_getitem : Stmt := inS 36 10
abbrev sC_len : Stmt := inS 36 11
abbrev sC_eq : Stmt := inS 36 12
abbrev sC_repr : Stmt := inS 36 13
abbrev sC_iter : Stmt := inS 36 14
/-! ### heaps -/
/-- all stands that stood, but perhaps p -/
def But (p : Addr) (H H' : Hp) : Prop := ∀ b o, b ≠ p → H b = some o → H' b = some o
theorem But.rfl {p : Addr} {H : Hp} : But p H H := fun _ _ _ e => e
theorem But.trans {p : Addr} {H1 H2 H3 : Hp} (a : But p H1 H2) (b : But p H2 H3) : But p H1 H3 := fun x o n e => b x o n (a x o n e)
theorem But.upd {p : Addr} {H : Hp} {o : HO} : But p H (upd H p o) := fun b u n e => by rw [upd_ne n]; exact e
theorem But.new {p q : Addr} {H : Hp} {o : HO} (h : H q = none) : But p H (L2.upd H q o) := fun b u n e => by rw [upd_ne (ne_of_none e h)]; exact e
theorem Same.refl {H : Hp} : Same H H := fun _ _ e => e
theorem Same.new {q : Addr} {H : Hp} {o : HO} (h : H q = none) : Same H (L2.upd H q o) := fun b u e => by rw [upd_ne (ne_of_none e h)]; exact e
theorem But.same {p : Addr} {H H' : Hp} (h : Same H H') : But p H H' := fun b o _ e => h b o e
/-- the pot that is drawn from -/
def PotAt (H : Hp) (p : Addr) : Prop := ∃ x y : Int, H p = some (.lst [.int x, .int y]) ∧ 0 ≤ x ∧ 0 ≤ y ∧ y < 2147483648
theorem PotAt.same {H H' : Hp} {p : Addr} (h : PotAt H p) (s : Same H H') : PotAt H' p := by
  obtain ⟨x, y, e, h1, h2, h3⟩ := h
  exact ⟨x, y, s _ _ e, h1, h2, h3⟩
theorem PotAt.ne {H : Hp} {p q : Addr} (h : PotAt H p) (e : H q = none) : q ≠ p := fun z => by
  obtain ⟨x, y, f, _⟩ := h
  rw [z, f] at e; cases e
/-- all stands that stood, but perhaps p and the tables -/
def ButN (p : Addr) (H H' : Hp) : Prop := ∀ b o, b ≠ p → H b = some o → (∀ ps, o ≠ .tbl ps) → H' b = some o
theorem ButN.of {p : Addr} {H H' : Hp} (b : But p H H') : ButN p H H' := fun x o n e _ => b x o n e
theorem ButN.ext {p : Addr} {H H' : Hp} (b : LamX.ExtN H H') : ButN p H H' := fun x o _ e n => b x o e n
theorem ButN.trans {p : Addr} {H1 H2 H3 : Hp} (a : ButN p H1 H2) (b : ButN p H2 H3) : ButN p H1 H3 := fun x o n e t => b x o n (a x o n e t) t
theorem ButN.same {p : Addr} {H H' : Hp} (h : Same H H') : ButN p H H' := fun b o _ e _ => h b o e
theorem ExtN.same {H H' : Hp} (h : Same H H') : LamX.ExtN H H' := fun b o e _ => h b o e
theorem PotAt.extN {H H' : Hp} {p : Addr} (h : PotAt H p) (s : LamX.ExtN H H') : PotAt H' p := by
  obtain ⟨x, y, e, h1, h2, h3⟩ := h
  exact ⟨x, y, s _ _ e (fun ps z => by cases z), h1, h2, h3⟩
/-! ### what the top has written -/
structure Tx (K : PySem.W.Frag) (mg : Str → Option Value) (ad : Str → Addr) (fd : Str → FuncData) : Prop where
  m_isinstance : mg "isinstance" = none
  m_int : mg "int" = none
  m_bool : mg "bool" = none
  m_str : mg "str" = none
  m_all : mg "all" = none
  m_any : mg "any" = none
  m_len : mg "len" = none
  m_abs : mg "abs" = none
  m_max : mg "max" = none
  m_min : mg "min" = none
  m_divmod : mg "divmod" = none
  m_range : mg "range" = none
  m_repr : mg "repr" = none
  m_dict : mg "dict" = none
  m_list : mg "list" = none
  m_tuple : mg "tuple" = none
  m_enumerate : mg "enumerate" = none
  m_ValueError : mg "ValueError" = none
  m_ArithmeticError : mg "ArithmeticError" = none
  sys : ∃ o, K.lookup sysModules = some o ∧ o.cls ≠ .type "list"
  g_MOST_IN_RATE : ∃ t, mg "MOST_IN_RATE" = some (.int 6 t)
  g_DIGITS : ∃ t, mg "DIGITS" = some (.str "123456" t)
  g_ALL_SIGNS : ∃ t, mg "ALL_SIGNS" = some (.str "abcd" t)
  g_MOST_IN_ROW : ∃ t, mg "MOST_IN_ROW" = some (.int 2000 t)
  g_MOST_IN_TEXT : ∃ t, mg "MOST_IN_TEXT" = some (.int 200 t)
  F_is_integer : Fun K "is_integer" "is_integer" sIsInteger (ad "is_integer") (fd "is_integer")
  g_is_integer : mg "is_integer" = some (.ref (ad "is_integer"))
  b_is_integer : Binds K (fd "is_integer") ["value"] []
  F_is_between : Fun K "is_between" "is_between" sIsBetween (ad "is_between") (fd "is_between")
  g_is_between : mg "is_between" = some (.ref (ad "is_between"))
  b_is_between : Binds K (fd "is_between") ["value", "low", "high"] []
  F_is_row : Fun K "is_row" "is_row" sIsRow (ad "is_row") (fd "is_row")
  g_is_row : mg "is_row" = some (.ref (ad "is_row"))
  b_is_row : Binds K (fd "is_row") ["value"] []
  F_is_list : Fun K "is_list" "is_list" sIsList (ad "is_list") (fd "is_list")
  g_is_list : mg "is_list" = some (.ref (ad "is_list"))
  b_is_list : Binds K (fd "is_list") ["value"] []
  F_is_short_row : Fun K "is_short_row" "is_short_row" sIsShortRow (ad "is_short_row") (fd "is_short_row")
  g_is_short_row : mg "is_short_row" = some (.ref (ad "is_short_row"))
  b_is_short_row : Binds K (fd "is_short_row") ["value"] []
  F_check_row : Fun K "check_row" "check_row" sCheckRow (ad "check_row") (fd "check_row")
  g_check_row : mg "check_row" = some (.ref (ad "check_row"))
  b_check_row : Binds K (fd "check_row") ["row"] []
  F_check_state : Fun K "check_state" "check_state" sCheckState (ad "check_state") (fd "check_state")
  g_check_state : mg "check_state" = some (.ref (ad "check_state"))
  b_check_state : Binds K (fd "check_state") ["state", "size"] []
  F_check_word : Fun K "check_word" "check_word" sCheckWord (ad "check_word") (fd "check_word")
  g_check_word : mg "check_word" = some (.ref (ad "check_word"))
  b_check_word : Binds K (fd "check_word") ["word", "size"] []
  F_check_text : FunD K "check_text" "check_text" (defArgs sCheckText) (defBody sCheckText) (defScope sCheckText) [.int 0, .int 200] [] (ad "check_text") (fd "check_text")
  g_check_text : mg "check_text" = some (.ref (ad "check_text"))
  F_is_block : Fun K "is_block" "is_block" sIsBlock (ad "is_block") (fd "is_block")
  g_is_block : mg "is_block" = some (.ref (ad "is_block"))
  b_is_block : Binds K (fd "is_block") ["value", "length"] []
  F_is_rate : Fun K "is_rate" "is_rate" sIsRate (ad "is_rate") (fd "is_rate")
  g_is_rate : mg "is_rate" = some (.ref (ad "is_rate"))
  b_is_rate : Binds K (fd "is_rate") ["value"] []
  F_multiple : Fun K "multiple" "multiple" sMultiple (ad "multiple") (fd "multiple")
  g_multiple : mg "multiple" = some (.ref (ad "multiple"))
  b_multiple : Binds K (fd "multiple") ["rate", "times"] []
  F_check_times : Fun K "check_times" "check_times" sCheckTimes (ad "check_times") (fd "check_times")
  g_check_times : mg "check_times" = some (.ref (ad "check_times"))
  b_check_times : Binds K (fd "check_times") ["times"] []
  F_check_rate : Fun K "check_rate" "check_rate" sCheckRate (ad "check_rate") (fd "check_rate")
  g_check_rate : mg "check_rate" = some (.ref (ad "check_rate"))
  b_check_rate : Binds K (fd "check_rate") ["rate"] []
  F_kept_codes : Fun K "kept_codes" "kept_codes" sKeptCodes (ad "kept_codes") (fd "kept_codes")
  g_kept_codes : mg "kept_codes" = some (.ref (ad "kept_codes"))
  b_kept_codes : Binds K (fd "kept_codes") ["codes"] []
  F_is_entry : Fun K "is_entry" "is_entry" sIsEntry (ad "is_entry") (fd "is_entry")
  g_is_entry : mg "is_entry" = some (.ref (ad "is_entry"))
  b_is_entry : Binds K (fd "is_entry") ["value", "length", "size"] []
  F_check_codes : Fun K "check_codes" "check_codes" sCheckCodes (ad "check_codes") (fd "check_codes")
  g_check_codes : mg "check_codes" = some (.ref (ad "check_codes"))
  b_check_codes : Binds K (fd "check_codes") ["codes", "rate"] []
  F__law_pot : Fun K "_law_pot" "_law_pot" sPot (ad "_law_pot") (fd "_law_pot")
  g__law_pot : mg "_law_pot" = some (.ref (ad "_law_pot"))
  b__law_pot : Binds K (fd "_law_pot") ["_law_script", "_law_k"] []
  F__law_draw : Fun K "_law_draw" "_law_draw" sDraw (ad "_law_draw") (fd "_law_draw")
  g__law_draw : mg "_law_draw" = some (.ref (ad "_law_draw"))
  b__law_draw : Binds K (fd "_law_draw") ["_law_pot_here", "_law_bound"] []
  F__law_pick : Fun K "_law_pick" "_law_pick" sPick (ad "_law_pick") (fd "_law_pick")
  g__law_pick : mg "_law_pick" = some (.ref (ad "_law_pick"))
  b__law_pick : Binds K (fd "_law_pick") ["_law_pot_here", "_law_some"] []
  F__law_mixed : Fun K "_law_mixed" "_law_mixed" sMixed (ad "_law_mixed") (fd "_law_mixed")
  g__law_mixed : mg "_law_mixed" = some (.ref (ad "_law_mixed"))
  b__law_mixed : Binds K (fd "_law_mixed") ["_law_pot_here", "_law_some"] []
  F__law_reached : Fun K "_law_reached" "_law_reached" sReached (ad "_law_reached") (fd "_law_reached")
  g__law_reached : mg "_law_reached" = some (.ref (ad "_law_reached"))
  b__law_reached : Binds K (fd "_law_reached") ["_law_chart"] []
  F__law_kept : Fun K "_law_kept" "_law_kept" sKept (ad "_law_kept") (fd "_law_kept")
  g__law_kept : mg "_law_kept" = some (.ref (ad "_law_kept"))
  b__law_kept : Binds K (fd "_law_kept") ["_law_chart"] []
  F__law_way : Fun K "_law_way" "_law_way" sWay (ad "_law_way") (fd "_law_way")
  g__law_way : mg "_law_way" = some (.ref (ad "_law_way"))
  b__law_way : Binds K (fd "_law_way") ["_law_chart", "_law_spot", "_law_words_here"] []
  F__law_loose_codes : Fun K "_law_loose_codes" "_law_loose_codes" sLooseCodes (ad "_law_loose_codes") (fd "_law_loose_codes")
  g__law_loose_codes : mg "_law_loose_codes" = some (.ref (ad "_law_loose_codes"))
  b__law_loose_codes : Binds K (fd "_law_loose_codes") ["_law_pot_here", "_law_pace", "_law_most", "_law_letters"] []
  F__law_words : Fun K "_law_words" "_law_words" sWords (ad "_law_words") (fd "_law_words")
  g__law_words : mg "_law_words" = some (.ref (ad "_law_words"))
  b__law_words : Binds K (fd "_law_words") ["_law_pot_here", "_law_pace", "_law_size"] []
  F__law_made : Fun K "_law_made" "_law_made" sMade (ad "_law_made") (fd "_law_made")
  g__law_made : mg "_law_made" = some (.ref (ad "_law_made"))
  b__law_made : Binds K (fd "_law_made") ["_law_pace", "_law_chart", "_law_start"] []
  F__law_told : Fun K "_law_told" "_law_told" sTold (ad "_law_told") (fd "_law_told")
  g__law_told : mg "_law_told" = some (.ref (ad "_law_told"))
  b__law_told : Binds K (fd "_law_told") ["_law_made_here"] []
  F__law_turned : Fun K "_law_turned" "_law_turned" sTurned (ad "_law_turned") (fd "_law_turned")
  g__law_turned : mg "_law_turned" = some (.ref (ad "_law_turned"))
  b__law_turned : Binds K (fd "_law_turned") ["_law_pot_here", "_law_chart"] []
  F__law_wider : Fun K "_law_wider" "_law_wider" sWider (ad "_law_wider") (fd "_law_wider")
  g__law_wider : mg "_law_wider" = some (.ref (ad "_law_wider"))
  b__law_wider : Binds K (fd "_law_wider") ["_law_pot_here", "_law_pace", "_law_chart"] []
  F__law_doubled : Fun K "_law_doubled" "_law_doubled" sDoubled (ad "_law_doubled") (fd "_law_doubled")
  g__law_doubled : mg "_law_doubled" = some (.ref (ad "_law_doubled"))
  b__law_doubled : Binds K (fd "_law_doubled") ["_law_pot_here", "_law_chart"] []
  F__law_other : Fun K "_law_other" "_law_other" sOther (ad "_law_other") (fd "_law_other")
  g__law_other : mg "_law_other" = some (.ref (ad "_law_other"))
  b__law_other : Binds K (fd "_law_other") ["_law_pot_here", "_law_chart"] []
  F__law_beside_right : Fun K "_law_beside_right" "_law_beside_right" sBesideRight (ad "_law_beside_right") (fd "_law_beside_right")
  g__law_beside_right : mg "_law_beside_right" = some (.ref (ad "_law_beside_right"))
  b__law_beside_right : Binds K (fd "_law_beside_right") ["_law_pot_here", "_law_one", "_law_two", "_law_pace"] []
  F__law_right : Fun K "_law_right" "_law_right" sRight (ad "_law_right") (fd "_law_right")
  g__law_right : mg "_law_right" = some (.ref (ad "_law_right"))
  b__law_right : Binds K (fd "_law_right") ["_law_pot_here"] []
  F_law : Fun K "law" "law" sLaw (ad "law") (fd "law")
  g_law : mg "law" = some (.ref (ad "law"))
  b_law : Binds K (fd "law") ["_law_script"] []
end K52
end

section
set_option maxHeartbeats 4000000
/-! defs that call repr: the same promises as FnOk, where it is known that no repr is under way -/
namespace K52
open PySem PySem.Spec PyProof.Rows L2
structure RoomG (k : Nat) (A : Around) : Prop where
  rm : Room k A
  gd : A.guards = some []
theorem RoomG.mono {j k : Nat} {A : Around} (r : RoomG k A) (h : j ≤ k) : RoomG j A := ⟨r.rm.mono h, r.gd⟩
theorem RoomG.deeper {k : Nat} {A : Around} (r : RoomG (k + 1) A) (env : Env) : RoomG k (A.deeper env) := ⟨r.rm.deeper env, r.gd⟩
structure FnG (P : Program) (w : World) (K : PySem.W.Frag) (mg : Str → Option Value) (base : Heap) (k : Nat) (f : Addr) (fd : FuncData) (ps : List Str) (sp : Sp) : Prop where
  len : ∀ vs H Q E, sp vs H Q E → vs.length = ps.length
  run : ∀ (A : Around) (outer : List Env) (s : Shared) (H : Hp) (args : Args) (us : List Value) (vs : List V) (Q : VK) (E : XK), RoomG k A → Env0 P w K mg base A outer s H → BindsTo s fd args (ps.zip us) → Vals vs us → sp vs H Q E →
    codeAny (model P w) A (.call (.ref f) args) (CR CX0 outer P w H s Q E) s
section
variable {P : Program} {w : World} {K : PySem.W.Frag} {mg : Str → Option Value} {base : Heap}
theorem fnG_body {x qual : Str} {st : Stmt} {f : Addr} {fd : FuncData} {N ps : List Str} {k : Nat} {sp : Sp} (F : Fun K x qual st f fd) (S : FnScope N ps (defScope st)) (ln : ∀ vs H Q E, sp vs H Q E → vs.length = ps.length)
    (hb0 : ∀ (cdv : Value) (A : Around) (outer : List Env) (s : Shared) (H : Hp) (vs : List V) (Q : VK) (E : XK), RoomG k (A.deeper (envOfC qual (defScope st) s.heap.objs.size f cdv)) → sp vs H Q E →
      ∃ t, PSs (cxOf CX0 P w K mg base N qual (defScope st) f cdv A outer s H E).nox (defBody st) t ∧ t { nx := fun _ H' => Q .non H', rt := Q } (start N vs) H) : FnG P w K mg base (k + 1) f fd ps sp where
  len := ln
  run A outer s H args us vs Q E hr e0 hbd rv hs := by
    obtain ⟨oc, od, kV, doc, pm, an, cdv, ct, osl, rfl, lk, hcd⟩ := F.ex
    have old := fun b o (e : base.get? b = some o) => (e0.bs b o e).1
    have inK : K.In s.heap := e0.mod.kin.keeps old
    have hkn : ∀ q ∈ ps.zip us, (defScope st).names.lookup q.1 = some .local ∨ ((defScope st).names.lookup q.1 = some .cell ∧ ((cellsFrom (s.heap.objs.size + 1) (defScope st).names []).lookup q.1).isSome = true) := by
      rintro ⟨n, v⟩ hq
      exact (S.par n (List.of_mem_zip hq).1).elim .inl fun c => .inr ⟨c, PySem.W.cellsFrom_some _ _ _ (.inl c)⟩
    have body : ∀ s1 : Shared, InCallC s s.heap.objs.size (bindL (envOfC qual (defScope st) s.heap.objs.size f cdv).kindOf (ps.zip us) fun _ => none) (cellsFrom (s.heap.objs.size + 1) (defScope st).names []) (bindC (envOfC qual (defScope st) s.heap.objs.size f cdv).kindOf (ps.zip us) fun _ => none) s1 →
        wpAny (model P w) (A.deeper (envOfC qual (defScope st) s.heap.objs.size f cdv)) (execs (defBody st) (envOfC qual (defScope st) s.heap.objs.size f cdv)) (fun fl s' => match fl with | .next => CE outer P w H s Q Value.none s' | .ret u => CE outer P w H s Q u s' | _ => False) (cxOf CX0 P w K mg base N qual (defScope st) f cdv A outer s H E).xe s1 := by
      intro s1 hx
      obtain ⟨t, ht, hq⟩ := hb0 cdv A outer s H vs Q E (hr.deeper _) hs
      have J := inv_start (CX := CX0) (E := E) S hr.rm.hd e0 (ln _ _ _ _ hs) rv hx
      refine wpAny_mono (ht.nox.run [] s1 (start N vs) H _ J hq) (fun fl s' hf => ?_) (fun e s' hf => hf)
      match fl, hf with
      | .next, ⟨σ', H', I', q⟩ => exact ⟨.non, H', I'.os, I'.bare, I'.base, I'.hok, rfl, q⟩
      | .ret u, ⟨v, σ', H', I', r', q⟩ => exact ⟨v, H', I'.os, I'.bare, I'.base, I'.hok, r', q⟩
      | .brk, ⟨_, _, _, q⟩ => exact (show False from q).elim
      | .cont, ⟨_, _, _, q⟩ => exact (show False from q).elim
    refine codeAny_call_function hr.rm.depth (inK _ _ lk) rfl S.co S.gen rfl (PySem.W.codeRec_of inK hcd) (hbd _ _ _ _ ?_)
    refine wpAny_newFunctionEnv_cells S.kind hkn fun env he s1 hx => ?_
    subst he
    refine ⟨(e0.mod.nolimit.keeps old).keeps hx.toInCall.keep, codeAny_func ?_⟩
    refine wpAny_mono (body s1 hx) (fun fl s' hf => ?_) (fun e s' hf => hf)
    cases fl with
    | ret u => exact hf
    | next => exact hf
    | brk => exact (show False from hf).elim
    | cont => exact (show False from hf).elim
theorem FnG.of {k : Nat} {f : Addr} {fd : FuncData} {ps : List Str} {sp : Sp} (F : FnOk P w K mg base CX0 k f fd ps sp) : FnG P w K mg base k f fd ps sp := ⟨F.len, fun A o s H a us vs Q E r => F.run A o s H a us vs Q E r.rm⟩
end
section
variable {X : Cx} {k : Nat} {f : Addr} {fd : FuncData} {ps : List Str} {sp : Sp} {E : XK} {x : Str} {p pos : Pos} {e : Expr} {es : List Expr} {t : TA}
theorem run_g {pins : List (Addr × Obj)} {σ : L2.St} {H : Hp} {s : Shared} {Q : VK} {us : List Value} {vs : List V} (F : FnG X.prog X.w X.K X.mg X.base k f fd ps sp) (hr : RoomG k X.A) (hb : Binds X.K fd ps [])
    (I : Inv X pins σ H s) (r : Vals vs us) (h : sp vs H Q E) : wpAny (model X.prog X.w) X.A (call (.ref f) us) (EP X pins σ Q) X.xe s := by
  have hl : us.length = ps.length := r.length.symm.trans (F.len _ _ _ _ h)
  have hb' := hb s us I.kIn (by rw [List.append_nil]; exact hl)
  rw [List.append_nil] at hb'
  refine wpAny_call (codeAny_mono (F.run X.A X.stack s H ⟨us, []⟩ us vs Q E hr I.env0 hb' r h) ?_)
  intro res s' hq
  match res, hq with
  | .ok (.ret u), hq => exact I.after hq
theorem pe_callG (F : FnG X.prog X.w X.K X.mg X.base k f fd ps sp) (hr : RoomG k X.A) (hg : Gl X x) (hm : X.mg x = some (.ref f)) (hk : PySem.W.keepIn X.K (.ref f) = true) (hb : Binds X.K fd ps [])
    (ha : PA X (e :: es) t) (hdb : (x == ("__debug__" : Str)) = false := by decide) (he : starEach (e :: es) X.env = (false, eval e X.env) :: starEach es X.env := by rfl) (hpl : (backTo pos (starEach es X.env)).any (·.1) = false := by rfl) :
    PE X (.Call (.Name x p) (e :: es) [] pos) (tCall sp [] E t) :=
  ⟨fun pins s σ H Q I h => wpAny_Call_Name_kw (ld_glob I hg hm (PySem.W.callWith_K (h₀ := X.base) I.ok.mod.kin hk (thn (ha.run pos pins s σ H _ I h) fun us s1 ⟨vs, H1, I1, r, q⟩ => ⟨I1.kIn, run_g (E := E) F hr hb I1 r (by have q' : sp (vs ++ []) H1 Q E := q; rw [List.append_nil] at q'; exact q')⟩) he hpl) hdb)⟩
end
end K52
end

section
set_option maxHeartbeats 4000000
/-! repr of data -/
namespace K52
open PySem PySem.Spec PyProof.Rows L2
def keyD : Key → PyData
  | .inl i => .int i
  | .inr x => .str x
mutual
/-- the value v reads as the data d -/
inductive Dx (H : Hp) : V → PyData → Prop
  | non : Dx H .non .none
  | bl (b : Bool) : Dx H (.bl b) (.bool b)
  | int (i : Int) : Dx H (.int i) (.int i)
  | str (x : Str) : Dx H (.str x) (.str x)
  | lst {a : Addr} {xs : List V} {ds : List PyData} : H a = some (.lst xs) → DxAll H xs ds → Dx H (.ref a) (.list ds)
  | tup {a : Addr} {xs : List V} {ds : List PyData} : H a = some (.tup xs) → DxAll H xs ds → Dx H (.ref a) (.tuple ds)
  | dic {a : Addr} {kvs : List (Key × V)} {ds : List PyData} : H a = some (.dK kvs) → DxAll H (kvs.map (·.2)) ds → Dx H (.ref a) (.dict ((kvs.map fun p => keyD p.1).zip ds))
inductive DxAll (H : Hp) : List V → List PyData → Prop
  | nil : DxAll H [] []
  | cons {v : V} {vs : List V} {d : PyData} {ds : List PyData} : Dx H v d → DxAll H vs ds → DxAll H (v :: vs) (d :: ds)
end
theorem DxAll.length {H : Hp} : ∀ {vs : List V} {ds : List PyData}, DxAll H vs ds → vs.length = ds.length
  | _, _, .nil => rfl
  | _, _, .cons _ t => by rw [List.length_cons, List.length_cons, t.length]
mutual
theorem Dx.same {H H' : Hp} (s : Same H H') : ∀ {v : V} {d : PyData}, Dx H v d → Dx H' v d
  | _, _, .non => .non
  | _, _, .bl b => .bl b
  | _, _, .int i => .int i
  | _, _, .str x => .str x
  | _, _, .lst e h => .lst (s _ _ e) (DxAll.same s h)
  | _, _, .tup e h => .tup (s _ _ e) (DxAll.same s h)
  | _, _, .dic e h => .dic (s _ _ e) (DxAll.same s h)
theorem DxAll.same {H H' : Hp} (s : Same H H') : ∀ {vs : List V} {ds : List PyData}, DxAll H vs ds → DxAll H' vs ds
  | _, _, .nil => .nil
  | _, _, .cons a b => .cons (Dx.same s a) (DxAll.same s b)
end
/-- what stands at an address is no dict of sys.modules -/
def Apart (h : Heap) (as : List Addr) : Prop := ∀ a ∈ as, (∃ o, h.get? a = some o ∧ o.cls = .type "list") ∨ (a == sysModules) = false
theorem Apart.nil {h : Heap} : Apart h [] := fun _ z => nomatch z
theorem Apart.app {h : Heap} {as bs : List Addr} (x : Apart h as) (y : Apart h bs) : Apart h (as ++ bs) := fun a z => (List.mem_append.mp z).elim (x a) (y a)
theorem Apart.cons {h : Heap} {a : Addr} {as : List Addr} (x : (∃ o, h.get? a = some o ∧ o.cls = .type "list") ∨ (a == sysModules) = false) (y : Apart h as) : Apart h (a :: as) := fun b z => (List.mem_cons.mp z).elim (fun e => by rw [e]; exact x) (y b)
theorem map_zip_fst {α β : Type} : ∀ (xs : List α) (ys : List β), xs.length = ys.length → (xs.zip ys).map (·.1) = xs
  | [], _, _ => rfl
  | x :: xs, [], h => by cases h
  | x :: xs, y :: ys, h => by rw [List.zip_cons_cons, List.map_cons, map_zip_fst xs ys (by simpa using h)]
theorem map_zip_snd {α β : Type} : ∀ (xs : List α) (ys : List β), xs.length = ys.length → (xs.zip ys).map (·.2) = ys
  | [], [], _ => rfl
  | [], _ :: _, h => by cases h
  | x :: xs, [], h => by cases h
  | x :: xs, y :: ys, h => by rw [List.zip_cons_cons, List.map_cons, map_zip_snd xs ys (by simpa using h)]
theorem key_reads {h : Heap} {P : Program} {w : World} {k : Key} {v : Value} (e : (mixKind P w).is k v = true) : Reads h v (keyD k) [] := by
  rcases keyIs_shape e with ⟨i, t, rfl, rfl⟩ | ⟨x, t, rfl, rfl⟩
  · exact .int i t
  · exact .str x t
theorem keys_read {h : Heap} {P : Program} {w : World} : ∀ {es : List DictEntry} {vs : List (Key × Value)}, Pairs (mixKind P w) es vs → ReadsAll h (es.map (·.key)) (vs.map fun p => keyD p.1) []
  | _, _, .nil => .nil
  | _, _, .cons a b c => .cons (as := []) (bs := []) (key_reads a) (keys_read c)
theorem vals_eq {P : Program} {w : World} : ∀ {es : List DictEntry} {vs : List (Key × Value)}, Pairs (mixKind P w) es vs → es.map (·.val) = vs.map (·.2)
  | _, _, .nil => rfl
  | _, _, .cons a b c => by rw [List.map_cons, List.map_cons, b, vals_eq c]
theorem kv_fst : ∀ {kvs : List (Key × V)} {vs : List (Key × Value)}, KV kvs vs → kvs.map (fun p => keyD p.1) = vs.map fun p => keyD p.1
  | _, _, .nil => rfl
  | _, _, .cons a c => by rw [List.map_cons, List.map_cons, a.1, kv_fst c]
theorem kv_snd : ∀ {kvs : List (Key × V)} {vs : List (Key × Value)}, KV kvs vs → Vals (kvs.map (·.2)) (vs.map (·.2))
  | _, _, .nil => .nil
  | _, _, .cons a c => .cons a.2 (kv_snd c)
section
variable {X : Cx} {pins : List (Addr × Obj)} {σ : L2.St} {H : Hp} {s : Shared}
mutual
theorem Dx.reads (I : L2.Inv X pins σ H s) : ∀ {v : V} {d : PyData} {u : Value}, Dx H v d → RelV v u → ∃ as, Reads s.heap u d as ∧ Apart s.heap as
  | _, _, _, .non, r => by cases r; exact ⟨_, .none, .nil⟩
  | _, _, _, .bl b, r => by cases r; exact ⟨_, .bool b, .nil⟩
  | _, _, _, .int i, r => by obtain ⟨t, rfl⟩ := r; exact ⟨_, .int i t, .nil⟩
  | _, _, _, .str x, r => by obtain ⟨t, rfl⟩ := r; exact ⟨_, .str x t, .nil⟩
  | _, _, _, .lst (a := a) e h, r => by
    cases r
    obtain ⟨_, its, n, rv, ho⟩ := (show ObjOk X.prog X.w H s.heap a (.lst _) from I.hok a _ e)
    obtain ⟨as, hr, ap⟩ := DxAll.reads I h rv
    exact ⟨_, .list ho rfl rfl (by rw [List.toList_toArray]; exact hr), .cons (.inl ⟨_, ho, rfl⟩) ap⟩
  | _, _, _, .tup (a := a) e h, r => by
    cases r
    obtain ⟨_, its, rv, o, ho, hc, n, hd⟩ := (show ObjOk X.prog X.w H s.heap a (.tup _) from I.hok a _ e)
    obtain ⟨as, hr, ap⟩ := DxAll.reads I h rv
    exact ⟨_, .tuple ho hc hd (by rw [List.toList_toArray]; exact hr), ap⟩
  | _, _, _, .dic (a := a) (kvs := kvs) (ds := ds) e h, r => by
    cases r
    obtain ⟨_, hy, vs, kv, o, es, ep, ho, hc, hd, _, ps, _⟩ := (show ObjOk X.prog X.w H s.heap a (.dK _) from I.hok a _ e)
    obtain ⟨bs, hr, ap⟩ := DxAll.reads I h (kv_snd kv)
    have el : (kvs.map fun p => keyD p.1).length = ds.length := by rw [List.length_map, ← h.length, List.length_map]
    refine ⟨_, .dict ho hc.1 hd (as := []) (bs := bs) ?_ ?_, ?_⟩
    · rw [map_zip_fst _ _ el, kv_fst kv]
      exact keys_read ps
    · rw [map_zip_snd _ _ el, vals_eq ps]
      exact hr
    · exact Apart.cons (.inr hy) ap
theorem DxAll.reads (I : L2.Inv X pins σ H s) : ∀ {vs : List V} {ds : List PyData} {us : List Value}, DxAll H vs ds → Vals vs us → ∃ as, ReadsAll s.heap us ds as ∧ Apart s.heap as
  | _, _, _, .nil, r => by cases r; exact ⟨_, .nil, .nil⟩
  | _, _, _, .cons a b, r => by
    cases r with
    | cons r1 r2 =>
      obtain ⟨as, q1, p1⟩ := Dx.reads I a r1
      obtain ⟨bs, q2, p2⟩ := DxAll.reads I b r2
      exact ⟨_, .cons q1 q2, p1.app p2⟩
end
/-- repr(x), x an object that reads as data -/
def rRepr : List V → Hp → VK → Prop := fun xs H Q => ∃ (a : Addr) (d : PyData), xs = [.ref a] ∧ Dx H (.ref a) d ∧ d.showable = true ∧ d.depth ≤ 40 ∧ d.shown.length ≤ sizeLine ∧ Q (.str d.shown) H
theorem call_repr {X : Cx} (hg : X.A.guards = some []) (hu : X.A.units + 64 < cLine) (hs : ∃ o, X.K.lookup sysModules = some o ∧ o.cls ≠ .type "list") : CallR X (.builtin "repr") rRepr := by
  intro pins s σ H xs us Q I r h
  obtain ⟨a, d, rfl, hd, sh, dp, sz, q⟩ := h
  cases r with
  | cons r0 rr =>
    cases rr
    rename_i u
    have eu : u = Value.ref a := r0
    subst eu
    obtain ⟨as, rd, ap⟩ := Dx.reads I hd r0
    refine repr_of_reads' rd sh (fun _ hm => ?_) hg (by omega) (fun b o e => e) (fun h' u tk k => ⟨.str d.shown, H, I.kept (t' := tk) k, ⟨u, rfl⟩, q⟩) sz
    rcases ap _ hm with ⟨o, ho, hc⟩ | z
    · obtain ⟨o2, e2, n2⟩ := hs
      have z := (I.kIn _ _ e2).symm.trans ho
      cases z
      exact n2 hc
    · simp at z
end
end K52
end

section
set_option maxHeartbeats 4000000
/-! what kind of value it is -/
namespace K52
open PySem PySem.Spec PyProof.Rows L2
def tyN : PyData → String
  | .none => "NoneType"
  | .bool _ => "bool"
  | .int _ => "int"
  | .str _ => "str"
  | .list _ => "list"
  | .tuple _ => "tuple"
  | .dict _ => "dict"
theorem dx_ty {K : PySem.W.Frag} {H : Hp} {v : V} {d : PyData} (h : Dx H v d) : TyX K H v (.type (tyN d)) := by
  cases h with
  | non => exact .base .non
  | bl b => exact .base (.bl b)
  | int i => exact .base (.int i)
  | str x => exact .base (.str x)
  | lst e _ => exact .base (.lst e)
  | tup e _ => exact .base (.tup e)
  | dic e _ => exact .base (.dK e)
def isI : PyData → Bool
  | .int _ => true
  | .bool _ => true
  | _ => false
def isB : PyData → Bool
  | .bool _ => true
  | _ => false
def isS : PyData → Bool
  | .str _ => true
  | _ => false
theorem kit_i (d : PyData) : kitB (tyN d) "int" = some (isI d) :=
  match d with
  | .none => (by decide +kernel : kitB "NoneType" "int" = some false)
  | .bool _ => (by decide +kernel : kitB "bool" "int" = some true)
  | .int _ => (by decide +kernel : kitB "int" "int" = some true)
  | .str _ => (by decide +kernel : kitB "str" "int" = some false)
  | .list _ => (by decide +kernel : kitB "list" "int" = some false)
  | .tuple _ => (by decide +kernel : kitB "tuple" "int" = some false)
  | .dict _ => (by decide +kernel : kitB "dict" "int" = some false)
theorem kit_b (d : PyData) : kitB (tyN d) "bool" = some (isB d) :=
  match d with
  | .none => (by decide +kernel : kitB "NoneType" "bool" = some false)
  | .bool _ => (by decide +kernel : kitB "bool" "bool" = some true)
  | .int _ => (by decide +kernel : kitB "int" "bool" = some false)
  | .str _ => (by decide +kernel : kitB "str" "bool" = some false)
  | .list _ => (by decide +kernel : kitB "list" "bool" = some false)
  | .tuple _ => (by decide +kernel : kitB "tuple" "bool" = some false)
  | .dict _ => (by decide +kernel : kitB "dict" "bool" = some false)
theorem kit_s (d : PyData) : kitB (tyN d) "str" = some (isS d) :=
  match d with
  | .none => (by decide +kernel : kitB "NoneType" "str" = some false)
  | .bool _ => (by decide +kernel : kitB "bool" "str" = some false)
  | .int _ => (by decide +kernel : kitB "int" "str" = some false)
  | .str _ => (by decide +kernel : kitB "str" "str" = some true)
  | .list _ => (by decide +kernel : kitB "list" "str" = some false)
  | .tuple _ => (by decide +kernel : kitB "tuple" "str" = some false)
  | .dict _ => (by decide +kernel : kitB "dict" "str" = some false)
/-- a whole number; a count; a text of signs -/
def wholeD : PyData → Bool := fun d => isI d && !isB d
def countD : PyData → Bool
  | .int i => decide (0 ≤ i)
  | _ => false
def sgn (c : Nat) : Bool := decide (c ∈ (PySem.Str.ofString "abcd").cps.toList)
def wordD : PyData → Bool
  | .str z => z.cps.toList.all sgn
  | _ => false
/-- what is asked of a thing -/
structure Tame (d : PyData) : Prop where
  len : ∀ z, d = .str z → z.length ≤ 5000 ∧ ∀ c ∈ z.cps.toList, c < 1114112
  sh : d.showable = true
  dp : d.depth ≤ 10
  sz : d.shown.length ≤ 60000
def spB (f : PyData → Bool) : Sp := fun vs H Q _ => ∃ (v : V) (d : PyData), vs = [v] ∧ Dx H v d ∧ Tame d ∧ ∀ H', Same H H' → Q (.bl (f d)) H'
theorem take_snoc {α : Type} {l : List α} {i : Nat} {x : α} (h : l[i]? = some x) : l.take (i + 1) = l.take i ++ [x] := by
  rw [List.take_add_one, h]; rfl
end K52
end

section
set_option maxHeartbeats 4000000
/-! own exceptions: isinstance, fields, as values -/
namespace K52
open PySem PySem.Spec PyProof.Rows L2
section
open PySem.W PySem.Calls
variable {prog : Program} {w : World} {A : Around} {E : Value → Shared → Prop} {s : Shared} {K : Frag} {x D : Addr} {ox : Obj} {od : Option Obj}
/-- what the class D says of its instances -/
structure EC (K : Frag) (D : Addr) : Prop where
  ga : findIn K (.ref D) "__getattribute__" = some (some (.builtin "BaseException.__getattribute__"))
  gg : findIn K (.ref D) "__getattr__" = some none
  be : subIn K (.ref D) (.type "BaseException") = some true
  hd : hasDictIn K D = true
  cl : findIn K (.ref D) "__class__" = some (some (.builtin "object.__class__"))
  gt : specialIn K (.builtin "object.__class__") "__get__" = some (some (.builtin "getset_descriptor.__get__"))
  tk : takesIn K (.builtin "object.__class__") = some true
  ob : mroIn K D (.type "object") = some true
theorem EC.is (F : EC K D) : (clsIn K D).isSome = true := by
  obtain ⟨cd, h, _⟩ := any_some F.hd
  rw [h]; rfl
theorem EC.kit (F : EC K D) : KitX K (.ref x) (.ref D) (fun h => InstAt h x ox D od) := kitx_exc F.is F.ga F.gg F.be F.cl F.gt F.tk F.ob
end
end K52
end

section
set_option maxHeartbeats 4000000
/-! own exceptions made by keywords, over any base -/
namespace K52
open PySem PySem.Spec PyProof.Rows L2
/-- own classes, then the base's own row -/
def refsTo (tail : List Value) : List Value → Bool
  | .ref _ :: r => refsTo tail r
  | l => l == tail
theorem refsTo_cases {tail : List Value} : ∀ l : List Value, refsTo tail l = true → (∃ c r, l = .ref c :: r ∧ refsTo tail r = true) ∨ l = tail := by
  intro l h
  match l, h with
  | [], h => exact .inr (beq_iff_eq.mp h)
  | .ref c :: r, h => exact .inl ⟨c, r, rfl, h⟩
  | .none :: _, h => exact .inr (beq_iff_eq.mp h)
  | .ellipsis :: _, h => exact .inr (beq_iff_eq.mp h)
  | .notImplemented :: _, h => exact .inr (beq_iff_eq.mp h)
  | .bool _ :: _, h => exact .inr (beq_iff_eq.mp h)
  | .int _ _ :: _, h => exact .inr (beq_iff_eq.mp h)
  | .float _ _ :: _, h => exact .inr (beq_iff_eq.mp h)
  | .str _ _ :: _, h => exact .inr (beq_iff_eq.mp h)
  | .bytes _ _ :: _, h => exact .inr (beq_iff_eq.mp h)
  | .type _ :: _, h => exact .inr (beq_iff_eq.mp h)
  | .builtin _ :: _, h => exact .inr (beq_iff_eq.mp h)
theorem refsTo_has {tail : List Value} (X : String) : ∀ l : List Value, refsTo tail l = true → l.contains (.type X) = tail.contains (.type X) := by
  intro l
  induction l with
  | nil => intro h; rw [show ([] : List Value) = tail from beq_iff_eq.mp h]
  | cons a r ih =>
    intro h
    rcases refsTo_cases (a :: r) h with ⟨c, r', e, h2⟩ | e
    · obtain ⟨rfl, rfl⟩ := List.cons.inj e
      rw [List.contains_cons, ih h2]; rfl
    · rw [e]
theorem refsTo_pass {tail : List Value} (self : Value) (hp : refuseLoop self "__setattr__" tail = pure ()) : ∀ l : List Value, refsTo tail l = true → refuseLoop self "__setattr__" l = pure () := by
  intro l
  induction l with
  | nil => intro h; rw [show ([] : List Value) = tail from beq_iff_eq.mp h]; exact hp
  | cons a r ih =>
    intro h
    rcases refsTo_cases (a :: r) h with ⟨c, r', e, h2⟩ | e
    · obtain ⟨rfl, rfl⟩ := List.cons.inj e
      rw [refuseLoop_ref]; exact ih h2
    · rw [e]; exact hp
section
open PySem.HandSPX
variable {M : Model} {prog : Program} {w : World} {A : Around} {E : Value → Shared → Prop} {R : Result → Shared → Prop} {h : Heap} {g : Array GenState} {d : Drawn} {t : Nat} {os : OsState}
variable {nm q : Str} {C N : Addr} {bs bm bmB : List Value} {hdct : Bool} {sn : List Str} {sub : List Value} {ab : Bool} {col : Option Bool} {dd : Option Addr} {k0 k1 k2 k3 k5 : Option Value} {B newId initId : String} {rest : List Value} {kw : List (Str × Value)}
theorem kw_check_new (F : ExcBaseFacts B newId initId bmB) (same : ∀ X : String, bm.contains (.type X) = bmB.contains (.type X)) {Q : Unit → Shared → Prop} (at_C : h.get? C = some (excClassObj nm q C N bs bm hdct sn sub ab col dd k0 k1 k2 k3 k5 newId)) (ok : Q () ⟨h, g, d, t, os⟩) :
    wpAny M A (checkBuiltinCall newId ⟨.ref C :: rest, kw⟩) Q E ⟨h, g, d, t, os⟩ := by
  have has : (Value.ref C :: bm).contains (.type B) = true := by rw [List.contains_cons, same, F.hasB, Bool.or_true]
  have ns := F.noStar
  simp only [checkBuiltinCall, F.newKind, F.newSplit, F.newRow]
  repeat (first | refine wpAny_loadPart_at at_C ?_ | (refine wpAny_isSubtype_exc at_C ?_; rw [has]) | refine wpAny_staticBase_exc at_C ?_ | refine wpAny_madeBy_exc at_C ?_ | simp only [bne_self_eq_false, Bool.false_eq_true, if_false] | wp_step)
  exact ok
/-- the object that is born: of the class C, its arguments a new tuple -/
theorem kw_born (F : ExcBaseFacts B newId initId bmB) (same : ∀ X : String, bm.contains (.type X) = bmB.contains (.type X)) (at_C : h.get? C = some (excClassObj nm q C N bs bm hdct sn sub ab col dd k0 k1 k2 k3 k5 newId)) (small : rest.length ≤ sizeLine)
    (ok : R (.ok (.ret (.ref (h.objs.size + 1)))) ⟨(h.push (W.kdv_tup rest)).push (excO C h.objs.size), g, d, t, os⟩) :
    codeAny (model prog w) A (.builtin newId ⟨.ref C :: rest, kw⟩) R ⟨h, g, d, t, os⟩ := by
  have fin := F.ends
  have b1 : (Value.ref C :: bm).contains (.type B) = true := by rw [List.contains_cons, same, F.hasB, Bool.or_true]
  have b2 : (Value.ref C :: bm).contains (.type "AttributeError") = false := by rw [List.contains_cons, same, F.noAttr]; rfl
  have b3 : (Value.ref C :: bm).contains (.type "NameError") = false := by rw [List.contains_cons, same, F.noName]; rfl
  refine codeAny_builtinAt F.entry ?_; unfold Builtin.«BaseException.__new__»
  refine PySem.wpAt_bind ?_; show PySem.wpAt _ _ _ (stack >>= _) _ _ _
  refine PySem.wpAt_bind (PySem.wpAt_stack fun p below => PySem.wpAt_of_wpAny ?_); wp_walk
  refine PySem.wpAt_of_wpAny ?_; rw [F.owner]
  repeat (first | with_reducible refine wpAny_madeHere_exc F.canon at_C ?_ | with_reducible refine wpAny_loadPart_at at_C ?_ | (with_reducible refine wpAny_isSubtype_exc at_C ?_; first | rw [b1] | rw [b2] | rw [b3]) | wp_step)
  show R _ _; rw [Heap.size_push]
  exact ok
theorem kw_typed (F : ExcBaseFacts B newId initId bmB) (same : ∀ X : String, bm.contains (.type X) = bmB.contains (.type X)) {fI : Addr} {Q : Fin → Shared → Prop} (at_C : h.get? C = some (excClassObj nm q C N bs bm hdct sn sub ab col dd k0 k1 k2 k3 k5 newId)) (small : rest.length ≤ sizeLine)
    (init : W.Looks (model prog w) h (typeLookup (.ref C) "__init__") (some (.ref fI))) (bound : ∀ self, W.Looks (model prog w) h (bindSpecial (.ref fI) self) (.ref fI, [self]))
    (ok : codeAny (model prog w) A (.call (.ref fI) ⟨.ref (h.objs.size + 1) :: rest, kw⟩) (fun r s' => match r with | .ok (.ret v) => v = .none ∧ Q (.done (.ret (.ref (h.objs.size + 1)))) s' | .ok _ => False | .error e => E e s') ⟨(h.push (W.kdv_tup rest)).push (excO C h.objs.size), g, d, t, os⟩) :
    wpAny (model prog w) A (Builtin.«type.__call__» ⟨.ref C :: rest, kw⟩) Q E ⟨h, g, d, t, os⟩ := by
  repeat (first | with_reducible refine wpAny_loadPart_at at_C ?_ | with_reducible refine wpAny_madeBy_exc at_C ?_ | wp_step)
  refine codeAny_call_builtin_code (Code.quiet_builtin _ F.quiet) (kw_check_new F same at_C (kw_born F same at_C small ?_))
  show wpAny _ _ _ _ _ _
  have old : ∀ b o, h.get? b = some o → ((h.push (W.kdv_tup rest)).push (excO C h.objs.size)).get? b = some o := fun b o e => Heap.get?_push_of_some _ (Heap.get?_push_of_some _ e)
  have new : ((h.push (W.kdv_tup rest)).push (excO C h.objs.size)).get? (h.objs.size + 1) = some (excO C h.objs.size) := by heap_get
  have at_C2 := old _ _ at_C
  have self_has : (Value.ref C :: bm).contains (.ref C) = true := by simp
  have bd := (bound (.ref (h.objs.size + 1))).keeps old
  unfold isInstance
  repeat (first | with_reducible refine wpAny_loadPart_at new ?_ | (with_reducible refine wpAny_isSubtype_exc at_C2 ?_; rw [self_has]) | wp_step)
  show wpAny _ _ (typeLookup (.ref C) _) _ _ _
  refine (init.keeps old).at (wpAny_holding (wpAny_bind (bd.at (wpAny_bind (wpAny_call (codeAny_mono ok fun r s' z => ?_))))))
  rcases r with e | (v | _ | _ | _) <;> first | exact z | exact z.elim | skip
  obtain ⟨rfl, z⟩ := z
  first
    | exact wpAny_pure (wpAny_pure z)
    | (wp_walk; exact z)
theorem kw_check_call {Q : Unit → Shared → Prop} (at_C : h.get? C = some (excClassObj nm q C N bs bm hdct sn sub ab col dd k0 k1 k2 k3 k5 newId)) (ok : Q () ⟨h, g, d, t, os⟩) : wpAny M A (checkBuiltinCall "type.__call__" ⟨.ref C :: rest, kw⟩) Q E ⟨h, g, d, t, os⟩ := by
  have f3 := tc_sub
  have ty : (⟨h, g, d, t, os⟩ : Shared).TypeIs (.ref C) "type" := ⟨_, at_C, rfl⟩
  simp only [checkBuiltinCall, tc_kind, tc_split]
  repeat (first | with_reducible assumption | with_reducible refine wpAny_loadPart_at at_C ?_ | wp_step)
theorem kw_called (F : ExcBaseFacts B newId initId bmB) (same : ∀ X : String, bm.contains (.type X) = bmB.contains (.type X)) {fI : Addr} (at_C : h.get? C = some (excClassObj nm q C N bs bm hdct sn sub ab col dd k0 k1 k2 k3 k5 newId)) (small : rest.length ≤ sizeLine)
    (init : W.Looks (model prog w) h (typeLookup (.ref C) "__init__") (some (.ref fI))) (bound : ∀ self, W.Looks (model prog w) h (bindSpecial (.ref fI) self) (.ref fI, [self]))
    (ok : codeAny (model prog w) (A.under (.builtin "type.__call__" ⟨.ref C :: rest, kw⟩)) (.call (.ref fI) ⟨.ref (h.objs.size + 1) :: rest, kw⟩) (W.InitBack (h.objs.size + 1) R) ⟨(h.push (W.kdv_tup rest)).push (excO C h.objs.size), g, d, t, os⟩) :
    codeAny (model prog w) A (.call (.ref C) ⟨rest, kw⟩) R ⟨h, g, d, t, os⟩ := by
  have f1 := tc_lookup
  have f2 := tc_bind (.ref C)
  have ty : (⟨h, g, d, t, os⟩ : Shared).TypeIs (.ref C) "type" := ⟨_, at_C, rfl⟩
  refine codeAny_of_tree ?_; show wpAny _ _ (callAny (.ref C) _) _ _ _
  repeat (any_goals (first | assumption | with_reducible refine wpAny_loadPart_at at_C ?_ | wp_step))
  refine ⟨rfl, codeAny_call_builtin_at (Code.quiet_builtin _ (by decide +kernel)) entry_typeCall (kw_check_call at_C (kw_typed F same at_C small init bound (codeAny_mono ok fun r s' z => ?_)))⟩
  rcases r with e | (v | _ | _ | _) <;> exact z
end
end K52
end

section
set_option maxHeartbeats 4000000
/-! own exceptions: fields stored, made, held as values -/
namespace K52
open PySem PySem.Spec PyProof.Rows L2
section
open PySem.W PySem.Calls PySem.HandSPX Builtin Builtin.ObjectAttr
variable {prog : Program} {w : World} {A : Around} {E : Value → Shared → Prop} {R : Result → Shared → Prop} {hp : Heap} {g : Array GenState} {d : Drawn} {t : Nat} {os : OsState} {K : Frag} {name : Str} {tk : Tok} {v : Value} {x C dx : Addr} {fv : Array Value} {cd : ClassData} {ox : Obj} {od : Option Obj}
theorem own_store (X : K.In hp) (I : InstAt hp x ox C od) (hcd : clsIn K C = some cd) (pass : refuseLoop (.ref x) "__setattr__" cd.mro = pure ()) (obj : mroIn K C (.type "object") = some true) (ha : findIn K (.ref C) name = some none)
    (ok : wpAny (model prog w) A.in1 (storeInOwnDict (.ref x) (.ref C) (.str name tk) name v false) (fun fin s' => match fin with | .done f => R (.ok f) s' | .again c' => c'.quiet = true ∧ codeAny (model prog w) A c' R s') (fun e s' => R (.error e) s') ⟨hp, g, d, t, os⟩) :
    codeAny (model prog w) A (.call (.builtin "object.__setattr__") ⟨[.ref x, .str name tk, v], []⟩) R ⟨hp, g, d, t, os⟩ := by
  have S := F.store_object
  have isobj : Looks (model prog w) hp (isInstance (.ref x) (.type "object")) true := I.type.andThen (looks_mroIn X obj)
  have row : Looks (model prog w) hp (mroOf (.ref C)) cd.mro := (looks_clsIn X hcd).andThen .now
  have takes : Looks (model prog w) hp (storeTaker? none) none := .now
  refine codeAny_call_builtin S.slot.plain S.entry (@check_slot (model prog w) _ _ ⟨hp, g, d, t, os⟩ "object.__setattr__" "object" "__setattr__" (.ref x) [.str name tk, v] [] _ S.kind S.split isobj (S.args (.ref x) (.str name tk) v) ?_)
  rw [osa_eq, refuse_eq]; refine wpAny_bind (wpAny_bind (I.type.at (wpAny_bind (row.at ?_)))); rw [pass]
  exact wpAny_pure (wpAny_bind (I.type.at (wpAny_bind ((looks_findIn X ha).at (wpAny_bind (takes.at ok))))))
/-- the first field -/
theorem own_new (X : K.In hp) (at_x : hp.get? x = some { cls := .ref C, data := .fields fv }) (hcd : clsIn K C = some cd) (pass : refuseLoop (.ref x) "__setattr__" cd.mro = pure ()) (obj : mroIn K C (.type "object") = some true) (hh : cd.hasDict = true) (ha : findIn K (.ref C) name = some none)
    (ok : ∀ h' tk' dx, (∀ b o, b ≠ x → hp.get? b = some o → h'.get? b = some o) → hp.objs.size ≤ dx → dx ≠ x → h'.get? x = some { cls := .ref C, dict := some dx, data := .fields fv } → h'.Ns1 dx (fun y => if y = name then some v else none) → R (.ok (.ret .none)) ⟨h', g, d, tk', os⟩) :
    codeAny (model prog w) A (.call (.builtin "object.__setattr__") ⟨[.ref x, .str name tk, v], []⟩) R ⟨hp, g, d, t, os⟩ := by
  have big : x ≠ hp.objs.size := Nat.ne_of_lt (Heap.lt_size at_x)
  have cl : Looks (model prog w) hp (classData C) cd := looks_clsIn X hcd
  refine own_store (od := none) X ⟨at_x, rfl, rfl, trivial⟩ hcd pass obj ha ?_
  obtain ⟨nm, bs, mro, ns, qn, hd, sn, sb, ab, col, del⟩ := cd
  dsimp only at hh; subst hh; unfold storeInOwnDict ownDictForStores
  repeat (first | with_reducible refine store_in_new ?_ ?_ | with_reducible refine wpAny_loadPart_at at_x ?_ | with_reducible refine cl.at ?_ | wp_step)
  · refine ⟨_, #[], _, (Heap.get?_update_ne _ _ _ _ big.symm).trans (Heap.get?_push_at rfl rfl), rfl, ?_, fun _ => rfl⟩
    exact fun e he => absurd he (by simp)
  · intro h' tk' names but
    have at_x2 : (hp.push { cls := .type "dict", data := .dict #[] }).get? x = some { cls := .ref C, data := .fields fv } := Heap.get?_push_of_some _ at_x
    exact ok h' tk' hp.objs.size (fun b o hb ho => (but.2 b (Nat.ne_of_lt (Heap.lt_size ho))).trans ((Heap.get?_update_ne _ _ _ _ hb).trans (Heap.get?_push_of_some _ ho))) (Nat.le_refl _) big.symm ((but.2 x big).trans (Heap.get?_update_self _ at_x2 rfl)) names
/-- a further field -/
theorem own_old {m0 : Str → Option Value} {nl : List Str} (X : K.In hp) (at_x : hp.get? x = some { cls := .ref C, dict := some dx, data := .fields fv }) (ns : hp.Ns1 dx m0) (wi : Within m0 nl) (few : nl.length ≤ 1000) (hcd : clsIn K C = some cd) (pass : refuseLoop (.ref x) "__setattr__" cd.mro = pure ())
    (obj : mroIn K C (.type "object") = some true) (hh : cd.hasDict = true) (ha : findIn K (.ref C) name = some none)
    (ok : ∀ h' tk', (∀ b o, b ≠ dx → hp.get? b = some o → h'.get? b = some o) → h'.Ns1 dx (fun y => if y = name then some v else m0 y) → R (.ok (.ret .none)) ⟨h', g, d, tk', os⟩) :
    codeAny (model prog w) A (.call (.builtin "object.__setattr__") ⟨[.ref x, .str name tk, v], []⟩) R ⟨hp, g, d, t, os⟩ := by
  obtain ⟨oD, _, _, at_d, _, _⟩ := ns.count wi
  have cl : Looks (model prog w) hp (classData C) cd := looks_clsIn X hcd
  refine own_store (od := some oD) X ⟨at_x, rfl, rfl, at_d⟩ hcd pass obj ha ?_
  obtain ⟨nm, bs, mro, ns', qn, hd, sn, sb, ab, col, del⟩ := cd
  dsimp only at hh; subst hh; unfold storeInOwnDict ownDictForStores
  repeat (first | with_reducible refine PySem.OEX.store_in_old ns wi few ?_ | with_reducible refine wpAny_loadPart_at at_x ?_ | with_reducible refine cl.at ?_ | wp_step)
  exact fun h' tk' names but => ok h' tk' (fun b o hb ho => (but.2 b hb).trans ho) names
end
end K52
end

section
set_option maxHeartbeats 4000000
/-! the makers of own exceptions: self.f = f -/
namespace K52
open PySem PySem.Spec PyProof.Rows L2
section
open PySem.W PySem.Calls PySem.HandSPX
/-- what the written part says of an own exception class at C, over a built-in base -/
structure XB (K : Frag) (C : Addr) (bmB : List Value) (newId : String) : Prop where
  cls : ∃ nm q N bs bm sn sub ab col dd k0 k1 k2 k3 k5, K.lookup C = some (excClassObj nm q C N bs bm true sn sub ab col dd k0 k1 k2 k3 k5 newId) ∧ refsTo bmB bm = true
  ec : EC K C
  sa : findIn K (.ref C) "__setattr__" = some (some (.builtin "object.__setattr__"))
  ty : typeIn K (.ref C) = some (.type "type")
  kp : keepIn K (.ref C) = true
/-- .. and of the def at fI that makes it -/
structure XI (K : Frag) (C fI : Addr) : Prop where
  ini : findIn K (.ref C) "__init__" = some (some (.ref fI))
  fty : typeIn K (.ref fI) = some (.type "function")
/-- the base -/
structure Bs (B newId initId : String) (bmB : List Value) : Prop where
  F : ExcBaseFacts B newId initId bmB
  pass : ∀ self, refuseLoop self "__setattr__" bmB = pure ()
/-- an exception as it is made: its own dict at d holds the fields m -/
structure Born (h h' : Heap) (e C d : Addr) (m : Str → Option Value) : Prop where
  keep : ∀ b o, h.get? b = some o → h'.get? b = some o
  new : h.objs.size ≤ e
  obj : ∃ t1 : Addr, h'.get? e = some ({ cls := .ref C, dict := some d, data := .fields #[.ref t1, .none, .none, .none, .bool false, .none] } : Obj)
  big : h.objs.size ≤ d
  ne : d ≠ e
  ns : h'.Ns1 d m
structure Made (h h' : Heap) (x C dx t1 : Addr) (m : Str → Option Value) : Prop where
  keep : ∀ b o, b ≠ x → h.get? b = some o → h'.get? b = some o
  obj : h'.get? x = some ({ cls := .ref C, dict := some dx, data := .fields #[.ref t1, .none, .none, .none, .bool false, .none] } : Obj)
  big : h.objs.size ≤ dx
  ne : dx ≠ x
  ns : h'.Ns1 dx m
variable {prog : Program} {w : World} {A : Around} {R : Result → Shared → Prop} {s : Shared} {K : Frag} {C fI : Addr} {bmB : List Value} {B newId initId : String}
theorem XB.data (T : XB K C bmB newId) (b : Bs B newId initId bmB) : ∃ cd, clsIn K C = some cd ∧ (∀ self, refuseLoop self "__setattr__" cd.mro = pure ()) ∧ cd.hasDict = true := by
  obtain ⟨nm, q, N, bs, bm, sn, sub, ab, col, dd, k0, k1, k2, k3, k5, hC, hbm⟩ := T.cls
  refine ⟨{ name := nm, bases := bs, mro := .ref C :: bm, ns := N, qualname := q, hasDict := true, slotNames := sn, subclasses := sub, abstract := ab, collection := col, hasDel := false }, by unfold clsIn; rw [hC] <;> rfl, fun self => ?_, rfl⟩
  exact refsTo_pass self (b.pass self) (.ref C :: bm) hbm
theorem ldN {M : Model} {s : Shared} {name : Str} {scope : Scope} {L a : Addr} {cd : Value} {m : Str → Option Value} {x : Str} {pos : Pos} {v : Value} {Q : Value → Shared → Prop} {A : Around} {E : Value → Shared → Prop} (hn : s.heap.Ns L m) (hv : m x = some v) (h : Q v s)
    (hk : scope.kind = .function := by rfl) (hl : (envOfC name scope L a cd).kindOf x = some .local := by rfl) (hd : (x == ("__debug__" : Str)) = false := by decide) : wpAny M A (eval (.Name x pos) (envOfC name scope L a cd)) Q E s := wpAny_Name (wpAny_loadName_local hk hl hn hv h) hd
/-- from the maker's run to the made exception; kw: how it is called -/
theorem born_of (T : XB K C bmB newId) (b : Bs B newId initId bmB) (I : XI K C fI) {rest : List Value} {kw : List (Str × Value)} {m : Str → Option Value} (X : K.In s.heap) (few : rest.length ≤ sizeLine)
    (run : ∀ (A' : Around) (R' : Result → Shared → Prop) (s1 : Shared) (x t1 : Addr), K.In s1.heap → s1.heap.NoLimit → s1.heap.get? x = some (excO C t1) → K.lookup x = none → A'.depth < recursionLimit → (∀ h' tk dx, Made s1.heap h' x C dx t1 m → R' (.ok (.ret .none)) { s1 with heap := h', toks := tk }) →
      codeAny (model prog w) A' (.call (.ref fI) ⟨.ref x :: rest, kw⟩) R' s1)
    (nl : s.heap.NoLimit) (room : A.depth + 1 < recursionLimit) (ok : ∀ h' tk e d, Born s.heap h' e C d m → R (.ok (.ret (.ref e))) { s with heap := h', toks := tk }) : codeAny (model prog w) A (.call (.ref C) ⟨rest, kw⟩) R s := by
  obtain ⟨nm, q, N, bs, bm, sn, sub, ab, col, dd, k0, k1, k2, k3, k5, hC, hbm⟩ := T.cls
  obtain ⟨hp, g, dr, tk, os⟩ := s
  have old : ∀ b o, hp.get? b = some o → ((hp.push (kdv_tup rest)).push (excO C hp.objs.size)).get? b = some o := fun b o e => Heap.get?_push_of_some _ (Heap.get?_push_of_some _ e)
  have got : ((hp.push (kdv_tup rest)).push (excO C hp.objs.size)).get? (hp.objs.size + 1) = some (excO C hp.objs.size) := by heap_get
  have none : K.lookup (hp.objs.size + 1) = none := by
    cases e : K.lookup (hp.objs.size + 1) with
    | none => rfl
    | some o =>
      have z : hp.get? (hp.objs.size + 1) = some o := X _ _ e
      exact absurd (Nat.lt_of_succ_lt (Heap.lt_size z)) (Nat.lt_irrefl _)
  refine kw_called b.F (fun Y => refsTo_has Y bm hbm) (X _ _ hC) few (looks_findIn X I.ini) (fun self => bind_fn X self I.fty) ?_
  refine run _ _ ⟨(hp.push (kdv_tup rest)).push (excO C hp.objs.size), g, dr, tk, os⟩ (hp.objs.size + 1) hp.objs.size (X.keeps old) (nl.keeps old) got none ?_ fun h' tk' dx M => ?_
  · first
      | exact room
      | (show (A.under (.builtin "type.__call__" ⟨.ref C :: rest, kw⟩)).depth < recursionLimit
         rw [make_depth]; exact room)
  · have grown : hp.objs.size + 1 + 1 ≤ dx := by
      have z := M.big
      rw [Heap.size_push, Heap.size_push] at z; exact z
    exact ⟨rfl, ok h' tk' (hp.objs.size + 1) dx ⟨fun b o e => M.keep b o (Nat.ne_of_lt (Nat.lt_succ_of_lt (Heap.lt_size e))) (old b o e), Nat.le_succ _, ⟨_, M.obj⟩, Nat.le_trans (Nat.le_trans (Nat.le_succ _) (Nat.le_succ _)) grown, M.ne, M.ns⟩⟩

def aI_value (p1 p2 : Pos) : Arguments := { posonlyargs := [], args := [{ arg := "self", annotation := none, pos := p1 }, { arg := "value", annotation := none, pos := p2 }], vararg := none, kwonlyargs := [], kw_defaults := [], kwarg := none, defaults := [] }
def bI_value (q1 q2 q3 q4 : Pos) : List Stmt := [.Assign [.Attribute (.Name "self" q1) "value" q2] (.Name "value" q3) q4]
def sI_value : Scope := { kind := .function, names := [(PySem.Str.ofString "self", .local), (PySem.Str.ofString "value", .local)], isGenerator := false, isCoroutine := false, more := [] }
structure XF_value (K : Frag) (C fI : Addr) : Prop where
  no : findIn K (.ref C) "value" = some none
  fn : ∃ (oc : Value) (od : Option Addr) (doc pm : Value) (an : Option Addr) (cdv ct : Value) (osl : Array (Option Value)) (qual : Str) (p1 p2 q1 q2 q3 q4 : Pos),
    K.lookup fI = some ⟨oc, od, .func (fnOf "__init__" qual (aI_value p1 p2) (bI_value q1 q2 q3 q4) sI_value .none .none doc pm an cdv ct), osl⟩ ∧ codeIn K cdv qual = true
theorem run_value (T : XB K C bmB newId) (b : Bs B newId initId bmB) (F : XF_value K C fI) {x t0 : Addr} {v : Value} {pos : List Value} {kw : List (Str × Value)} (form : (pos = [v] ∧ kw = []) ∨ (pos = [] ∧ kw = [(("value" : Str), v)])) (X : K.In s.heap) (nl : s.heap.NoLimit) (at_x : s.heap.get? x = some (excO C t0)) (out : K.lookup x = none) (room : A.depth < recursionLimit)
    (ok : ∀ h' tk dx, Made s.heap h' x C dx t0 (fun y => if y = "value" then some v else none) → R (.ok (.ret .none)) { s with heap := h', toks := tk }) : codeAny (model prog w) A (.call (.ref fI) ⟨.ref x :: pos, kw⟩) R s := by
  obtain ⟨oc, od, doc, pm, an, cdv, ct, osl, qual, p1, p2, q1, q2, q3, q4, ho, hcd⟩ := F.fn
  obtain ⟨cd, hcl, pass, hh⟩ := T.data b
  have bd : BindsTo s (fnOf "__init__" qual (aI_value p1 p2) (bI_value q1 q2 q3 q4) sI_value .none .none doc pm an cdv ct) ⟨.ref x :: pos, kw⟩ [("self", .ref x), ("value", v)] := by
    rcases form with ⟨rfl, rfl⟩ | ⟨rfl, rfl⟩
    · exact BindsTo.of_eq (by first | rfl | with_unfolding_all rfl)
    · exact BindsTo.of_eq (by first | rfl | with_unfolding_all rfl)
  refine Att.call_fn (binds := [("self", .ref x), ("value", v)]) X nl ho hcd room bd (by first | rfl | decide | with_unfolding_all rfl) (fun s₁ IC => ?_) rfl rfl rfl
  obtain ⟨h₁, tk₁, rfl⟩ := IC.toInCall.same
  have old : ∀ b o, s.heap.get? b = some o → h₁.get? b = some o := IC.toInCall.keep
  have nsL := IC.toInCall.ns
  have Y : K.In h₁ := X.keeps old
  show wpAny _ _ (execs _ _) _ _ _
  refine wpAny_execs_cons (plainObj_wpAny_Assign_Attribute (ldN (v := v) nsL (by first | rfl | with_unfolding_all rfl | kernel_rfl) (ldN (v := .ref x) nsL (by first | rfl | with_unfolding_all rfl | kernel_rfl) ?_)))
  refine set_plain Y (ox := excO C t0) (od := none) ⟨old _ _ at_x, rfl, rfl, trivial⟩ T.sa (own_new Y (old _ _ at_x) hcl (pass _) T.ec.ob hh F.no fun h₃ tk₃ dx k₃ dn dne at3 ns3 => ?_)
  show wpAny _ _ (execs _ _) _ _ _
  exact wpAny_execs_nil (ok h₃ tk₃ dx ⟨fun b o hb e => k₃ b o hb (old b o e), at3, Nat.le_of_lt (Nat.lt_of_lt_of_le nsL.lt dn), dne, ns3⟩)

def aJ_what_limit (p1 p2 p3 : Pos) : Arguments := { posonlyargs := [], args := [{ arg := "self", annotation := none, pos := p1 }, { arg := "what", annotation := none, pos := p2 }, { arg := "limit", annotation := none, pos := p3 }], vararg := none, kwonlyargs := [], kw_defaults := [], kwarg := none, defaults := [] }
def bJ_what_limit (q1 q2 q3 q4 r1 r2 r3 r4 : Pos) : List Stmt := [.Assign [.Attribute (.Name "self" q1) "what" q2] (.Name "what" q3) q4, .Assign [.Attribute (.Name "self" r1) "limit" r2] (.Name "limit" r3) r4]
def sJ_what_limit : Scope := { kind := .function, names := [(PySem.Str.ofString "self", .local), (PySem.Str.ofString "what", .local), (PySem.Str.ofString "limit", .local)], isGenerator := false, isCoroutine := false, more := [] }
structure XF_what_limit (K : Frag) (C fI : Addr) : Prop where
  noA : findIn K (.ref C) "what" = some none
  noB : findIn K (.ref C) "limit" = some none
  fn : ∃ (oc : Value) (od : Option Addr) (doc pm : Value) (an : Option Addr) (cdv ct : Value) (osl : Array (Option Value)) (qual : Str) (p1 p2 p3 q1 q2 q3 q4 r1 r2 r3 r4 : Pos),
    K.lookup fI = some ⟨oc, od, .func (fnOf "__init__" qual (aJ_what_limit p1 p2 p3) (bJ_what_limit q1 q2 q3 q4 r1 r2 r3 r4) sJ_what_limit .none .none doc pm an cdv ct), osl⟩ ∧ codeIn K cdv qual = true
def mJ_what_limit (u v : Value) : Str → Option Value := fun y => if y = "limit" then some v else if y = "what" then some u else none
theorem run_what_limit (T : XB K C bmB newId) (b : Bs B newId initId bmB) (F : XF_what_limit K C fI) {x t0 : Addr} {u v : Value} (X : K.In s.heap) (nl : s.heap.NoLimit) (at_x : s.heap.get? x = some (excO C t0)) (out : K.lookup x = none) (room : A.depth < recursionLimit)
    (ok : ∀ h' tk dx, Made s.heap h' x C dx t0 (mJ_what_limit u v) → R (.ok (.ret .none)) { s with heap := h', toks := tk }) : codeAny (model prog w) A (.call (.ref fI) ⟨[.ref x, u, v], []⟩) R s := by
  obtain ⟨oc, od, doc, pm, an, cdv, ct, osl, qual, p1, p2, p3, q1, q2, q3, q4, r1, r2, r3, r4, ho, hcd⟩ := F.fn
  obtain ⟨cd, hcl, pass, hh⟩ := T.data b
  have bd : BindsTo s (fnOf "__init__" qual (aJ_what_limit p1 p2 p3) (bJ_what_limit q1 q2 q3 q4 r1 r2 r3 r4) sJ_what_limit .none .none doc pm an cdv ct) ⟨[.ref x, u, v], []⟩ [("self", .ref x), ("what", u), ("limit", v)] := BindsTo.of_eq (by first | rfl | with_unfolding_all rfl)
  refine Att.call_fn (binds := [("self", .ref x), ("what", u), ("limit", v)]) X nl ho hcd room bd (by first | rfl | decide | with_unfolding_all rfl) (fun s₁ IC => ?_) rfl rfl rfl
  obtain ⟨h₁, tk₁, rfl⟩ := IC.toInCall.same
  have old : ∀ b o, s.heap.get? b = some o → h₁.get? b = some o := IC.toInCall.keep
  have nsL := IC.toInCall.ns
  have Y : K.In h₁ := X.keeps old
  show wpAny _ _ (execs _ _) _ _ _
  refine wpAny_execs_cons (plainObj_wpAny_Assign_Attribute (ldN (v := u) nsL (by first | rfl | with_unfolding_all rfl | kernel_rfl) (ldN (v := .ref x) nsL (by first | rfl | with_unfolding_all rfl | kernel_rfl) ?_)))
  refine set_plain Y (ox := excO C t0) (od := none) ⟨old _ _ at_x, rfl, rfl, trivial⟩ T.sa (own_new Y (old _ _ at_x) hcl (pass _) T.ec.ob hh F.noA fun h₃ tk₃ dx k₃ dn dne at3 ns3 => ?_)
  have neL : s.heap.objs.size ≠ x := Nat.ne_of_gt (Heap.lt_size at_x)
  have nsL3 := nsL.at fun o e => k₃ _ o neL e
  have Z : K.In h₃ := fun b o e => k₃ b o (fun z => by rw [z] at e; rw [out] at e; cases e) (Y b o e)
  have wi : Within (fun y => if y = ("what" : Str) then some u else none) ["what"] := fun y hy => by
    by_cases c : y = ("what" : Str)
    · rw [c]; exact List.mem_cons_self
    · exact absurd (if_neg c) hy
  obtain ⟨oD, _, _, at_d, _, _⟩ := ns3.count wi
  refine wpAny_execs_cons (plainObj_wpAny_Assign_Attribute (ldN (v := v) nsL3 (by first | rfl | with_unfolding_all rfl | kernel_rfl) (ldN (v := .ref x) nsL3 (by first | rfl | with_unfolding_all rfl | kernel_rfl) ?_)))
  refine set_plain Z (ox := { cls := .ref C, dict := some dx, data := .fields #[.ref t0, .none, .none, .none, .bool false, .none] }) (od := some oD) ⟨at3, rfl, rfl, at_d⟩ T.sa (own_old Z at3 ns3 wi (by decide) hcl (pass _) T.ec.ob hh F.noB fun h₄ tk₄ k₄ ns4 => ?_)
  show wpAny _ _ (execs _ _) _ _ _
  have low : s.heap.objs.size ≤ dx := Nat.le_of_lt (Nat.lt_of_lt_of_le nsL.lt dn)
  refine wpAny_execs_nil (ok h₄ tk₄ dx ⟨fun b o hb e => k₄ b o ?_ (k₃ b o hb (old b o e)), k₄ _ _ dne.symm at3, low, dne, ns4⟩)
  exact Nat.ne_of_lt (Nat.lt_of_lt_of_le (Heap.lt_size e) low)
end
end K52
end

section
set_option maxHeartbeats 4000000
/-! own exceptions raised with fields, and asked in an except suite -/
namespace K52
open PySem PySem.Spec PyProof.Rows L2
/-- the exception at a of the class C, its fields at d -/
def put2 (H : Hp) (a C d : Addr) (fs : List (Str × V)) : Hp := upd (upd H d (exd d fs)) a (exo a C (some d))
section
variable {X : Cx} {C fI : Addr} {bmB : List Value} {B newId initId : String} {x : Str} {p pos : Pos}
theorem held {pins : List (Addr × Obj)} {σ : L2.St} {H : Hp} {s : Shared} {h' : Heap} {e d : Addr} {m : Str → Option Value} {fs : List (Str × V)} {tk : Nat} (I : L2.Inv X pins σ H s) (M : Born s.heap h' e C d m) (rel : ∀ f, RelO (fs.lookup f) (m f)) :
    L2.Inv X pins σ (put2 H e C d fs) { s with heap := h', toks := tk } ∧ H e = none ∧ H d = none := by
  obtain ⟨G, g1, g2⟩ := restrict h' fun b => decide (b ≠ e)
  have gk : ∀ b, b ≠ e → G.get? b = h'.get? b := fun b hb => g1 b (decide_eq_true hb)
  have ge : G.get? e = none := g2 e (by simp)
  have old : ∀ b o, s.heap.get? b = some o → G.get? b = some o := fun b o q => (gk b (Nat.ne_of_lt (Nat.lt_of_lt_of_le (Heap.lt_size q) M.new))).trans (M.keep b o q)
  have up : ∀ b o, G.get? b = some o → h'.get? b = some o := fun b o q => by
    by_cases hb : b = e
    · rw [hb, ge] at q; cases q
    · exact (gk b hb).symm.trans q
  have he := I.hok.fresh M.new
  have hd := I.hok.fresh M.big
  obtain ⟨t1, ho⟩ := M.obj
  have I1 : L2.Inv X pins σ (upd H d (exd d fs)) { s with heap := G, toks := tk } := I.laid old M.big (exd_ok (M.ns.at fun o q => (gk d M.ne).trans q) rel)
  have n2 : upd H d (exd d fs) e = none := by rw [upd_ne M.ne.symm]; exact he
  exact ⟨I1.laidN (t' := tk) up ge n2 (exo_ok ho), he, hd⟩
theorem rel1 {f : Str} {y : V} {v : Value} (r : RelV y v) (g : Str) : RelO (List.lookup g [(f, y)]) (if g = f then some v else none) := by
  have := relO_put (fs := []) (mA := fun _ => none) r (fun _ => True.intro) (f := f) g
  exact this
theorem rel2 {a b : Str} {y z : V} {u v : Value} (r : RelV y u) (q : RelV z v) (g : Str) : RelO (List.lookup g [(b, z), (a, y)]) (if g = b then some v else if g = a then some u else none) := relO_put q (fun g => rel1 r g) g
end
section
variable {X : Cx} {C fI : Addr} {bmB : List Value} {B newId initId : String} {x : Str} {p pos : Pos}
/-- raise C(e): the error's own dict d holds the value -/
def tRv (C : Addr) (ta : TA) : L2.St → Hp → XK → Prop := fun σ H Q => ta σ H fun vs H1 => ∃ y, vs = [y] ∧ ∀ d, H1 d = none → Q (.ref C) (some d) (upd H1 d (.xd [(("value" : Str), y)]))
theorem pmk_value {e : Expr} {ta : TA} {k : Nat} (T : XB X.K C bmB newId) (b : Bs B newId initId bmB) (J : XI X.K C fI) (F : XF_value X.K C fI) (hr : Room k X.A) (hg : Gl X x) (hm : X.mg x = some (.ref C)) (he : PA X [e] ta) (hdb : (x == ("__debug__" : Str)) = false := by decide)
    (hs : starEach [e] X.env = (false, eval e X.env) :: starEach [] X.env := by rfl) (hpl : (backTo pos (starEach [] X.env)).any (·.1) = false := by rfl) : PMk X (.Call (.Name x p) [e] [] pos) (tRv C ta) := by
  intro pins s σ H Q I h
  refine wpAny_Call_Name_kw (ld_glob I hg hm (PySem.W.callWith_K (h₀ := X.base) I.ok.mod.kin T.kp (thn (he.run pos pins s σ H _ I h) fun us s1 hh => ?_) hs hpl) hdb)
  obtain ⟨vs, H1, I1, r, y, rfl, q⟩ := hh
  cases r with
  | @cons _ v0 _ ur rv rr =>
    cases rr
    refine ⟨I1.kIn, wpAny_call (born_of (rest := [v0]) (kw := []) T b J I1.kIn (by show 1 ≤ sizeLine; decide) (fun A' R' s1 x t1 h1 h2 h3 h4 h5 h6 => run_value T b F (.inl ⟨rfl, rfl⟩) h1 h2 h3 h4 h5 h6) I1.nolimit (by have := hr.dp; omega) fun h' tk e d M => ?_)⟩
    obtain ⟨G, g1, g2⟩ := restrict h' fun b => decide (b ≠ e)
    have gk : ∀ b, b ≠ e → G.get? b = h'.get? b := fun b hb => g1 b (decide_eq_true hb)
    have ge : G.get? e = none := g2 e (by simp)
    have old : ∀ b o, s1.heap.get? b = some o → G.get? b = some o := fun b o z => (gk b (Nat.ne_of_lt (Nat.lt_of_lt_of_le (Heap.lt_size z) M.new))).trans (M.keep b o z)
    have up : ∀ b o, G.get? b = some o → h'.get? b = some o := fun b o z => by
      by_cases hb : b = e
      · rw [hb, ge] at z; cases z
      · exact (gk b hb).symm.trans z
    have ob : ObjOk X.prog X.w (upd H1 d (.xd [(("value" : Str), y)])) G d (.xd [(("value" : Str), y)]) := ⟨_, M.ns.at (fun o z => (gk d M.ne).trans z), fun f => rel1 rv f⟩
    have I2 : L2.Inv X pins σ (upd H1 d (.xd [(("value" : Str), y)])) { s1 with heap := G, toks := tk } := I1.laid (t' := tk) old M.big ob
    obtain ⟨t1, ho⟩ := M.obj
    have ne : (upd H1 d (.xd [(("value" : Str), y)])) e = none := by rw [upd_ne M.ne.symm]; exact I1.hok.fresh M.new
    exact ⟨e, _, _, { s1 with heap := G, toks := tk }, _, .ref C, some d, rfl, I2, up, ge, ho, ⟨rfl, rfl⟩, rfl, rfl, ne, rfl, I1.bare, raises_own T.ec.be T.ty, q d (I1.hok.fresh M.big)⟩
/-- raise C(e, f) -/
def tRw (C : Addr) (ta : TA) : L2.St → Hp → XK → Prop := fun σ H Q => ta σ H fun vs H1 => ∃ y z, vs = [y, z] ∧ ∀ d, H1 d = none → Q (.ref C) (some d) (upd H1 d (.xd [(("limit" : Str), z), (("what" : Str), y)]))
theorem pmk_what {e e2 : Expr} {ta : TA} {k : Nat} (T : XB X.K C bmB newId) (b : Bs B newId initId bmB) (J : XI X.K C fI) (F : XF_what_limit X.K C fI) (hr : Room k X.A) (hg : Gl X x) (hm : X.mg x = some (.ref C)) (he : PA X [e, e2] ta) (hdb : (x == ("__debug__" : Str)) = false := by decide)
    (hs : starEach [e, e2] X.env = (false, eval e X.env) :: starEach [e2] X.env := by rfl) (hpl : (backTo pos (starEach [e2] X.env)).any (·.1) = false := by rfl) : PMk X (.Call (.Name x p) [e, e2] [] pos) (tRw C ta) := by
  intro pins s σ H Q I h
  refine wpAny_Call_Name_kw (ld_glob I hg hm (PySem.W.callWith_K (h₀ := X.base) I.ok.mod.kin T.kp (thn (he.run pos pins s σ H _ I h) fun us s1 hh => ?_) hs hpl) hdb)
  obtain ⟨vs, H1, I1, r, y, z, rfl, q⟩ := hh
  cases r with
  | @cons _ v0 _ ur rv rr =>
    cases rr with
    | @cons _ v1 _ ur2 rw rr =>
    cases rr
    refine ⟨I1.kIn, wpAny_call (born_of (rest := [v0, v1]) (kw := []) T b J I1.kIn (by show 2 ≤ sizeLine; decide) (fun A' R' s1 x t1 h1 h2 h3 h4 h5 h6 => run_what_limit T b F h1 h2 h3 h4 h5 h6) I1.nolimit (by have := hr.dp; omega) fun h' tk e d M => ?_)⟩
    obtain ⟨G, g1, g2⟩ := restrict h' fun b => decide (b ≠ e)
    have gk : ∀ b, b ≠ e → G.get? b = h'.get? b := fun b hb => g1 b (decide_eq_true hb)
    have ge : G.get? e = none := g2 e (by simp)
    have old : ∀ b o, s1.heap.get? b = some o → G.get? b = some o := fun b o z => (gk b (Nat.ne_of_lt (Nat.lt_of_lt_of_le (Heap.lt_size z) M.new))).trans (M.keep b o z)
    have up : ∀ b o, G.get? b = some o → h'.get? b = some o := fun b o z => by
      by_cases hb : b = e
      · rw [hb, ge] at z; cases z
      · exact (gk b hb).symm.trans z
    have ob : ObjOk X.prog X.w (upd H1 d (.xd [(("limit" : Str), z), (("what" : Str), y)])) G d (.xd [(("limit" : Str), z), (("what" : Str), y)]) := ⟨_, M.ns.at (fun o z => (gk d M.ne).trans z), fun f => rel2 rv rw f⟩
    have I2 : L2.Inv X pins σ (upd H1 d (.xd [(("limit" : Str), z), (("what" : Str), y)])) { s1 with heap := G, toks := tk } := I1.laid (t' := tk) old M.big ob
    obtain ⟨t1, ho⟩ := M.obj
    have ne : (upd H1 d (.xd [(("limit" : Str), z), (("what" : Str), y)])) e = none := by rw [upd_ne M.ne.symm]; exact I1.hok.fresh M.new
    exact ⟨e, _, _, { s1 with heap := G, toks := tk }, _, .ref C, some d, rfl, I2, up, ge, ho, ⟨rfl, rfl⟩, rfl, rfl, ne, rfl, I1.bare, raises_own T.ec.be T.ty, q d (I1.hok.fresh M.big)⟩
end
section
variable {X : Cx} {a C : Addr} {oe : Obj} {d : Option Addr} {pn : List (Addr × Obj)}
theorem inst_pin {pins : List (Addr × Obj)} {σ : L2.St} {H : Hp} {s : Shared} {dd : Addr} {fs : List (Str × V)} (I : L2.Inv (X.suite a ((a, oe) :: pn)) pins σ H s) (hz : Zc (.ref C) (some dd) oe) (hf : ∃ vs, oe.data = .fields vs) (hd : H dd = some (.xd fs)) : ∃ od, PySem.W.InstAt s.heap a oe C od := by
  obtain ⟨ha, _⟩ := I.pin (a, oe) (List.mem_append_left _ List.mem_cons_self)
  obtain ⟨vs, hv⟩ := hf
  have hx : ObjOk X.prog X.w H s.heap dd (.xd fs) := I.hok dd _ hd
  obtain ⟨mA, ⟨o, es, ep, e, _⟩, _⟩ := hx
  refine ⟨some o, ha, hz.1, ?_, ?_⟩
  · unfold PySem.W.notCls
    rw [hv] <;> rfl
  · rw [hz.2]; exact e
/-- isinstance(e, c), e the caught error, with a dict of its own -/
def rIsC (K : PySem.W.Frag) (cls : Value) (C a : Addr) (d : Option Addr) : List V → Hp → VK → Prop := fun xs H Q => ∃ (dd : Addr) (fs : List (Str × V)) (c : V) (u : Value) (b : Bool), xs = [.ref a, c] ∧ cls = .ref C ∧ d = some dd ∧ H dd = some (.xd fs) ∧ EC K C ∧ ClsV c u ∧ PySem.W.kitOne K (.ref C) u = some b ∧ Q (.bl b) H
theorem call_isC {cls : Value} (hz : Zc cls d oe) (hf : ∃ vs, oe.data = .fields vs) : CallR (X.suite a ((a, oe) :: pn)) (.builtin "isinstance") (rIsC X.K cls C a d) := by
  intro pins s σ H xs us Q I r h
  obtain ⟨dd, fs, c, u, b, rfl, rfl, rfl, hd, ec, cv, e, q⟩ := h
  obtain ⟨u1, u2, rfl, r1, r2⟩ := vals2 r
  obtain rfl : u1 = Value.ref a := r1
  have e2 := cv.eq r2
  subst e2
  obtain ⟨od, J⟩ := inst_pin I hz hf hd
  exact PySem.W.kia_one (ec.kit (x := a) (od := od) (ox := oe)) I.kIn J e (fun z => nomatch z) fun tk => ⟨.bl b, H, I.tok tk, rfl, q⟩
def rIsCT (K : PySem.W.Frag) (cls : Value) (C a : Addr) (d : Option Addr) : List V → Hp → VK → Prop := fun xs H Q => ∃ (dd : Addr) (fs : List (Str × V)) (tp : Addr) (cs : List V) (us : List Value) (b : Bool), xs = [.ref a, .ref tp] ∧ cls = .ref C ∧ d = some dd ∧ H dd = some (.xd fs) ∧ EC K C ∧ H tp = some (.tup cs) ∧ Paired ClsV cs us ∧ PySem.W.kitAny K (.ref C) us = some b ∧ Q (.bl b) H
theorem call_isCT {cls : Value} (hz : Zc cls d oe) (hf : ∃ vs, oe.data = .fields vs) : CallR (X.suite a ((a, oe) :: pn)) (.builtin "isinstance") (rIsCT X.K cls C a d) := by
  intro pins s σ H xs us Q I r h
  obtain ⟨dd, fs, tp, cs, ws, b, rfl, rfl, rfl, hd, ec, hT, k, e, q⟩ := h
  obtain ⟨u1, u2, rfl, r1, r2⟩ := vals2 r
  obtain rfl : u1 = Value.ref a := r1
  obtain rfl : u2 = Value.ref tp := r2
  obtain ⟨od, J⟩ := inst_pin I hz hf hd
  obtain ⟨_, its, rv, o, h1, h2, n, h3⟩ := (show ObjOk X.prog X.w H s.heap tp (.tup cs) from I.hok tp _ hT)
  obtain rfl := ClsV.all k rv
  obtain ⟨oc, od2, dt, sl⟩ := o
  simp only at h2 h3
  subst h2 h3
  exact PySem.W.kia_tup (ec.kit (x := a) (od := od) (ox := oe)) I.kIn J h1 e (fun z => nomatch z) fun tk => ⟨.bl b, H, I.tok tk, rfl, q⟩
end
end K52
end

section
set_option maxHeartbeats 4000000
/-! several except clauses, each with the same name -/
namespace K52
open PySem PySem.Spec PyProof.Rows L2
def wManyAs (K : PySem.W.Frag) (i : Nat) (Wout : WX) (D : Ends) : List (Value × (Addr → Value → Option Addr → TS)) → WX
  | [] => Wout
  | (c, ts) :: r => wAs K c i ts (wManyAs K i Wout D r) D
inductive HdsAs (X : Cx) (n : Str) : List ExceptHandler → List (Value × (Addr → Value → Option Addr → TS)) → Prop
  | nil : HdsAs X n [] []
  | cons {x : Str} {c : Value} {ts : Addr → Value → Option Addr → TS} {b₀ : Stmt} {suite : List Stmt} {np pos' : Pos} {hds : List ExceptHandler} {l : List (Value × (Addr → Value → Option Addr → TS))} (hc : Names X x c)
      (hsu : ∀ (a : Addr) (oe : Obj) (cls : Value) (d : Option Addr) (pn : List (Addr × Obj)), Zc cls d oe → (∃ vs, oe.data = .fields vs) → PSs (X.suite a ((a, oe) :: pn)) (b₀ :: suite) (ts a cls d)) (r : HdsAs X n hds l) :
      HdsAs X n (.ExceptHandler (some (.Name x np)) (some n) (b₀ :: suite) pos' :: hds) ((c, ts) :: l)
section
variable {X : Cx} {n : Str} {i : Nat} {body : List Stmt} {h₀ : ExceptHandler} {hds : List ExceptHandler} {l : List (Value × (Addr → Value → Option Addr → TS))} {pos : Pos} {tb : WX → TS} {Wout : WX}
theorem ps_try_many_as (hs : X.stack = X.env :: X.outer) (hf : X.env.frame = some X.env.locals) (hN : X.N.Nodup) (hi : X.N[i]? = some n) (hln : X.env.kindOf n = some .local) (tk : Takes X Wout)
    (hb : ∀ (W : WX) (pn : List (Addr × Obj)) (xe : Value → Shared → Prop), Takes (X.tr pn xe) W → PassesOwn (model X.prog X.w) X.A X.env xe → PSs (X.tr pn xe) body (tb W))
    (hh : HdsAs X n (h₀ :: hds) l) : PS X (.Try body (h₀ :: hds) [] [] pos) (fun D σ H => tb (wManyAs X.K i Wout D l) D σ H) := by
  refine ⟨fun pins s σ H D I h => ?_⟩
  have ok := I.ok
  have hfr : X.A.frames = some (X.env :: X.outer) := by rw [ok.frames, hs]
  have hloc : Loc X.env.scope n := .inl hln
  refine wpAny_Try_except ?_
  refine wpAny_mono ((hb (wManyAs X.K i Wout D l) (X.pn ++ pins) (fun e s₁ => wpAny (model X.prog X.w) X.A (noteFrame e X.env) (fun _ s₂ => wpAny (model X.prog X.w) X.A (setFlight e none) (fun _ s₃ =>
    wpAny (model X.prog X.w) X.A (handleBy e X.env (h₀ :: hds)) (SP X pins D) X.xe s₃) X.xe s₂) X.xe s₁) (fun u s' xx => ?_) PassesOwn.looking).run [] s σ H D (I.toTry _) h) (fun f s1 hsp => ?_) (fun e s1 he => he)
  · -- the catch
    obtain ⟨a, B, sI, pins', σ', H', cls, d, rfl, J', nb, up, sky, na, os, ag, w⟩ := xx
    have J : Inv X pins σ' H' sI := J'.ofTry ok
    have sky' : Sky B (X.env :: X.outer) a (Zc cls d) X.env.locals s'.heap := by rw [← hs]; exact sky
    show wpAny (model X.prog X.w) X.A (noteFrame (.ref a) X.env) _ _ _
    refine Sky.land Zc.steady hfr hf sky' fun h3 fl3 up3 => ?_
    have J3 : Inv X pins σ' H' { s' with heap := h3 } := J.landed nb fl3.1 (up.trans up3) os ag
    obtain ⟨oe3, vs3, he3, hz3, hd3⟩ := fl3.there
    have notFr : ∀ {h : Heap} {o : Obj} {vs : Array Value}, h.FunFrames B (X.env :: X.outer) → h.get? a = some o → o.data = .fields vs → a ∉ frs (X.env :: X.outer) := fun {h o vs} ff e dd hm => by
      obtain ⟨_, o', e', hnf⟩ := ff.mem hm
      rw [e] at e'; cases e'
      exact hnf _ dd
    have nfr := notFr fl3.2.2.1 he3 hd3
    have nL : a ≠ X.env.locals := fun z => nfr (List.mem_filterMap.mpr ⟨X.env, List.mem_cons_self, by rw [hf, z]⟩)
    have nF : a ∉ X.fs := fun hm => by
      obtain ⟨e, he, q⟩ := List.mem_filterMap.mp hm
      exact nfr (List.mem_filterMap.mpr ⟨e, List.mem_cons_of_mem _ he, q⟩)
    have S3 := J3.suite he3 hd3 na nL nF
    have go : ∀ {hds' : List ExceptHandler} {l' : List (Value × (Addr → Value → Option Addr → TS))}, HdsAs X n hds' l' → wManyAs X.K i Wout D l' cls d σ' H' →
        wpAny (model X.prog X.w) X.A (handleBy (.ref a) X.env hds') (SP X pins D) X.xe { s' with heap := h3 } := by
      intro hds' l' hk
      induction hk with
      | nil =>
        intro w
        refine wpAny_handleBy_nil ?_
        obtain ⟨k1, k2, k3, oe, vs, T, oT, ts', he, hz, hd, h1, hr⟩ := id fl3
        unfold PySem.passOn
        refine wpAny_bind (wpAny_field he hd h1 ?_)
        rw [if_neg (show ¬ ((Value.ref T == Value.none) = true) from by simp)]
        have fin : wpAny (model X.prog X.w) X.A (setFlight (.ref a) X.env.frame) (fun _ s4 => wpAny (model X.prog X.w) X.A (throw (.ref a) : Sem Flow) (SP X pins D) X.xe s4) X.xe { s' with heap := h3 } := by
          rw [hf]
          refine HandSPX.setFlight_upZ fl3 fun h4 hh4 up4 => wpAny_throw (tk _ _ ?_)
          exact ⟨a, B, sI, pins, σ', H', cls, d, rfl, J, nb, (up.trans up3).trans up4, .inr (.inr (by rw [hs]; exact hh4)), na, os, ag, w⟩
        first
          | exact wpAny_bind (wpAny_pure (wpAny_bind fin))
          | exact wpAny_bind fin
      | @cons x c ts b₀ suite np pos' hds2 l2 hc hsu r ih =>
        intro w
        obtain ⟨b, hb1, hyes, hno⟩ := w
        refine wpAny_handleBy_cons (codeAny_handlers_test ?_) (by intro q; cases q)
        have LT : PySem.W.Looks (model X.prog X.w) h3 (typeOf (.ref a)) cls := fun A Q E s k q => wpAny_typeOf_ref (k _ _ he3) (by rw [hz3.1]; exact q)
        have LM := PySem.W.exm_one (M := model X.prog X.w) (J3.kIn) LT hb1
        have test : ∀ {Q : Value → Shared → Prop} {E : Value → Shared → Prop}, Q c { s' with heap := h3 } → wpAny (model X.prog X.w) (X.A.mark (some (.ref a))) (eval (.Name x np) X.env) Q E { s' with heap := h3 } := fun {Q E} q => by
          obtain ⟨hg, hdbg, hm | ⟨hm, hv, hnn⟩⟩ := hc
          · exact ld_glob (X := X.suite a ((a, oe3) :: (X.pn ++ pins))) S3 hg hm q hdbg
          · exact ld_blt (X := X.suite a ((a, oe3) :: (X.pn ++ pins))) S3 hg hm hv q hnn hdbg
        refine test (LM.here ?_)
        cases b with
        | true =>
          refine codeAny_handlers_suite_as ?_
          refine HandSPX.lands_againZ fl3 fun h4 fl4 up4 => ?_
          have J4 : Inv X pins σ' H' { s' with heap := h4 } := J.landed nb fl4.1 ((up.trans up3).trans up4) os ag
          obtain ⟨oe4, vs4, he4, hz4, hd4⟩ := fl4.there
          have S4 := J4.suite he4 hd4 na nL nF
          refine store_ok (X := X.suite a ((a, oe4) :: (X.pn ++ pins))) (v := .ref a) S4 hN hi hloc rfl (fun s5 S5 => ?_) (.inr hln)
          refine wpAny_mono ((hsu a oe4 cls d (X.pn ++ pins) hz4 ⟨_, hd4⟩).run [] s5 _ H' _ S5 (hyes rfl a na)) (fun f s6 hsp => ?_) (fun _ _ z => False.elim z)
          have end_ : ∀ {σ6 : L2.St} {H6 : Hp} {Q : Shared → Prop}, Inv (X.suite a ((a, oe4) :: (X.pn ++ pins))) [] σ6 H6 s6 → (∀ s7, Inv X pins (σ6.set i none) H6 s7 → Q s7) →
              wpAny (model X.prog X.w) X.A (do bindName X.env n .none; unbindBehindTheSuite X.env n pos') (fun _ s7 => Q s7) X.xe s6 := fun {σ6 H6 Q} S6 hq => gone_ok (S6.unsuite ok) hN hi hln hq
          cases f with
          | next =>
            obtain ⟨σ6, H6, S6, q6⟩ := hsp
            exact end_ S6 fun s7 J7 => ⟨_, _, J7, q6⟩
          | brk =>
            obtain ⟨σ6, H6, S6, q6⟩ := hsp
            exact end_ S6 fun s7 J7 => ⟨_, _, J7, q6⟩
          | cont =>
            obtain ⟨σ6, H6, S6, q6⟩ := hsp
            exact end_ S6 fun s7 J7 => ⟨_, _, J7, q6⟩
          | ret u =>
            obtain ⟨v6, σ6, H6, S6, r6, q6⟩ := hsp
            exact end_ S6 fun s7 J7 => ⟨_, _, _, J7, r6, q6⟩
        | false =>
          show wpAny _ X.A (handleBy (.ref a) X.env hds2) _ _ _
          exact ih (hno rfl)
    exact go hh w
  · cases f with
    | next =>
      obtain ⟨σ', H', J', q⟩ := hsp
      exact wpAny_execs_nil ⟨σ', H', J'.ofTry ok, q⟩
    | brk =>
      obtain ⟨σ', H', J', q⟩ := hsp
      exact ⟨σ', H', J'.ofTry ok, q⟩
    | cont =>
      obtain ⟨σ', H', J', q⟩ := hsp
      exact ⟨σ', H', J'.ofTry ok, q⟩
    | ret u =>
      obtain ⟨v, σ', H', J', r, q⟩ := hsp
      exact ⟨v, σ', H', J'.ofTry ok, r, q⟩
end
end K52
end

section
set_option maxHeartbeats 4000000
/-! operators of an own class: * from both sides, *=, == and !=, str and repr -/
namespace K52
open PySem PySem.Spec PyProof.Rows L2
section
open PySem.W PySem.Calls Builtin
variable {prog : Program} {w : World} {A : Around} {E : Value → Shared → Prop} {s : Shared} {K : Frag} {x C dx f g : Addr} {ox : Obj} {od : Option Obj} {T : String}
/-- what the class at C and the built-in type T say of * -/
structure MulK (K : Frag) (C f g : Addr) : Prop where
  sf : selfFirst K C = true
  mul : findIn K (.ref C) "__mul__" = some (some (.ref f))
  fm : isFn K (.ref f) = true
  rmul : findIn K (.ref C) "__rmul__" = some (some (.ref g))
  fr : isFn K (.ref g) = true
  imul : findIn K (.ref C) "__imul__" = some none
  int : subIn K (.ref C) (.type "int") = some false
structure MulT (K : Frag) (C : Addr) (T : String) (fo ro : Option Value) : Prop where
  m : findIn K (.type T) "__mul__" = some fo
  r : findIn K (.type T) "__rmul__" = some ro
  sub : subIn K (.type T) (.ref C) = some false
  sub' : subIn K (.ref C) (.type T) = some false
theorem op_info_mult : (Operator.Mult).info = ("*", "mul") := rfl
theorem bin_left {b : Value} {fo ro : Option Value} {Q : Value → Shared → Prop} (X : K.In s.heap) (I : InstAt s.heap x ox C od) (hb : Looks (model prog w) s.heap (typeOf b) (.type T)) (k : MulK K C f g) (t : MulT K C T fo ro)
    (h : wpAny (model prog w) A (call (.ref f) [.ref x, b]) (PySem.W.CmpBack Q) E s) : wpAny (model prog w) A (binaryOp .Mult (.ref x) b) Q E s := by
  obtain ⟨cd, rest, hcd, hm⟩ := ksp_first k.sf
  have hs := k.mul
  have one := ksp_try X I hs k.fm h
  obtain ⟨hh, g', d, tt, os⟩ := s
  have L1 : Looks (model prog w) hh (typeOf (.ref x)) (.ref C) := I.type
  have L2 : Looks (model prog w) hh (typeOf b) (.type T) := hb
  have L3 : Looks (model prog w) hh (fillsNumberSlot (.ref C) "mul") true := fills_K X hcd hm hs
  have L4 : Looks (model prog w) hh (fillsNumberSlot (.type T) "mul") ((fo.isSome && !isSeqSlot fo) || (ro.isSome && !isSeqSlot ro)) := ksp_fillsT X t.m t.r
  have L5 : Looks (model prog w) hh (isSubtype (.type T) (.ref C)) false := looks_subIn X t.sub
  have L6 : Looks (model prog w) hh (numberSlotInPython (.ref C) "mul") true := ksp_inPy X hs k.rmul (.inr ⟨_, rfl⟩)
  have L7 : Looks (model prog w) hh (numberSlotInPython (.type T) "mul") false := Looks.of_pure rfl
  have L8 : Looks (model prog w) hh (typeLookup (.type T) (dunderR "mul")) ro := looks_findIn X t.r
  generalize ((fo.isSome && !isSeqSlot fo) || (ro.isSome && !isSeqSlot ro)) = right at L4
  have hne : (Value.ref C == Value.type T) = false := Bool.eq_false_iff.mpr fun q => by cases beq_iff_eq.mp q
  simp only [binaryOp, op_info_mult]
  refine wpAny_holding (wpAny_bind ?_)
  unfold binaryOp1
  refine wpAny_bind (L1.at (wpAny_bind (L2.at (wpAny_bind (L3.at ?_)))))
  simp only [hne, Bool.false_eq_true, if_false]
  cases right with
  | false =>
    ksp_lk
    refine wpAny_mono one (fun r s' hr' => ?_) fun _ _ e => e
    obtain ⟨v, rfl, hq⟩ := hr'
    ksp_lk
    exact hq
  | true =>
    ksp_lk
    refine wpAny_mono one (fun r s' hr' => ?_) fun _ _ e => e
    obtain ⟨v, rfl, hq⟩ := hr'
    ksp_lk
    exact hq
/-- int.__mul__ declines an instance -/
theorem int_declines {n : Value} (hn : (∃ (a : Int) (t : Tok), n = .int a t) ∨ ∃ b : Bool, n = .bool b) {Q : Value → Shared → Prop} (at_x : s.heap.get? x = some (instObj C dx)) (h : Q .notImplemented s) : wpAny (model prog w) A (call (.builtin "int.__mul__") [n, .ref x]) Q E s := by
  rcases hn with ⟨a, t, rfl⟩ | ⟨b, rfl⟩
  · refine wpAny_call (codeAny_call_builtin PySem.F.slot_int_mul.plain PySem.F.entry_int_mul (check_slot (i := "int.__mul__") (owner := "int") (n := "__mul__") (by decide +kernel) (by decide +kernel) (Looks.of_pure (by first | rfl | decide +kernel)) (PySem.F.args_int_mul_2 _ _) ?_))
    obtain ⟨hp, g', d, tk, os⟩ := s
    wp_walk using AutoSeq1.wpAny_loadPart' at_x
    first | exact h | exact ⟨_, rfl, h⟩ | skip
  · refine wpAny_call (codeAny_call_builtin PySem.F.slot_int_mul.plain PySem.F.entry_int_mul (check_slot (i := "int.__mul__") (owner := "int") (n := "__mul__") (by decide +kernel) (by decide +kernel) (Looks.of_pure (by first | rfl | decide +kernel)) (PySem.F.args_int_mul_2 _ _) ?_))
    obtain ⟨hp, g', d, tk, os⟩ := s
    wp_walk using AutoSeq1.wpAny_loadPart' at_x
    first | exact h | exact ⟨_, rfl, h⟩ | skip
theorem bin_right {b : Value} {fo ro : Option Value} {Q : Value → Shared → Prop} (X : K.In s.heap) (I : InstAt s.heap x (instObj C dx) C od) (hb : Looks (model prog w) s.heap (typeOf b) (.type T)) (k : MulK K C f g) (t : MulT K C T fo ro)
    (hl : ((fo.isSome && !isSeqSlot fo) || (ro.isSome && !isSeqSlot ro)) = false ∨ (fo = some (.builtin "int.__mul__") ∧ ((∃ (a : Int) (t : Tok), b = .int a t ∧ T = "int") ∨ ∃ y : Bool, b = .bool y ∧ T = "bool")))
    (h : wpAny (model prog w) A (call (.ref g) [.ref x, b]) (PySem.W.CmpBack Q) E s) : wpAny (model prog w) A (binaryOp .Mult b (.ref x)) Q E s := by
  obtain ⟨cd, rest, hcd, hm⟩ := ksp_first k.sf
  have hs := k.mul
  have one := ksp_try X I k.rmul k.fr h
  have decl : ((∃ (a : Int) (t : Tok), b = .int a t ∧ T = "int") ∨ ∃ y : Bool, b = .bool y ∧ T = "bool") → wpAny (model prog w) A (tryMethod b (PySem.dunder "mul") (.ref x)) (fun r s' => r = none ∧ s' = s) E s := by
    rintro (⟨a, tk, rfl, rfl⟩ | ⟨y, rfl, rfl⟩)
    · exact wpAny_tryMethod_declines (typeIs_int _ _ _) PySem.F.slot_int_mul (int_declines (.inl ⟨_, _, rfl⟩) I.at_ ⟨rfl, rfl, rfl⟩)
    · exact wpAny_tryMethod_declines (PySem.typeIs_bool _ _) PySem.F.slot_bool_mul (int_declines (.inr ⟨_, rfl⟩) I.at_ ⟨rfl, rfl, rfl⟩)
  obtain ⟨hh, g', d, tt, os⟩ := s
  have L1 : Looks (model prog w) hh (typeOf (.ref x)) (.ref C) := I.type
  have L2 : Looks (model prog w) hh (typeOf b) (.type T) := hb
  have L3 : Looks (model prog w) hh (fillsNumberSlot (.ref C) "mul") true := fills_K X hcd hm hs
  have L4 : Looks (model prog w) hh (fillsNumberSlot (.type T) "mul") ((fo.isSome && !isSeqSlot fo) || (ro.isSome && !isSeqSlot ro)) := ksp_fillsT X t.m t.r
  have L5 : Looks (model prog w) hh (isSubtype (.ref C) (.type T)) false := looks_subIn X t.sub'
  have L7 : Looks (model prog w) hh (numberSlotInPython (.type T) "mul") false := Looks.of_pure rfl
  have hne : (Value.type T == Value.ref C) = false := Bool.eq_false_iff.mpr fun q => by cases beq_iff_eq.mp q
  simp only [binaryOp, op_info_mult]
  refine wpAny_holding (wpAny_bind ?_)
  unfold binaryOp1
  rcases hl with hl | ⟨rfl, hl⟩
  · rw [hl] at L4
    refine wpAny_bind (L2.at (wpAny_bind (L1.at (wpAny_bind (L4.at ?_)))))
    simp only [hne, Bool.false_eq_true, if_false]
    ksp_lk
    refine wpAny_mono one (fun r s' hr' => ?_) fun _ _ e => e
    obtain ⟨v, rfl, hq⟩ := hr'
    ksp_lk
    exact hq
  · have e : ((some (Value.builtin "int.__mul__")).isSome && !isSeqSlot (some (Value.builtin "int.__mul__")) || (ro.isSome && !isSeqSlot ro)) = true := by
      rw [show ((some (Value.builtin "int.__mul__")).isSome && !isSeqSlot (some (Value.builtin "int.__mul__"))) = true by decide +kernel]; rfl
    rw [e] at L4
    have de := decl hl
    clear decl hl e
    refine wpAny_bind (L2.at (wpAny_bind (L1.at (wpAny_bind (L4.at ?_)))))
    simp only [hne, Bool.false_eq_true, if_false]
    ksp_lk
    refine wpAny_mono de (fun r s' hr' => ?_) fun _ _ e => e
    obtain ⟨rfl, rfl⟩ := hr'
    ksp_lk
    refine wpAny_mono one (fun r s' hr' => ?_) fun _ _ e => e
    obtain ⟨v, rfl, hq⟩ := hr'
    ksp_lk
    exact hq
end
end K52
end

section
set_option maxHeartbeats 4000000
/-! *= of an own class -/
namespace K52
open PySem PySem.Spec PyProof.Rows L2
section
open PySem.W PySem.Calls Builtin
variable {prog : Program} {w : World} {A : Around} {E : Value → Shared → Prop} {s : Shared} {K : Frag} {x C dx f g : Addr} {ox : Obj} {od : Option Obj} {T : String}
theorem not_inplace {M : Model} {h : Heap} {cd : ClassData} (X : K.In h) (hc : clsIn K C = some cd) (hm : cd.mro = [.ref C, .type "object"]) (hi : findIn K (.ref C) "__imul__" = some none) (ho : findIn K (.type "object") "__imul__" = some none) : Looks M h (fillsInplaceSlot (.ref C) "mul" false) false := by
  intro A Q E s k q
  have Lm : Looks M h (mroOf (.ref C)) cd.mro := (looks_clsIn X hc).andThen (f := fun cd => pure cd.mro) .now
  have Lm' := Lm.keeps k
  obtain ⟨hh, g, d, tt, os⟩ := s
  have X' : K.In hh := X.keeps k
  have L1 : Looks M hh (typeLookup (.ref C) (dunderI "mul")) none := looks_findIn X' hi
  have L2 : Looks M hh (typeLookup (.type "object") (dunderI "mul")) none := looks_findIn X' ho
  unfold fillsInplaceSlot
  refine wpAny_bind (Lm'.at ?_)
  rw [hm, List.anyM_cons]
  refine wpAny_bind ?_
  repeat lk
  exact q
theorem bin1_left {b : Value} {fo ro : Option Value} {Q : Value → Shared → Prop} (X : K.In s.heap) (I : InstAt s.heap x ox C od) (hb : Looks (model prog w) s.heap (typeOf b) (.type T)) (k : MulK K C f g) (t : MulT K C T fo ro)
    (h : wpAny (model prog w) A (call (.ref f) [.ref x, b]) (PySem.W.CmpBack Q) E s) : wpAny (model prog w) A (binaryOp1 "mul" (.ref x) b) (fun r s' => ∃ v, r = some v ∧ Q v s') E s := by
  obtain ⟨cd', rest, hcd, hm⟩ := ksp_first k.sf
  have hs := k.mul
  have one := ksp_try X I hs k.fm h
  obtain ⟨hh, g', d, tt, os⟩ := s
  have L1 : Looks (model prog w) hh (typeOf (.ref x)) (.ref C) := I.type
  have L2 : Looks (model prog w) hh (typeOf b) (.type T) := hb
  have L3 : Looks (model prog w) hh (fillsNumberSlot (.ref C) "mul") true := fills_K X hcd hm hs
  have L4 : Looks (model prog w) hh (fillsNumberSlot (.type T) "mul") ((fo.isSome && !isSeqSlot fo) || (ro.isSome && !isSeqSlot ro)) := ksp_fillsT X t.m t.r
  have L5 : Looks (model prog w) hh (isSubtype (.type T) (.ref C)) false := looks_subIn X t.sub
  have L6 : Looks (model prog w) hh (numberSlotInPython (.ref C) "mul") true := ksp_inPy X hs k.rmul (.inr ⟨_, rfl⟩)
  have L7 : Looks (model prog w) hh (numberSlotInPython (.type T) "mul") false := Looks.of_pure rfl
  have L8 : Looks (model prog w) hh (typeLookup (.type T) (dunderR "mul")) ro := looks_findIn X t.r
  generalize ((fo.isSome && !isSeqSlot fo) || (ro.isSome && !isSeqSlot ro)) = right at L4
  have hne : (Value.ref C == Value.type T) = false := Bool.eq_false_iff.mpr fun q => by cases beq_iff_eq.mp q
  unfold binaryOp1
  refine wpAny_bind (L1.at (wpAny_bind (L2.at (wpAny_bind (L3.at ?_)))))
  simp only [hne, Bool.false_eq_true, if_false]
  cases right with
  | false =>
    ksp_lk
    refine wpAny_mono one (fun r s' hr' => ?_) fun _ _ e => e
    obtain ⟨v, rfl, hq⟩ := hr'
    ksp_lk
    exact ⟨_, rfl, hq⟩
  | true =>
    ksp_lk
    refine wpAny_mono one (fun r s' hr' => ?_) fun _ _ e => e
    obtain ⟨v, rfl, hq⟩ := hr'
    ksp_lk
    exact ⟨_, rfl, hq⟩
theorem inplace_left {b : Value} {fo ro : Option Value} {Q : Value → Shared → Prop} (X : K.In s.heap) (I : InstAt s.heap x ox C od) (hb : Looks (model prog w) s.heap (typeOf b) (.type T)) (k : MulK K C f g) (t : MulT K C T fo ro)
    {cd : ClassData} (hc : clsIn K C = some cd) (hm' : cd.mro = [.ref C, .type "object"]) (ho : findIn K (.type "object") "__imul__" = some none)
    (h : wpAny (model prog w) A (call (.ref f) [.ref x, b]) (PySem.W.CmpBack Q) E s) : wpAny (model prog w) A (inplaceOp .Mult (.ref x) b) Q E s := by
  have one := bin1_left X I hb k t h
  have L0 := not_inplace (M := model prog w) X hc hm' k.imul ho
  unfold inplaceOp
  refine wpAny_holding (wpAny_bind (I.type.here (wpAny_bind (L0.here ?_))))
  rw [if_neg Bool.false_ne_true]
  refine wpAny_bind (wpAny_mono one (fun r s' hr' => ?_) fun _ _ e => e)
  obtain ⟨v, rfl, hq⟩ := hr'
  exact wpAny_pure hq
end
end K52
end

section
set_option maxHeartbeats 4000000
/-! own operators as rules -/
namespace K52
open PySem PySem.Spec PyProof.Rows L2
theorem cmpBack {X : Cx} {pins : List (Addr × Obj)} {σ : L2.St} {Q : VK} {u : Value} {s : Shared} (h : EP X pins σ Q u s) : PySem.W.CmpBack (EP X pins σ Q) u s := by
  obtain ⟨v, H', I, r, q⟩ := id h
  cases u <;> first | exact h | skip
  cases v with
  | int i => obtain ⟨t, e⟩ := r; cases e
  | str i => obtain ⟨t, e⟩ := r; cases e
  | byt i => obtain ⟨t, e⟩ := r; cases e
  | flt i => obtain ⟨t, e⟩ := r; cases e
  | _ => cases r
section
variable {X : Cx} {CX : CXT} {k : Nat} {f C g : Addr} {fd : FuncData} {ps : List Str} {sp : Sp} {E : XK} {A : Around} {pins : List (Addr × Obj)} {σ : L2.St} {H : Hp} {s : Shared} {Q : VK} {us : List Value} {vs : List V}
theorem run_at (F : FnOk X.prog X.w X.K X.mg X.base CX k f fd ps sp) (hr : Room k A) (hA : A.frames = X.A.frames) (hb : Binds X.K fd ps []) (hx : Passes CX X E) (I : Inv X pins σ H s) (r : Vals vs us) (h : sp vs H Q E) :
    wpAny (model X.prog X.w) A (call (.ref f) us) (EP X pins σ Q) X.xe s := by
  have hl : us.length = ps.length := r.length.symm.trans (F.len _ _ _ _ h)
  have hb' := hb s us I.kIn (by rw [List.append_nil]; exact hl)
  rw [List.append_nil] at hb'
  have e := I.env0
  have e0 : Env0 X.prog X.w X.K X.mg X.base A X.stack s H := ⟨by rw [hA]; exact e.frames, e.mod, e.bs, e.bsz, e.funs, e.frf, e.hok, e.bare⟩
  refine wpAny_call (codeAny_mono (F.run A X.stack s H ⟨us, []⟩ us vs Q E hr e0 hb' r h) fun res s' hq => ?_)
  match res, hq with
  | .error e, hq => exact hx pins σ H s e s' I hq
  | .ok (.ret u), hq => exact I.after hq
/-- what an exception leaves behind this body -/
theorem passes_own {E : XK} (hs : X.stack = X.env :: X.outer) (hf : X.env.frame = some X.env.locals) (hex : X.ex = []) {E₁ : Value → Shared → Prop}
    (hx : X.xe = fun e s' => wpAny (model X.prog X.w) X.A (leaving X.env e) (fun _ s'' => L2.CX X.prog X.w X.outer X.H_0 X.s_0 E e s'') E₁ s') : Passes (L2.CX X.prog X.w) X E := passes_call (takes_of hs hf hex hx) fun _ _ _ _ h => h
theorem looks_ty {x : V} {u t : Value} (I : Inv X pins σ H s) (rx : RelV x u) (ty : TyX X.K H x t) : PySem.W.Looks (model X.prog X.w) s.heap (typeOf u) t := by
  obtain ⟨P, k, hp, _⟩ := kit_of I rx ty
  exact k.ty _ _ I.kIn hp
theorem ins_inst {a dx : Addr} {fs : List (Str × V)} (I : Inv X pins σ H s) (e : H a = some (.ins C dx fs)) : ∃ od, PySem.W.InstAt s.heap a (PySem.W.instObj C dx) C (some od) := by
  obtain ⟨mA, O, _⟩ := ins_get I.hok e
  obtain ⟨od, J, _⟩ := O.look
  exact ⟨od, J⟩
/-- x * y, x an instance -/
def rOwnL (K : PySem.W.Frag) (C f g : Addr) (sp : Sp) (E : XK) : R2 := fun x y H Q => ∃ a dx fs T fo ro, x = .ref a ∧ H a = some (.ins C dx fs) ∧ TyX K H y (.type T) ∧ MulT K C T fo ro ∧ sp [x, y] H Q E
theorem op_mulL (m : MulK X.K C f g) (F : FnOk X.prog X.w X.K X.mg X.base CX k f fd ps sp) (hr : Room k X.A) (hb : Binds X.K fd ps []) (hx : Passes CX X E) : OpR X (binaryOp .Mult) (rOwnL X.K C f g sp E) := by
  intro pins s σ H x y v u Q I rx ry h
  obtain ⟨a, dx, fs, T, fo, ro, rfl, ha, ty, t, q⟩ := h
  obtain rfl : v = Value.ref a := rx
  obtain ⟨od, J⟩ := ins_inst I ha
  exact bin_left I.kIn J (looks_ty I ry ty) m t (wpAny_mono (run_at F hr rfl hb hx I (.cons (show RelV (.ref a) (.ref a) from rfl) (.cons ry .nil)) q) (fun _ _ z => cmpBack z) fun _ _ z => z)
/-- y * x -/
def rOwnR (K : PySem.W.Frag) (C f g : Addr) (sp : Sp) (E : XK) : R2 := fun y x H Q => ∃ a dx fs T fo ro, x = .ref a ∧ H a = some (.ins C dx fs) ∧ TyX K H y (.type T) ∧ MulT K C T fo ro ∧
  (((fo.isSome && !isSeqSlot fo) || (ro.isSome && !isSeqSlot ro)) = false ∨ (fo = some (.builtin "int.__mul__") ∧ ((∃ i, y = .int i ∧ T = "int") ∨ ∃ b, y = .bl b ∧ T = "bool"))) ∧ sp [x, y] H Q E
theorem op_mulR (m : MulK X.K C f g) (F : FnOk X.prog X.w X.K X.mg X.base CX k g fd ps sp) (hr : Room k X.A) (hb : Binds X.K fd ps []) (hx : Passes CX X E) : OpR X (binaryOp .Mult) (rOwnR X.K C f g sp E) := by
  intro pins s σ H y x u v Q I ry rx h
  obtain ⟨a, dx, fs, T, fo, ro, rfl, ha, ty, t, hl, q⟩ := h
  obtain rfl : v = Value.ref a := rx
  obtain ⟨od, J⟩ := ins_inst I ha
  refine bin_right I.kIn J (looks_ty I ry ty) m t (hl.imp id fun z => ⟨z.1, z.2.imp (fun ⟨i, e, e2⟩ => ?_) fun ⟨b, e, e2⟩ => ?_⟩) (wpAny_mono (run_at F hr rfl hb hx I (.cons (show RelV (.ref a) (.ref a) from rfl) (.cons ry .nil)) q) (fun _ _ z => cmpBack z) fun _ _ z => z)
  · subst e
    obtain ⟨t, rfl⟩ := ry
    exact ⟨_, _, rfl, e2⟩
  · subst e
    obtain rfl : u = Value.bool b := ry
    exact ⟨_, rfl, e2⟩
/-- x *= y -/
theorem ip_mulL (m : MulK X.K C f g) (F : FnOk X.prog X.w X.K X.mg X.base CX k f fd ps sp) (hr : Room k X.A) (hb : Binds X.K fd ps []) (hx : Passes CX X E) (hm : (PySem.W.clsIn X.K C).any (fun cd => cd.mro == [.ref C, .type "object"]) = true) : PIp X .Mult (rOwnL X.K C f g sp E) := by
  intro pins s σ H x y v u Q I rx ry h
  obtain ⟨a, dx, fs, T, fo, ro, rfl, ha, ty, t, q⟩ := h
  obtain rfl : v = Value.ref a := rx
  obtain ⟨od, J⟩ := ins_inst I ha
  obtain ⟨cd, hc, e⟩ := PySem.W.any_some hm
  exact inplace_left I.kIn J (looks_ty I ry ty) m t hc (beq_iff_eq.mp e) rfl (wpAny_mono (run_at F hr rfl hb hx I (.cons (show RelV (.ref a) (.ref a) from rfl) (.cons ry .nil)) q) (fun _ _ z => cmpBack z) fun _ _ z => z)
/-- x == y, x an instance with == of its own -/
def rOwnE (K : PySem.W.Frag) (C : Addr) (sp : Sp) : R2 := fun x y H Q => ∃ a dx fs t, x = .ref a ∧ H a = some (.ins C dx fs) ∧ TyX K H y t ∧ PySem.W.notFirst K C t = true ∧ sp [x, y] H Q E0
theorem op_eqO (F : FnOk X.prog X.w X.K X.mg X.base CX0 k f fd ps sp) (hr : Room k X.A) (hb : Binds X.K fd ps []) (hs : PySem.W.findIn X.K (.ref C) "__eq__" = some (some (.ref f))) (hf : PySem.W.isFn X.K (.ref f) = true) : OpR X (compareOp .Eq) (rOwnE X.K C sp) := by
  intro pins s σ H x y v u Q I rx ry h
  obtain ⟨a, dx, fs, t, rfl, ha, ty, nf, q⟩ := h
  obtain rfl : v = Value.ref a := rx
  obtain ⟨od, J⟩ := ins_inst I ha
  obtain ⟨m, hF⟩ := I.fr
  exact PySem.W.cmp_K (op := .Eq) hr.units0 hF I.ok.mod.kin J (looks_ty I ry ty) nf hs hf (wpAny_mono (run_at F hr rfl hb pass0 I (.cons (show RelV (.ref a) (.ref a) from rfl) (.cons ry .nil)) q) (fun _ _ z => cmpBack z) fun _ _ z => z)
end
end K52
end

section
set_option maxHeartbeats 4000000
/-! != by an own ==; str and repr of an own class -/
namespace K52
open PySem PySem.Spec PyProof.Rows L2
section
open PySem.W PySem.Calls Builtin
variable {prog : Program} {w : World} {A : Around} {E : Value → Shared → Prop} {s : Shared} {K : Frag} {x C L f : Addr} {ox : Obj} {od : Option Obj} {b tb : Value} {h₀ : Heap} {m : Str → Option Value} {name : Str}
theorem ifBound_B {M : Model} {id : String} {args : List Value} {Q : Option Value → Shared → Prop} (X : K.In s.heap) (I : InstAt s.heap x ox C od) (hs : findIn K (.ref C) name = some (some (.builtin id))) (hb : ∀ self, bindSpecial (.builtin id) self = pure (.builtin id, [self]))
    (h : wpAny M A (call (.builtin id) (.ref x :: args)) (fun v => Q (some v)) E s) : wpAny M A (callSpecialIfBound? (.ref x) name args) Q E s := by
  simp only [callSpecialIfBound?, bindSpecialIfBound?]
  refine wpAny_holding (wpAny_bind (wpAny_bind (wpAny_bind (I.type.here ((looks_findIn X hs).here ?_)))))
  refine wpAny_bind (wpAny_askSetting (wpAny_ite ?_))
  have fin : wpAny M A (call (.builtin id) ([.ref x] ++ args) >>= fun v => pure (some v)) Q E s := wpAny_bind (wpAny_mono h (fun v s' h' => wpAny_pure h') fun _ _ h' => h')
  split
  · exact wpAny_bind ((Looks.of_pure (hb _)).here (wpAny_pure (by exact fin)))
  · exact wpAny_tryCatch (wpAny_bind ((Looks.of_pure (hb _)).here (wpAny_pure (by exact fin))))
theorem object_ne {Q : Value → Shared → Prop} (hu : A.in1.units < cLine) (X : K.In s.heap) (I : InstAt s.heap x ox C od) (hm : mroIn K C (.type "object") = some true) (he : findIn K (.ref C) "__eq__" = some (some (.ref f))) (hf : isFn K (.ref f) = true)
    (h : wpAny (model prog w) A.in1 (call (.ref f) [.ref x, b]) (fun v s' => ∃ y : Bool, v = .bool y ∧ Q (.bool (!y)) s') E s) : wpAny (model prog w) A (call (.builtin "object.__ne__") [.ref x, b]) Q E s := by
  refine wpAny_call (codeAny_call_builtin PySem.F.slot_object_ne.plain PySem.F.cmpEntry_ne (check_slot (i := "object.__ne__") (owner := "object") (n := "__ne__") (by decide +kernel) (by decide +kernel) (I.type.andThen (looks_mroIn X hm)) (PySem.F.cmpArgs_ne _ _) ?_))
  have one : ∀ {Q' : Option Value → Shared → Prop}, (∀ y s', Q (.bool (!y)) s' → Q' (some (.bool y)) s') → wpAny (model prog w) A.in1 (callSpecialIfBound? (.ref x) (Str.ofString "__eq__") [b]) Q' E s := fun k => ifBound_K X I he hf (wpAny_mono h (fun v s' hv => by
    obtain ⟨y, rfl, q⟩ := hv
    exact k _ _ q) fun _ _ e => e)
  unfold Builtin.«object.__ne__»
  repeat (first
    | with_reducible refine wpAny_cRoomFor hu ?_
    | (refine wpAny_bind (m := callSpecialIfBound? (.ref x) (Str.ofString "__eq__") [b]) (one fun y s' hq => ?_))
    | wp_step)
  all_goals exact hq
theorem cmp_ne {Q : Value → Shared → Prop} (hu : A.in1.units < cLine) (X : K.In s.heap) (I : InstAt s.heap x ox C od) (hb : Looks (model prog w) s.heap (typeOf b) tb) (hn : notFirst K C tb = true) (hm : mroIn K C (.type "object") = some true)
    (hs : findIn K (.ref C) "__ne__" = some (some (.builtin "object.__ne__"))) (he : findIn K (.ref C) "__eq__" = some (some (.ref f))) (hf : isFn K (.ref f) = true)
    (h : wpAny (model prog w) A.in1 (call (.ref f) [.ref x, b]) (fun v s' => ∃ y : Bool, v = .bool y ∧ Q (.bool (!y)) s') E s) : wpAny (model prog w) A (richCompare .NotEq (.ref x) b) Q E s := by
  have one : wpAny (model prog w) A (tryCompare (.ref x) (cmpInfo .NotEq).2.1 b) (fun r s' => ∃ v, r = some v ∧ Q v s') E s := by
    have two : wpAny (model prog w) A (call (.builtin "object.__ne__") [.ref x, b]) (fun v s' => ∃ y : Bool, v = .bool y ∧ Q v s') E s := object_ne (Q := fun v s' => ∃ y : Bool, v = .bool y ∧ Q v s') hu X I hm he hf (wpAny_mono h (fun v s' hv => by
      obtain ⟨y, rfl, q⟩ := hv
      exact ⟨y, rfl, _, rfl, q⟩) fun _ _ e => e)
    unfold tryCompare
    refine wpAny_bind (ifBound_B X I hs PySem.F.slot_object_ne.bind (wpAny_mono two (fun v s' hv => ?_) fun _ _ e => e))
    obtain ⟨y, rfl, q⟩ := hv
    exact wpAny_pure ⟨_, rfl, q⟩
  unfold richCompare
  simp only [oneThing_ref]
  refine wpAny_holding (wpAny_bind (wpAny_cRoomFor (by show A.units < cLine; exact Nat.lt_of_succ_lt hu) ?_))
  refine wpAny_bind (I.type.here (wpAny_bind (hb.here ?_)))
  split
  · rename_i q
    have e : subIn K tb (.ref C) = some false := by
      rcases Bool.or_eq_true_iff.mp hn with e | e
      · rw [beq_iff_eq.mp e] at q; simp at q
      · exact beq_iff_eq.mp e
    refine wpAny_bind ((looks_subIn X e).here ?_)
    simp only [Bool.false_eq_true, if_false]
    refine wpAny_bind (wpAny_mono one (fun r s' z => ?_) fun _ _ e => e)
    obtain ⟨v, rfl, hq⟩ := z
    exact wpAny_pure hq
  · refine wpAny_bind (wpAny_pure ?_)
    simp only [Bool.false_eq_true, if_false]
    refine wpAny_bind (wpAny_mono one (fun r s' z => ?_) fun _ _ e => e)
    obtain ⟨v, rfl, hq⟩ := z
    exact wpAny_pure hq
end
section
variable {X : Cx} {CX : CXT} {k : Nat} {f C g : Addr} {fd : FuncData} {ps : List Str} {sp : Sp} {E : XK} {A : Around} {pins : List (Addr × Obj)} {σ : L2.St} {H : Hp} {s : Shared} {Q : VK} {us : List Value} {vs : List V}
/-- x != y, x an instance with == of its own -/
def rOwnN (K : PySem.W.Frag) (C : Addr) (sp : Sp) : R2 := fun x y H Q => ∃ a dx fs t, x = .ref a ∧ H a = some (.ins C dx fs) ∧ TyX K H y t ∧ PySem.W.notFirst K C t = true ∧ sp [x, y] H (fun v H' => ∃ c : Bool, v = .bl c ∧ Q (.bl (!c)) H') E0
theorem op_neO (F : FnOk X.prog X.w X.K X.mg X.base CX0 k f fd ps sp) (hr : Room (k + 1) X.A) (hb : Binds X.K fd ps []) (hm : PySem.W.mroIn X.K C (.type "object") = some true) (hn : PySem.W.findIn X.K (.ref C) "__ne__" = some (some (.builtin "object.__ne__")))
    (hs : PySem.W.findIn X.K (.ref C) "__eq__" = some (some (.ref f))) (hf : PySem.W.isFn X.K (.ref f) = true) : OpR X (compareOp .NotEq) (rOwnN X.K C sp) := by
  intro pins s σ H x y v u Q I rx ry h
  obtain ⟨a, dx, fs, t, rfl, ha, ty, nf, q⟩ := h
  obtain rfl : v = Value.ref a := rx
  obtain ⟨od, J⟩ := ins_inst I ha
  refine cmp_ne hr.in1.units0 I.kIn J (looks_ty I ry ty) nf hm hn hs hf (wpAny_mono (run_at F hr.in1 rfl hb pass0 I (.cons (show RelV (.ref a) (.ref a) from rfl) (.cons ry .nil)) q) (fun r s' z => ?_) fun _ _ z => z)
  obtain ⟨v', H', I', rv, c, rfl, q'⟩ := z
  obtain rfl : r = Value.bool c := rv
  exact ⟨c, rfl, .bl (!c), H', I', rfl, q'⟩
theorem strBack {u : Value} (h : ∃ z H', Inv X pins σ H' s ∧ RelV (.str z) u ∧ Q (.str z) H') : PySem.W.StrBack (EP X pins σ Q) u s := by
  obtain ⟨z, H', I, ⟨t, rfl⟩, q⟩ := h
  exact ⟨.str z, H', I, ⟨t, rfl⟩, q⟩
/-- str(x), repr(x), x an instance with a def of its own for it -/
def rOwnS (C : Addr) (sp : Sp) : List V → Hp → VK → Prop := fun xs H Q => ∃ a dx fs, xs = [.ref a] ∧ H a = some (.ins C dx fs) ∧ sp [.ref a] H (fun v H' => ∃ z : Str, v = .str z ∧ Q (.str z) H') E0
theorem call_strO (F : FnOk X.prog X.w X.K X.mg X.base CX0 k f fd ps sp) (hr : Room (k + 2) X.A) (hb : Binds X.K fd ps []) (hs : PySem.W.findIn X.K (.ref C) "__str__" = some (some (.ref f))) (hf : PySem.W.isFn X.K (.ref f) = true) : CallR X (.type "str") (rOwnS C sp) := by
  intro pins s σ H xs us Q I r h
  obtain ⟨a, dx, fs, rfl, ha, q⟩ := h
  obtain ⟨u, rfl, ru⟩ := vals1 r
  obtain rfl : u = Value.ref a := ru
  obtain ⟨od, J⟩ := ins_inst I ha
  refine PySem.W.kso_call hr.in1.in1.units0 I.kIn J hs hf (wpAny_mono (run_at F hr.in1.in1 rfl hb pass0 I (.cons (show RelV (.ref a) (.ref a) from rfl) .nil) q) (fun r s' z => ?_) fun _ _ z => z)
  obtain ⟨v', H', I', rv, c, rfl, q'⟩ := z
  exact strBack ⟨c, H', I', rv, q'⟩
theorem call_reprO (F : FnOk X.prog X.w X.K X.mg X.base CX0 k f fd ps sp) (hr : Room (k + 1) X.A) (hb : Binds X.K fd ps []) (hs : PySem.W.findIn X.K (.ref C) "__repr__" = some (some (.ref f))) (hf : PySem.W.isFn X.K (.ref f) = true) : CallR X (.builtin "repr") (rOwnS C sp) := by
  intro pins s σ H xs us Q I r h
  obtain ⟨a, dx, fs, rfl, ha, q⟩ := h
  obtain ⟨u, rfl, ru⟩ := vals1 r
  obtain rfl : u = Value.ref a := ru
  obtain ⟨od, J⟩ := ins_inst I ha
  obtain ⟨m, hF⟩ := I.fr
  refine PySem.W.repr_K hr.in1.units0 hF I.ok.mod.kin J hs hf (wpAny_mono (run_at F hr.in1 rfl hb pass0 I (.cons (show RelV (.ref a) (.ref a) from rfl) .nil) q) (fun r s' z => ?_) fun _ _ z => z)
  obtain ⟨v', H', I', rv, c, rfl, q'⟩ := z
  exact strBack ⟨c, H', I', rv, q'⟩
/-- repr(x) of data of any kind, not of heap objects alone -/
def rReprA : List V → Hp → VK → Prop := fun xs H Q => ∃ (v : V) (d : PyData), xs = [v] ∧ Dx H v d ∧ d.showable = true ∧ d.depth ≤ 40 ∧ d.shown.length ≤ sizeLine ∧ Q (.str d.shown) H
theorem call_reprA {X : Cx} (hg : X.A.guards = some []) (hu : X.A.units + 64 < cLine) (hs : ∃ o, X.K.lookup sysModules = some o ∧ o.cls ≠ .type "list") : CallR X (.builtin "repr") rReprA := by
  intro pins s σ H xs us Q I r h
  obtain ⟨v, d, rfl, hd, sh, dp, sz, q⟩ := h
  obtain ⟨u, rfl, ru⟩ := vals1 r
  cases hd with
  | non =>
    obtain rfl : u = Value.none := ru
    exact PySem.P.repr_of_none ⟨.str _, H, I.tok _, ⟨_, rfl⟩, q⟩
  | bl b =>
    obtain rfl : u = Value.bool b := ru
    have q' : Q (.str (if b then "True" else "False")) H := by cases b <;> exact q
    exact PySem.P.repr_of_bool ⟨.str _, H, I.tok _, ⟨_, rfl⟩, q'⟩
  | int i =>
    obtain ⟨t, rfl⟩ := ru
    exact PySem.P.repr_of_int (of_decide_eq_true (by simpa [PyData.showable] using sh)) ⟨.str _, H, I.tok _, ⟨_, rfl⟩, q⟩
  | str x =>
    obtain ⟨t, rfl⟩ := ru
    exact PySem.P.repr_of_str ⟨.str _, H, I.tok _, ⟨_, rfl⟩, q⟩ sz
  | lst e l => exact call_repr hg hu hs pins s σ H _ _ Q I (.cons ru .nil) ⟨_, _, rfl, .lst e l, sh, dp, sz, q⟩
  | tup e l => exact call_repr hg hu hs pins s σ H _ _ Q I (.cons ru .nil) ⟨_, _, rfl, .tup e l, sh, dp, sz, q⟩
  | dic e l => exact call_repr hg hu hs pins s σ H _ _ Q I (.cons ru .nil) ⟨_, _, rfl, .dic e l, sh, dp, sz, q⟩
end
end K52
end

section
set_option maxHeartbeats 4000000
/-! static methods read off a class and off an instance -/
namespace K52
open PySem PySem.Spec PyProof.Rows L2 ClX
/-- C.m is a static method: its record at p, its def at g -/
structure SMet (K : PySem.W.Frag) (C : Addr) (mc : Value) (m : Str) (p g : Addr) : Prop where
  rd : CRead K C mc
  at_ : PySem.W.findCls K (.ref C) mc m = some (.get (.builtin "staticmethod.__get__") (.ref p) .none (.ref C))
  rc : ∃ rest, PySem.W.recIn K p "staticmethod" = some (.ref g :: rest)
  pg : PySem.W.plainGet K C Str.empty = true
  ic : PySem.W.isClsIn K C = true
  ai : PySem.W.findIn K (.ref C) m = some (some (.ref p))
  ty : PySem.W.typeIn K (.ref p) = some (.type "staticmethod")
  get : PySem.W.specialIn K (.ref p) "__get__" = some (some (.builtin "staticmethod.__get__"))
  tk : PySem.W.takesIn K (.ref p) = some false
  cp : PySem.W.copiedNames.contains m = false
  kp : PySem.W.keepIn K (.ref g) = true
theorem SMet.get' {K : PySem.W.Frag} {C : Addr} {mc : Value} {m : Str} {p g : Addr} (k : SMet K C mc m p g) : PySem.W.plainGet K C m = true := k.pg
section
variable {X : Cx} {pins : List (Addr × Obj)} {σ : L2.St} {H : Hp} {s : Shared} {a C p g : Addr} {mc : Value} {m : Str} {A : Around} {E : Value → Shared → Prop}
theorem getsm_cls {pl : Sem Bool} {Q : Value × List Value → Shared → Prop} (I : Inv X pins σ H s) (k : SMet X.K C mc m p g) (h : ∀ s', Inv X pins σ H s' → Q (.ref g, []) s') : wpAny (model X.prog X.w) A (getMethod (.ref C) m pl) Q E s := by
  obtain ⟨rest, hp⟩ := k.rc
  refine PySem.W.method_cls I.kIn k.rd.ga (PySem.W.cls_bind I.kIn k.rd.rd k.at_ ?_)
  exact wpAny_call (PySem.W.sm_get (s := { s with toks := s.toks + 1 }) I.kIn hp (PySem.W.handed_on rfl (h _ (I.tok _))))
theorem getsm_ins {pl : Sem Bool} {ox od : Obj} {Q : Value × List Value → Shared → Prop} (I : Inv X pins σ H s) (J : PySem.W.InstAt s.heap a ox C (some od)) (hl : PySem.W.lookIn m od = some none) (k : SMet X.K C mc m p g)
    (h : ∀ s', Inv X pins σ H s' → Q (.ref g, []) s') : wpAny (model X.prog X.w) A (getMethod (.ref a) m pl) Q E s := by
  obtain ⟨rest, hp⟩ := k.rc
  refine PySem.W.method_usual (r := some (.ref p)) I.kIn J (PySem.W.plainGet_of k.get').1 (PySem.W.plainGet_of k.get').2 k.ai ?_ ?_
  · show ((PySem.W.typeIn X.K (.ref p)).any fun t => t != .type "function" && t != .type "method_descriptor" && t != .type "wrapper_descriptor") = true
    rw [k.ty]
    first
    | rfl
    | decide +kernel
  · refine PySem.W.get_bind I.kIn J (PySem.W.plainGet_of k.get').1 (find_cm k.ic k.ai k.get k.tk k.cp hl) (PySem.W.plainGet_of k.get').2 ?_
    exact wpAny_call (PySem.W.sm_get (s := { s with toks := s.toks + 1 }) I.kIn hp (PySem.W.handed_on rfl (h _ (I.tok _))))
end
/-- e.m(..), e the class, m a static method -/
def tSm (C : Addr) (sp : Sp) (E : XK) (ta : TE) (t : TA) : TE := fun σ H Q => ta σ H fun x H1 => x = .ref C ∧ t σ H1 fun vs H2 => sp vs H2 Q E
def tSmI (C : Addr) (m : Str) (sp : Sp) (E : XK) (ta : TE) (t : TA) : TE := fun σ H Q => ta σ H fun x H1 => ∃ a dx fs, x = .ref a ∧ H1 a = some (.ins C dx fs) ∧ fs.lookup m = none ∧ t σ H1 fun ws H2 => sp ws H2 Q E
section
variable {X : Cx} {CX : CXT} {k : Nat} {C p g : Addr} {mc : Value} {sp : Sp} {E : XK} {o e : Expr} {es : List Expr} {kws : List Keyword} {m : Str} {pos apos : Pos} {ta : TE} {t tk : TA} {pl : Sem Bool} {fd : FuncData} {ps ks : List Str} {gf : List Value → List Value} {gV : List V → List V}
theorem pe_sm (he : PE X o ta) (c : SMet X.K C mc m p g) (F : FnOk X.prog X.w X.K X.mg X.base CX k g fd ps sp) (hr : Room k X.A) (hb : Binds X.K fd ps []) (hx : Passes CX X E) (ha : PA X (e :: es) t)
    (hst : starEach (e :: es) X.env = (false, eval e X.env) :: starEach es X.env := by rfl) (hpl : (backTo pos (starEach es X.env)).any (·.1) = false := by rfl)
    (ht : eval (.Call (.Attribute o m apos) (e :: es) [] pos) X.env = (do
      let ov ← eval o X.env
      standAt apos.atName
      let (f, first) ← holding [ov] (getMethod ov m pl)
      callWith pos f first (backTo pos (starEach (e :: es) X.env)) (backToKw pos (keywordEach [] X.env))) := by rfl) :
    PE X (.Call (.Attribute o m apos) (e :: es) [] pos) (tSm C sp E ta t) := by
  refine ⟨fun pins s σ H Q I h => ?_⟩
  refine PySem.W.methodCall_KW (pl := pl) (thn (he.run pins s σ H _ I h) fun u s1 ⟨x, H1, I1, rx, ex, q⟩ => ?_) ht
  subst ex
  obtain rfl : u = Value.ref C := rx
  refine getsm_cls I1 c fun s2 I2 => ?_
  exact PySem.W.callWith_K (h₀ := X.base) I.ok.mod.kin c.kp (thn (ha.run pos _ s2 σ H1 _ I2 q) fun us s3 ⟨vs, H2, I3, rv, q2⟩ => ⟨I3.kIn, run_at F hr rfl hb hx I3 rv q2⟩) hst hpl
theorem pe_smI (he : PE X o ta) (c : SMet X.K C mc m p g) (F : FnOk X.prog X.w X.K X.mg X.base CX k g fd ps sp) (hr : Room k X.A) (hb : Binds X.K fd ps []) (hx : Passes CX X E) (ha : PA X (e :: es) t)
    (hst : starEach (e :: es) X.env = (false, eval e X.env) :: starEach es X.env := by rfl) (hpl : (backTo pos (starEach es X.env)).any (·.1) = false := by rfl)
    (ht : eval (.Call (.Attribute o m apos) (e :: es) [] pos) X.env = (do
      let ov ← eval o X.env
      standAt apos.atName
      let (f, first) ← holding [ov] (getMethod ov m pl)
      callWith pos f first (backTo pos (starEach (e :: es) X.env)) (backToKw pos (keywordEach [] X.env))) := by rfl) :
    PE X (.Call (.Attribute o m apos) (e :: es) [] pos) (tSmI C m sp E ta t) := by
  refine ⟨fun pins s σ H Q I h => ?_⟩
  refine PySem.W.methodCall_KW (pl := pl) (thn (he.run pins s σ H _ I h) fun u s1 ⟨x, H1, I1, rx, a, dx, fs, ex, ea, l, q⟩ => ?_) ht
  subst ex
  obtain rfl : u = Value.ref a := rx
  obtain ⟨mA, O, rr, _, _, _⟩ := ins_get I1.hok ea
  have hn : mA m = none := RelO.none_of (by rw [← l]; exact rr m)
  obtain ⟨od, J, hl⟩ := O.look
  refine getsm_ins I1 J (by rw [hl m, hn]) c fun s2 I2 => ?_
  exact PySem.W.callWith_K (h₀ := X.base) I.ok.mod.kin c.kp (thn (ha.run pos _ s2 σ H1 _ I2 q) fun us s3 ⟨vs, H2, I3, rv, q2⟩ => ⟨I3.kIn, run_at F hr rfl hb hx I3 rv q2⟩) hst hpl
/-- a def called by keywords alone -/
structure KB (K : PySem.W.Frag) (fd : FuncData) (ps ks : List Str) (g : List Value → List Value) (gV : List V → List V) : Prop where
  to : ∀ (s : Shared) (ws : List Value), K.In s.heap → (g ws).length = ps.length → BindsTo s fd ⟨[], ks.zip ws⟩ (ps.zip (g ws))
  rel : ∀ {zs : List V} {ws : List Value}, Vals zs ws → Vals (gV zs) (g ws)
theorem Fun.kb {K : PySem.W.Frag} {x qual : Str} {st : Stmt} {f : Addr} {fd : FuncData} {ps ks : List Str} {g : List Value → List Value} {gV : List V → List V} (F : Fun K x qual st f fd) (rel : ∀ {zs : List V} {ws : List Value}, Vals zs ws → Vals (gV zs) (g ws))
    (h : ∀ (kV doc pm : Value) (an : Option Addr) (cdv ct : Value) (ws : List Value), (g ws).length = ps.length → bindArgs (PySem.W.fnOf x qual (defArgs st) (defBody st) (defScope st) .none kV doc pm an cdv ct) ⟨[], ks.zip ws⟩ = pure (ps.zip (g ws))) : KB K fd ps ks g gV := by
  obtain ⟨oc, od, kV, doc, pm, an, cdv, ct, osl, rfl, lk, hcd⟩ := F.ex
  exact ⟨fun s ws _ hl => BindsTo.of_eq (h kV doc pm an cdv ct ws hl), rel⟩
def tSmK (C : Addr) (sp : Sp) (gV : List V → List V) (E : XK) (ta : TE) (tk : TA) : TE := fun σ H Q => ta σ H fun x H1 => x = .ref C ∧ tk σ H1 fun zs H2 => sp (gV zs) H2 Q E
theorem pe_smK (he : PE X o ta) (c : SMet X.K C mc m p g) (F : FnOk X.prog X.w X.K X.mg X.base CX k g fd ps sp) (hr : Room k X.A) (hb : KB X.K fd ps ks gf gV) (hx : Passes CX X E) (hkw : PK X kws tk)
    (hall : (backToKw pos (keywordEach kws X.env)).all (·.1.isSome) = true := by rfl) (hks : (backToKw pos (keywordEach kws X.env)).filterMap (·.1) = ks := by rfl)
    (hpl : ((backTo pos (starEach [] X.env)).any (·.1) || (backToKw pos (keywordEach kws X.env)).any (·.1.isNone)) = false := by rfl)
    (ht : eval (.Call (.Attribute o m apos) [] kws pos) X.env = (do
      let ov ← eval o X.env
      standAt apos.atName
      let (f, first) ← holding [ov] (getMethod ov m pl)
      callWith pos f first (backTo pos (starEach [] X.env)) (backToKw pos (keywordEach kws X.env))) := by rfl) :
    PE X (.Call (.Attribute o m apos) [] kws pos) (tSmK C sp gV E ta tk) := by
  refine ⟨fun pins s σ H Q I h => ?_⟩
  refine PySem.W.methodCall_KW (pl := pl) (thn (he.run pins s σ H _ I h) fun u s1 ⟨x, H1, I1, rx, ex, q⟩ => ?_) ht
  subst ex
  obtain rfl : u = Value.ref C := rx
  refine getsm_cls I1 c fun s2 I2 => ?_
  refine PySem.W.callWith_KW0 (h₀ := X.base) I.ok.mod.kin c.kp hall (thn (hkw.run pos pins s2 σ H1 _ I2 q) fun ws s3 ⟨zs, H2, I3, rv, q2⟩ => ⟨I3.kIn, ?_⟩) hpl
  rw [hks]
  have r2 := hb.rel rv
  have hl : (gf ws).length = ps.length := r2.length.symm.trans (F.len _ _ _ _ q2)
  refine wpAny_call (codeAny_mono (F.run X.A X.stack s3 H2 ⟨[], ks.zip ws⟩ (gf ws) (gV zs) Q E hr I3.env0 (hb.to s3 ws I3.kIn hl) r2 q2) fun res s' hq => ?_)
  match res, hq with
  | .error e, hq => exact hx pins σ H2 s3 e s' I3 hq
  | .ok (.ret u), hq => exact I3.after hq
end
end K52
end

section
set_option maxHeartbeats 4000000
/-! the program: rates -/
namespace K52
open PySem PySem.Spec PyProof.Rows L2
theorem bs_value : Bs "ValueError" "ValueError.__new__" "ValueError.__init__" [.type "ValueError", .type "Exception", .type "BaseException", .type "object"] := ⟨F.excBase_ValueError, fun self => F.store_ValueError.passes self⟩
theorem bs_arith : Bs "ArithmeticError" "ArithmeticError.__new__" "ArithmeticError.__init__" [.type "ArithmeticError", .type "Exception", .type "BaseException", .type "object"] := ⟨F.excBase_ArithmeticError, fun self => F.store_ArithmeticError.passes self⟩
/-- an own error with the field value -/
structure ErrV (K : PySem.W.Frag) (mg : Str → Option Value) (n : Str) (C fI : Addr) : Prop where
  T : XB K C [.type "ValueError", .type "Exception", .type "BaseException", .type "object"] "ValueError.__new__"
  J : XI K C fI
  F : XF_value K C fI
  G : mg n = some (.ref C)
structure ErrW (K : PySem.W.Frag) (mg : Str → Option Value) (n : Str) (C fI : Addr) : Prop where
  T : XB K C [.type "ArithmeticError", .type "Exception", .type "BaseException", .type "object"] "ArithmeticError.__new__"
  J : XI K C fI
  F : XF_what_limit K C fI
  G : mg n = some (.ref C)
def tyNs : List String := ["NoneType", "bool", "int", "str", "list", "tuple", "dict"]
theorem tyN_mem (d : PyData) : tyN d ∈ tyNs := match d with
  | .none => (by decide +kernel : "NoneType" ∈ tyNs)
  | .bool _ => (by decide +kernel : "bool" ∈ tyNs)
  | .int _ => (by decide +kernel : "int" ∈ tyNs)
  | .str _ => (by decide +kernel : "str" ∈ tyNs)
  | .list _ => (by decide +kernel : "list" ∈ tyNs)
  | .tuple _ => (by decide +kernel : "tuple" ∈ tyNs)
  | .dict _ => (by decide +kernel : "dict" ∈ tyNs)
/-- what the top has written of the class Rate -/
structure RateC (K : PySem.W.Frag) (mg : Str → Option Value) (ad : Str → Addr) (fd : Str → FuncData) : Prop where
  G : mg "Rate" = some (.ref (ad "Rate"))
  cl : Cls K (ad "Rate")
  mks : Mk K (ad "Rate") (ad "Rate.__init__")
  np : NoAttr K (ad "Rate") "_p"
  nq : NoAttr K (ad "Rate") "_q"
  ml : MulK K (ad "Rate") (ad "Rate.__mul__") (ad "Rate.__rmul__")
  mro : (PySem.W.clsIn K (ad "Rate")).any (fun cd => cd.mro == [.ref (ad "Rate"), .type "object"]) = true
  ob : PySem.W.mroIn K (ad "Rate") (.type "object") = some true
  ca : PySem.W.findIn K (.ref (ad "Rate")) "__class__" = some (some (.builtin "object.__class__"))
  cn : PySem.W.specialIn K (.builtin "object.__class__") "__get__" = some (some (.builtin "getset_descriptor.__get__"))
  ct : PySem.W.takesIn K (.builtin "object.__class__") = some true
  ne : PySem.W.findIn K (.ref (ad "Rate")) "__ne__" = some (some (.builtin "object.__ne__"))
  eq : PySem.W.findIn K (.ref (ad "Rate")) "__eq__" = some (some (.ref (ad "Rate.__eq__")))
  eqf : PySem.W.isFn K (.ref (ad "Rate.__eq__")) = true
  st : PySem.W.findIn K (.ref (ad "Rate")) "__str__" = some (some (.ref (ad "Rate.__str__")))
  stf : PySem.W.isFn K (.ref (ad "Rate.__str__")) = true
  rp : PySem.W.findIn K (.ref (ad "Rate")) "__repr__" = some (some (.ref (ad "Rate.__repr__")))
  rpf : PySem.W.isFn K (.ref (ad "Rate.__repr__")) = true
  rd : SMet K (ad "Rate") (.type "type") "read" (ad "Rate.read!") (ad "Rate.read")
  pp : PropOf K (ad "Rate") "p" (ad "Rate.p!") (ad "Rate.p")
  pq : PropOf K (ad "Rate") "q" (ad "Rate.q!") (ad "Rate.q")
  ps : PropOf K (ad "Rate") "size" (ad "Rate.size!") (ad "Rate.size")
  ty : ∀ T ∈ tyNs, PySem.W.kitOne K (.type T) (.ref (ad "Rate")) = some false ∧ PySem.W.subIn K (.ref (ad "Rate")) (.type T) = some false ∧ PySem.W.subIn K (.type T) (.ref (ad "Rate")) = some false
  F_init : Fun K "__init__" "Rate.__init__" sR_init (ad "Rate.__init__") (fd "Rate.__init__")
  b_init : Binds K (fd "Rate.__init__") ["self", "p", "q"] []
  F_read : Fun K "read" "Rate.read" sR_read (ad "Rate.read") (fd "Rate.read")
  b_read : Binds K (fd "Rate.read") ["string"] []
  F_p : Fun K "p" "Rate.p" sR_p (ad "Rate.p") (fd "Rate.p")
  b_p : Binds K (fd "Rate.p") ["self"] []
  F_q : Fun K "q" "Rate.q" sR_q (ad "Rate.q") (fd "Rate.q")
  b_q : Binds K (fd "Rate.q") ["self"] []
  F_size : Fun K "size" "Rate.size" sR_size (ad "Rate.size") (fd "Rate.size")
  b_size : Binds K (fd "Rate.size") ["self"] []
  F_mul : Fun K "__mul__" "Rate.__mul__" sR_mul (ad "Rate.__mul__") (fd "Rate.__mul__")
  b_mul : Binds K (fd "Rate.__mul__") ["self", "other"] []
  F_rmul : Fun K "__rmul__" "Rate.__rmul__" sR_rmul (ad "Rate.__rmul__") (fd "Rate.__rmul__")
  b_rmul : Binds K (fd "Rate.__rmul__") ["self", "other"] []
  F_eq : Fun K "__eq__" "Rate.__eq__" sR_eq (ad "Rate.__eq__") (fd "Rate.__eq__")
  b_eq : Binds K (fd "Rate.__eq__") ["self", "other"] []
  F_str : Fun K "__str__" "Rate.__str__" sR_str (ad "Rate.__str__") (fd "Rate.__str__")
  b_str : Binds K (fd "Rate.__str__") ["self"] []
  F_repr : Fun K "__repr__" "Rate.__repr__" sR_repr (ad "Rate.__repr__") (fd "Rate.__repr__")
  b_repr : Binds K (fd "Rate.__repr__") ["self"] []
/-- a Rate stands at a -/
def RatO (C : Addr) (H : Hp) (a : Addr) (p q : Int) : Prop := ∃ dx, H a = some (.ins C dx [(("_p" : Str), .int p), (("_q" : Str), .int q)])
theorem RatO.same {C : Addr} {H H' : Hp} {a : Addr} {p q : Int} (h : RatO C H a p q) (s : Same H H') : RatO C H' a p q := h.imp fun _ e => s _ _ e
theorem Dx.fresh {H : Hp} {v : V} {d : PyData} {x : Addr} (h : Dx H v d) (e : H x = none) : v ≠ .ref x := fun z => by
  subst z
  cases h with
  | lst f _ => rw [e] at f; cases f
  | tup f _ => rw [e] at f; cases f
  | dic f _ => rw [e] at f; cases f
def rateD : PyData → Bool
  | .int i => decide (1 ≤ i) && decide (i ≤ 6)
  | _ => false
def betweenD (lo hi : Int) : PyData → Bool
  | .int i => decide (lo ≤ i) && decide (i ≤ hi)
  | _ => false
def timesD : PyData → Bool
  | .int i => decide (1 ≤ i)
  | _ => false
def spBetween : Sp := fun vs H Q _ => ∃ (v : V) (d : PyData) (lo hi : Int), vs = [v, .int lo, .int hi] ∧ Dx H v d ∧ Tame d ∧ ∀ H', Same H H' → Q (.bl (betweenD lo hi d)) H'
/-- an error of the class C that holds v -/
def Err (C : Addr) (E : XK) (H : Hp) (v : V) : Prop := ∀ (H' : Hp) (p : Addr), Same H H' → H' p = none → E (.ref C) (some p) (upd H' p (.xd [(("value" : Str), v)]))
theorem Err.same {C : Addr} {E : XK} {H H' : Hp} {v : V} (h : Err C E H v) (s : Same H H') : Err C E H' v := fun H2 p s2 e => h H2 p (Same.trans s s2) e
def spInit (C N : Addr) : Sp := fun vs H Q E => ∃ (x dx : Addr) (a b : V) (d e : PyData), vs = [.ref x, a, b] ∧ H x = some (.ins C dx []) ∧ Dx H a d ∧ Dx H b e ∧ Tame d ∧ Tame e ∧
  (rateD d = false → Err N E H a) ∧ (rateD d = true → rateD e = false → Err N E H b) ∧
  (∀ p q, d = .int p → e = .int q → rateD d = true → rateD e = true → ∀ H', But x H H' → H' x = some (.ins C dx [(("_p" : Str), .int p), (("_q" : Str), .int q)]) → Q .non H')
def spCheck (N : Addr) : Sp := fun vs H Q E => ∃ (v : V) (d : PyData), vs = [v] ∧ Dx H v d ∧ Tame d ∧ (timesD d = false → Err N E H v) ∧ (timesD d = true → ∀ H', Same H H' → Q .non H')
def spGetP (C : Addr) (f : Str) : Sp := getSp C f
def spSize (C : Addr) : Sp := fun vs H Q _ => ∃ (a : Addr) (p q : Int), vs = [.ref a] ∧ RatO C H a p q ∧ 1 ≤ p ∧ p ≤ 6 ∧ Q (.int (2 ^ p.toNat)) H
def fitP (p q : Int) : Prop := 1 ≤ p ∧ p ≤ 6 ∧ 1 ≤ q ∧ q ≤ 6
/-- an error TooMany -/
def ErrM (C : Addr) (E : XK) (H : Hp) : Prop := ∀ (H' : Hp) (p : Addr), Same H H' → H' p = none → E (.ref C) (some p) (upd H' p (.xd [(("limit" : Str), .int 6), (("what" : Str), .str "rate")]))
theorem ErrM.same {C : Addr} {E : XK} {H H' : Hp} (h : ErrM C E H) (s : Same H H') : ErrM C E H' := fun H2 p s2 e => h H2 p (Same.trans s s2) e
def spMul (C N M : Addr) : Sp := fun vs H Q E => ∃ (a : Addr) (p q : Int) (v : V) (d : PyData), vs = [.ref a, v] ∧ RatO C H a p q ∧ fitP p q ∧ Dx H v d ∧ Tame d ∧
  (timesD d = false → Err N E H v) ∧ (∀ i, d = .int i → 1 ≤ i → 6 < max p q * i → ErrM M E H) ∧
  (∀ i, d = .int i → 1 ≤ i → max p q * i ≤ 6 → ∀ (H' : Hp) (r : Addr), Same H H' → H r = none → RatO C H' r (p * i) (q * i) → Q (.ref r) H')
section
variable {P : Program} {w : World} {K : PySem.W.Frag} {mg : Str → Option Value} {base : Heap} {ad : Str → Addr} {fd : Str → FuncData}
theorem scIsInteger : FnScope ["value"] ["value"] (defScope sIsInteger) := ⟨rfl, rfl, rfl, by decide +kernel, rfl, by decide +kernel, by decide +kernel⟩
theorem ok_is_integer (X : Tx K mg ad fd) : FnOk P w K mg base CX0 1 (ad "is_integer") (fd "is_integer") ["value"] (spB wholeD) := by
  refine X.F_is_integer.ok scIsInteger (fun vs H Q E h => ?_) (fun cdv A outer s H vs Q E hr h => ?_)
  · obtain ⟨v, d, rfl, _⟩ := h
    rfl
  · obtain ⟨v, d, rfl, hd, ht, q⟩ := h
    refine ⟨_, (pss_one (ps_ret (by exact (pe_and (pe_callB call_isi (by rfl) X.m_isinstance (by decide +kernel) (pa_cons (pv 0) (pa_cons (pe_bltn (v := .ty "int") (by rfl) X.m_int (by decide +kernel) rfl) pa_nil))) (pe_one (pe_not (pe_callB call_isi (by rfl) X.m_isinstance (by decide +kernel) (pa_cons (pv 0) (pa_cons (pe_bltn (v := .ty "bool") (by rfl) X.m_bool (by decide +kernel) rfl) pa_nil))))))))), ?_⟩
    refine ⟨v, rfl, v, .ty "int", _, _, _, rfl, .ty _, dx_ty hd, kit_ty (kit_i d), _, rfl, ?_⟩
    have q' := q H Same.refl
    cases e : isI d with
    | false =>
      rw [show wholeD d = false by unfold wholeD; rw [e]; rfl] at q'
      exact q'
    | true =>
      refine ⟨v, rfl, v, .ty "bool", _, _, _, rfl, .ty _, dx_ty hd, kit_ty (kit_b d), _, rfl, ?_⟩
      rw [show wholeD d = !isB d by unfold wholeD; rw [e]; rfl] at q'
      exact q'
theorem scIsBetween : FnScope ["value", "low", "high"] ["value", "low", "high"] (defScope sIsBetween) := ⟨rfl, rfl, rfl, by decide +kernel, rfl, by decide +kernel, by decide +kernel⟩
theorem ok_is_between (X : Tx K mg ad fd) : FnOk P w K mg base CX0 2 (ad "is_between") (fd "is_between") ["value", "low", "high"] spBetween := by
  have G_is_integer : FnOk P w K mg base CX0 1 (ad "is_integer") (fd "is_integer") ["value"] (spB wholeD) := ok_is_integer X
  refine X.F_is_between.ok scIsBetween (fun vs H Q E h => ?_) (fun cdv A outer s H vs Q E hr h => ?_)
  · obtain ⟨v, d, lo, hi, rfl, _⟩ := h
    rfl
  · obtain ⟨v, d, lo, hi, rfl, hd, ht, q⟩ := h
    have HR_is_integer := hr
    refine ⟨_, (pss_one (ps_ret (by exact (pe_and (pe_call G_is_integer HR_is_integer (by rfl) X.g_is_integer X.F_is_integer.kp X.b_is_integer .nil pass0 (pa_cons (pv 0) pa_nil)) (pe_one (pe_chain op_le op_le (pv 1) (pv 0) (pv 2))))))), ?_⟩
    refine ⟨v, rfl, v, d, rfl, hd, ht, fun H1 s1 => ⟨_, rfl, ?_⟩⟩
    have q' := q H1 s1
    cases hd with
    | int i =>
      refine ⟨.int lo, rfl, .int i, rfl, lo, i, rfl, rfl, _, rfl, ?_⟩
      cases e : decide (lo ≤ i) with
      | true =>
        rw [show betweenD lo hi (.int i) = decide (i ≤ hi) by show (decide (lo ≤ i) && decide (i ≤ hi)) = _; rw [e]; rfl] at q'
        exact iteT ⟨.int hi, rfl, i, hi, rfl, rfl, q'⟩
      | false =>
        rw [show betweenD lo hi (.int i) = false by show (decide (lo ≤ i) && decide (i ≤ hi)) = _; rw [e]; rfl] at q'
        exact iteF q'
    | non => exact q'
    | bl b => exact q'
    | str x => exact q'
    | lst e _ => exact q'
    | tup e _ => exact q'
    | dic e _ => exact q'
theorem scCheckTimes : FnScope ["times"] ["times"] (defScope sCheckTimes) := ⟨rfl, rfl, rfl, by decide +kernel, rfl, by decide +kernel, by decide +kernel⟩
theorem ok_check_times (X : Tx K mg ad fd) {N fN : Addr} (L_InvalidNumber : ErrV K mg "InvalidNumber" N fN) : FnOk P w K mg base (L2.CX P w) 3 (ad "check_times") (fd "check_times") ["times"] (spCheck N) := by
  have G_is_integer : FnOk P w K mg base CX0 1 (ad "is_integer") (fd "is_integer") ["value"] (spB wholeD) := ok_is_integer X
  refine X.F_check_times.okX scCheckTimes (fun vs H Q E h => ?_) (fun cdv A outer s H vs Q E hr h => ?_)
  · obtain ⟨v, d, rfl, _⟩ := h
    rfl
  · obtain ⟨v, d, rfl, hd, ht, q1, q2⟩ := h
    have HRX := hr
    have HR_is_integer : Room 1 _ := hr.mono (by decide)
    refine ⟨_, (pss_one (ps_if (PW.pt (pw_or (pt_not (pt_val (pe_call G_is_integer HR_is_integer (by rfl) X.g_is_integer X.F_is_integer.kp X.b_is_integer .nil pass0 (pa_cons (pv 0) pa_nil)))) (pw_or1 (pt_cmpR op_lt (pv 0) pe_int (nomark _)))))
  (pss_one (ps_raise rfl (takes_of rfl rfl rfl rfl) (pmk_value L_InvalidNumber.T bs_value L_InvalidNumber.J L_InvalidNumber.F HRX (by rfl) L_InvalidNumber.G (by exact (pa_cons (pv 0) pa_nil)))))
  pss_nil)), ?_⟩
    refine ⟨v, rfl, v, d, rfl, hd, ht, fun H1 s1 => ⟨_, rfl, ?_⟩⟩
    have bad : timesD d = false → tSeq (fun _ σ H => tRv N (tCons (tVar 0) tNil) σ H fun cls d H' => E cls d H') tNext { nx := fun _ H' => Q .non H', rt := Q } [some v] H1 := fun e => ⟨v, rfl, v, rfl, fun p hp => (q1 e) H1 p s1 hp⟩
    have bad' : timesD d = false → ∃ x, ([some v] : L2.St)[0]? = some (some x) ∧ ∃ y, [x] = [y] ∧ ∀ d', H1 d' = none → E (.ref N) (some d') (upd H1 d' (.xd [(("value" : Str), y)])) := fun e => ⟨v, rfl, v, rfl, fun p hp => (q1 e) H1 p s1 hp⟩
    cases hd with
    | int i =>
      refine iteF ⟨.int i, rfl, i, 1, rfl, rfl, _, rfl, ?_⟩
      cases e : decide (1 ≤ i) with
      | true =>
        have h1 : 1 ≤ i := of_decide_eq_true e
        rw [decide_eq_false (show ¬ i < 1 by omega)]
        exact iteF (q2 e H1 s1)
      | false =>
        have h1 : ¬ 1 ≤ i := of_decide_eq_false e
        rw [decide_eq_true (show i < 1 by omega)]
        exact iteT (bad' e)
    | non => exact iteT (bad' rfl)
    | bl b => exact iteT (bad' rfl)
    | str x => exact iteT (bad' rfl)
    | lst e _ => exact iteT (bad' rfl)
    | tup e _ => exact iteT (bad' rfl)
    | dic e _ => exact iteT (bad' rfl)
end
end K52
end

section
set_option maxHeartbeats 4000000
/-! the class: made, read off, asked -/
namespace K52
open PySem PySem.Spec PyProof.Rows L2
section
variable {P : Program} {w : World} {K : PySem.W.Frag} {mg : Str → Option Value} {base : Heap} {ad : Str → Addr} {fd : Str → FuncData}
theorem scR_init : FnScope ["self", "p", "q", "number"] ["self", "p", "q"] (defScope sR_init) := ⟨rfl, rfl, rfl, by decide +kernel, rfl, by decide +kernel, by decide +kernel⟩
theorem But.at {p a : Addr} {H H' : Hp} {o : HO} (b : But p H H') (e : H a = some o) (n : a ≠ p) : H' a = some o := b _ _ n e
theorem between_rate (d : PyData) : betweenD 1 6 d = rateD d := by cases d <;> rfl
theorem ok_init (X : Tx K mg ad fd) (RC : RateC K mg ad fd) {N fN : Addr} (L_InvalidNumber : ErrV K mg "InvalidNumber" N fN) : FnOk P w K mg base (L2.CX P w) 4 (ad "Rate.__init__") (fd "Rate.__init__") ["self", "p", "q"] (spInit (ad "Rate") N) := by
  have G_is_between : FnOk P w K mg base CX0 2 (ad "is_between") (fd "is_between") ["value", "low", "high"] spBetween := ok_is_between X
  obtain ⟨tM, GLOB_MOST_IN_RATE⟩ := X.g_MOST_IN_RATE
  refine RC.F_init.okX scR_init (fun vs H Q E h => ?_) (fun cdv A outer s H vs Q E hr h => ?_)
  · obtain ⟨x, dx, a, b, d, e, rfl, _⟩ := h
    rfl
  · obtain ⟨x, dx, a, b, d, e, rfl, hx, ha, hb, ta, tb, q1, q2, q3⟩ := h
    have HRX := hr
    have HR_is_between : Room 2 _ := hr.mono (by decide)
    refine ⟨_, (pss_cons (ps_for (passes_of rfl) rfl (pi_tup (pe_tup (pa_cons (pv 1) (pa_cons (pv 2) pa_nil)))) (pg_name (i := 3) scR_init.nd rfl (.inl rfl))
  (pss_one (ps_if (pt_not (pt_val (pe_call G_is_between HR_is_between (by rfl) X.g_is_between X.F_is_between.kp X.b_is_between .nil pass0 (pa_cons (pv 3) (pa_cons pe_int (pa_cons (pe_glob (v := .int 6) (by rfl) GLOB_MOST_IN_RATE ⟨_, rfl⟩) pa_nil))))))
  (pss_one (ps_raise rfl (takes_of rfl rfl rfl rfl) (pmk_value L_InvalidNumber.T bs_value L_InvalidNumber.J L_InvalidNumber.F HRX (by rfl) L_InvalidNumber.G (by exact (pa_cons (pv 3) pa_nil)))))
  pss_nil)))
  (pss_cons (ps_fld (pv 0) (by exact (pv 1)) rfl)
  (pss_one (ps_fld (pv 0) (by exact (pv 2)) rfl)))), ?_⟩
    refine ⟨a, rfl, b, rfl, (by show 2 ≤ sizeLine; decide), fun t ht => ⟨t, rfl, ⟨_, SqT.of upd_same⟩, ?_⟩⟩
    refine for_tup (K := K) (a := t) (xs := [a, b]) (fun i σ H' => ∃ r, σ = [some (.ref x), some a, some b, r] ∧ Same H H' ∧ H' t = some (.tup [a, b]) ∧ (0 < i → rateD d = true) ∧ (1 < i → rateD e = true))
      ⟨none, rfl, Same.new ht, upd_same, fun z => absurd z (by decide), fun z => absurd z (by decide)⟩ (fun i σ H' _ ⟨_, _, _, et, _⟩ => SqT.of et) ?_ ?_
    · rintro i v σ H' hv ⟨r, rfl, hs, et, w0, w1⟩
      match i, hv with
      | 0, hv =>
        obtain rfl : a = v := Option.some.inj hv
        refine ⟨_, rfl, a, d, 1, 6, rfl, ha.same hs, ta, fun H1 s1 => ⟨_, rfl, ?_⟩⟩
        rw [between_rate]
        cases ew : rateD d with
        | true => exact iteF ⟨_, rfl, Same.trans hs s1, s1 _ _ et, fun _ => rfl, fun z => absurd z (by decide)⟩
        | false => exact iteT ⟨_, rfl, a, rfl, fun p hp => q1 ew H1 p (Same.trans hs s1) hp⟩
      | 1, hv =>
        obtain rfl : b = v := Option.some.inj hv
        refine ⟨_, rfl, b, e, 1, 6, rfl, hb.same hs, tb, fun H1 s1 => ⟨_, rfl, ?_⟩⟩
        have w0' := w0 (by decide)
        rw [between_rate]
        cases ew : rateD e with
        | true => exact iteF ⟨_, rfl, Same.trans hs s1, s1 _ _ et, fun _ => w0', fun _ => rfl⟩
        | false => exact iteT ⟨_, rfl, b, rfl, fun p hp => q2 w0' ew H1 p (Same.trans hs s1) hp⟩
      | i + 2, hv => cases hv
    · rintro σ H' ⟨r, rfl, hs, et, w0, w1⟩
      have e0 := w0 (show 0 < 2 by decide)
      have e1 := w1 (show 1 < 2 by decide)
      cases ha with
      | int p =>
        cases hb with
        | int q =>
          refine ⟨_, rfl, .ref x, rfl, x, ad "Rate", dx, [], rfl, hs _ _ hx, RC.cl, RC.np, by decide, ?_⟩
          refine ⟨_, rfl, .ref x, rfl, x, ad "Rate", dx, _, rfl, upd_same, RC.cl, RC.nq, (by show 1 < 1000; decide), ?_⟩
          refine q3 p q rfl rfl e0 e1 _ (fun b o n z => ?_) upd_same
          rw [upd_ne n, upd_ne n]
          exact hs _ _ z
        | _ => cases e1
      | _ => cases e0
theorem scR_p : FnScope ["self"] ["self"] (defScope sR_p) := ⟨rfl, rfl, rfl, by decide +kernel, rfl, by decide +kernel, by decide +kernel⟩
theorem scR_q : FnScope ["self"] ["self"] (defScope sR_q) := ⟨rfl, rfl, rfl, by decide +kernel, rfl, by decide +kernel, by decide +kernel⟩
theorem scR_size : FnScope ["self"] ["self"] (defScope sR_size) := ⟨rfl, rfl, rfl, by decide +kernel, rfl, by decide +kernel, by decide +kernel⟩
theorem scR_str : FnScope ["self"] ["self"] (defScope sR_str) := ⟨rfl, rfl, rfl, by decide +kernel, rfl, by decide +kernel, by decide +kernel⟩
theorem scR_repr : FnScope ["self"] ["self"] (defScope sR_repr) := ⟨rfl, rfl, rfl, by decide +kernel, rfl, by decide +kernel, by decide +kernel⟩
/-- what is told of a Rate -/
def spRat (C : Addr) (f : Int → Int → V) : Sp := fun vs H Q _ => ∃ (a : Addr) (p q : Int), vs = [.ref a] ∧ RatO C H a p q ∧ fitP p q ∧ Q (f p q) H
theorem ok_p (RC : RateC K mg ad fd) : FnOk P w K mg base CX0 1 (ad "Rate.p") (fd "Rate.p") ["self"] (spRat (ad "Rate") fun p _ => .int p) := by
  refine RC.F_p.ok scR_p (fun vs H Q E h => ?_) (fun cdv A outer s H vs Q E hr h => ?_)
  · obtain ⟨a, p, q, rfl, _⟩ := h
    rfl
  · obtain ⟨a, p, q, rfl, ⟨dx, ha⟩, fit, k⟩ := h
    refine ⟨_, (pss_one (ps_ret (by exact (pe_fld (pv 0) rfl)))), ?_⟩
    exact ⟨.ref a, rfl, a, _, dx, _, _, rfl, ha, RC.cl, RC.np, rfl, k⟩
theorem ok_q (RC : RateC K mg ad fd) : FnOk P w K mg base CX0 1 (ad "Rate.q") (fd "Rate.q") ["self"] (spRat (ad "Rate") fun _ q => .int q) := by
  refine RC.F_q.ok scR_q (fun vs H Q E h => ?_) (fun cdv A outer s H vs Q E hr h => ?_)
  · obtain ⟨a, p, q, rfl, _⟩ := h
    rfl
  · obtain ⟨a, p, q, rfl, ⟨dx, ha⟩, fit, k⟩ := h
    refine ⟨_, (pss_one (ps_ret (by exact (pe_fld (pv 0) rfl)))), ?_⟩
    exact ⟨.ref a, rfl, a, _, dx, _, _, rfl, ha, RC.cl, RC.nq, rfl, k⟩
theorem ok_size (RC : RateC K mg ad fd) : FnOk P w K mg base CX0 1 (ad "Rate.size") (fd "Rate.size") ["self"] (spRat (ad "Rate") fun p _ => .int (2 ^ p.toNat)) := by
  refine RC.F_size.ok scR_size (fun vs H Q E h => ?_) (fun cdv A outer s H vs Q E hr h => ?_)
  · obtain ⟨a, p, q, rfl, _⟩ := h
    rfl
  · obtain ⟨a, p, q, rfl, ⟨dx, ha⟩, fit, k⟩ := h
    refine ⟨_, (pss_one (ps_ret (by exact (pe_op op_shl pe_int (pe_fld (pv 0) rfl))))), ?_⟩
    refine ⟨.ref a, rfl, a, _, dx, _, _, rfl, ha, RC.cl, RC.np, rfl, 1, p, rfl, rfl, (by have h1 := fit.1; have h2 := fit.2.1; refine ⟨?_, ?_, ?_⟩ <;> first | omega | decide), ?_⟩
    show Q (.int (1 * 2 ^ p.toNat)) H
    rw [Int.one_mul]
    exact k
theorem log6 {p : Int} (h1 : 1 ≤ p) (h2 : p ≤ 6) : p.natAbs.log2 < 1920 := by
  have : p.natAbs.log2 < 3 := (Nat.log2_lt (by omega)).mpr (by omega)
  omega
def strP (p q : Int) : Str := toString p ++ ":" ++ toString q
def repP (p q : Int) : Str := "Rate(" ++ toString p ++ ", " ++ toString q ++ ")"
theorem len_int {p : Int} (h1 : 1 ≤ p) (h2 : p ≤ 6) : (toString p : Str).length = 1 := by
  have : p = 1 ∨ p = 2 ∨ p = 3 ∨ p = 4 ∨ p = 5 ∨ p = 6 := by omega
  rcases this with rfl | rfl | rfl | rfl | rfl | rfl <;> decide +kernel
theorem str_step {p q : Int} (f : fitP p q) : ((Str.empty ++ (toString p : Str)).length ≤ sizeLine ∧ ((Str.empty ++ (toString p : Str)) ++ (":" : Str)).length ≤ sizeLine ∧ (((Str.empty ++ (toString p : Str)) ++ (":" : Str)) ++ (toString q : Str)).length ≤ sizeLine) ∧ ((Str.empty ++ (toString p : Str)) ++ (":" : Str)) ++ (toString q : Str) = strP p q := by
  obtain ⟨h1, h2, h3, h4⟩ := f
  have a : p = 1 ∨ p = 2 ∨ p = 3 ∨ p = 4 ∨ p = 5 ∨ p = 6 := by omega
  have b : q = 1 ∨ q = 2 ∨ q = 3 ∨ q = 4 ∨ q = 5 ∨ q = 6 := by omega
  rcases a with rfl | rfl | rfl | rfl | rfl | rfl <;> rcases b with rfl | rfl | rfl | rfl | rfl | rfl <;> decide +kernel
theorem rep_step {p q : Int} (f : fitP p q) : ((Str.empty ++ ("Rate(" : Str)).length ≤ sizeLine ∧ ((Str.empty ++ ("Rate(" : Str)) ++ (toString p : Str)).length ≤ sizeLine ∧ (((Str.empty ++ ("Rate(" : Str)) ++ (toString p : Str)) ++ (", " : Str)).length ≤ sizeLine ∧ ((((Str.empty ++ ("Rate(" : Str)) ++ (toString p : Str)) ++ (", " : Str)) ++ (toString q : Str)).length ≤ sizeLine ∧ (((((Str.empty ++ ("Rate(" : Str)) ++ (toString p : Str)) ++ (", " : Str)) ++ (toString q : Str)) ++ (")" : Str)).length ≤ sizeLine) ∧
    ((((Str.empty ++ ("Rate(" : Str)) ++ (toString p : Str)) ++ (", " : Str)) ++ (toString q : Str)) ++ (")" : Str) = repP p q := by
  obtain ⟨h1, h2, h3, h4⟩ := f
  have a : p = 1 ∨ p = 2 ∨ p = 3 ∨ p = 4 ∨ p = 5 ∨ p = 6 := by omega
  have b : q = 1 ∨ q = 2 ∨ q = 3 ∨ q = 4 ∨ q = 5 ∨ q = 6 := by omega
  rcases a with rfl | rfl | rfl | rfl | rfl | rfl <;> rcases b with rfl | rfl | rfl | rfl | rfl | rfl <;> decide +kernel
theorem ok_str (RC : RateC K mg ad fd) : FnOk P w K mg base CX0 1 (ad "Rate.__str__") (fd "Rate.__str__") ["self"] (spRat (ad "Rate") fun p q => .str (strP p q)) := by
  refine RC.F_str.ok scR_str (fun vs H Q E h => ?_) (fun cdv A outer s H vs Q E hr h => ?_)
  · obtain ⟨a, p, q, rfl, _⟩ := h
    rfl
  · obtain ⟨a, p, q, rfl, ⟨dx, ha⟩, fit, k⟩ := h
    obtain ⟨⟨l1, l2, l3⟩, e⟩ := str_step fit
    refine ⟨_, (pss_one (ps_ret (by exact (pe_joined (.cons (pe_fmt (pe_fld (pv 0) rfl)) (.cons pe_str (.cons (pe_fmt (pe_fld (pv 0) rfl)) .nil))))))), ?_⟩
    refine ⟨.ref a, rfl, a, _, dx, _, _, rfl, ha, RC.cl, RC.np, rfl, .inr ⟨p, rfl, log6 fit.1 fit.2.1, _, rfl, l1, _, rfl, l2, .ref a, rfl, a, _, dx, _, _, rfl, ha, RC.cl, RC.nq, rfl, .inr ⟨q, rfl, log6 fit.2.2.1 fit.2.2.2, _, rfl, l3, ?_⟩⟩⟩
    show Q (.str _) H
    rw [e]
    exact k
theorem ok_repr (RC : RateC K mg ad fd) : FnOk P w K mg base CX0 1 (ad "Rate.__repr__") (fd "Rate.__repr__") ["self"] (spRat (ad "Rate") fun p q => .str (repP p q)) := by
  refine RC.F_repr.ok scR_repr (fun vs H Q E h => ?_) (fun cdv A outer s H vs Q E hr h => ?_)
  · obtain ⟨a, p, q, rfl, _⟩ := h
    rfl
  · obtain ⟨a, p, q, rfl, ⟨dx, ha⟩, fit, k⟩ := h
    obtain ⟨⟨l1, l2, l3, l4, l5⟩, e⟩ := rep_step fit
    refine ⟨_, (pss_one (ps_ret (by exact (pe_joined (.cons pe_str (.cons (pe_fmt (pe_fld (pv 0) rfl)) (.cons pe_str (.cons (pe_fmt (pe_fld (pv 0) rfl)) (.cons pe_str .nil))))))))), ?_⟩
    refine ⟨_, rfl, l1, .ref a, rfl, a, _, dx, _, _, rfl, ha, RC.cl, RC.np, rfl, .inr ⟨p, rfl, log6 fit.1 fit.2.1, _, rfl, l2, _, rfl, l3, .ref a, rfl, a, _, dx, _, _, rfl, ha, RC.cl, RC.nq, rfl, .inr ⟨q, rfl, log6 fit.2.2.1 fit.2.2.2, _, rfl, l4, _, rfl, l5, ?_⟩⟩⟩
    show Q (.str _) H
    rw [e]
    exact k
end
/-! ### rules -/
section
variable {X : Cx} {K : PySem.W.Frag} {ad : Str → Addr} {fd : Str → FuncData} {e : Expr} {ta : TE} {pos : Pos} {k : Nat}
theorem pe_prop_p (RC : RateC X.K X.mg ad fd) (hr : Room 2 X.A) (he : PE X e ta) (hab : attributeBase e "p" X.env (eval e X.env) = eval e X.env) : PE X (.Attribute e "p" pos) (tProp (ad "Rate") (spRat (ad "Rate") fun p _ => .int p) [] E0 ta) :=
  pe_prop he RC.cl RC.pp (ok_p RC) hr RC.b_p .nil pass0 hab
theorem pe_prop_q (RC : RateC X.K X.mg ad fd) (hr : Room 2 X.A) (he : PE X e ta) (hab : attributeBase e "q" X.env (eval e X.env) = eval e X.env) : PE X (.Attribute e "q" pos) (tProp (ad "Rate") (spRat (ad "Rate") fun _ q => .int q) [] E0 ta) :=
  pe_prop he RC.cl RC.pq (ok_q RC) hr RC.b_q .nil pass0 hab
theorem pe_prop_size (RC : RateC X.K X.mg ad fd) (hr : Room 2 X.A) (he : PE X e ta) (hab : attributeBase e "size" X.env (eval e X.env) = eval e X.env) : PE X (.Attribute e "size" pos) (tProp (ad "Rate") (spRat (ad "Rate") fun p _ => .int (2 ^ p.toNat)) [] E0 ta) :=
  pe_prop he RC.cl RC.ps (ok_size RC) hr RC.b_size .nil pass0 hab
end
/-- a Rate made: from data -/
theorem made {C N : Addr} {H : Hp} {a b : V} {d e : PyData} {Q : VK} {E : XK} (ha : Dx H a d) (hb : Dx H b e) (ta : Tame d) (tb : Tame e) (q1 : rateD d = false → Err N E H a) (q2 : rateD d = true → rateD e = false → Err N E H b)
    (q3 : ∀ p q, d = .int p → e = .int q → fitP p q → ∀ (H' : Hp) (r : Addr), Same H H' → H r = none → RatO C H' r p q → Q (.ref r) H') :
    ∀ x dx, H x = none → H dx = none → dx ≠ x → spInit C N ([.ref x, a, b] ++ []) (upd (upd H dx (.own x)) x (.ins C dx [])) (fun v H2 => v = .non ∧ Q (.ref x) H2) E := by
  intro x dx hx hd ne
  have s1 := Same.new hd (o := .own x)
  have hx1 : (upd H dx (.own x)) x = none := by rw [upd_ne ne.symm]; exact hx
  have s2 := Same.trans s1 (Same.new hx1 (o := .ins C dx []))
  refine ⟨x, dx, a, b, d, e, rfl, upd_same, ha.same s2, hb.same s2, ta, tb, fun z => (q1 z).same s2, fun z y => (q2 z y).same s2, fun p q ed ee wd we H' b' e' => ⟨rfl, ?_⟩⟩
  subst ed ee
  have f1 := Bool.and_eq_true_iff.mp (show (decide (1 ≤ p) && decide (p ≤ 6)) = true from wd)
  have f2 := Bool.and_eq_true_iff.mp (show (decide (1 ≤ q) && decide (q ≤ 6)) = true from we)
  refine q3 p q rfl rfl ⟨of_decide_eq_true f1.1, of_decide_eq_true f1.2, of_decide_eq_true f2.1, of_decide_eq_true f2.2⟩ H' x (fun c o z => b' c o (ne_of_none z hx) (s2 _ _ z)) hx ⟨dx, e'⟩
end K52
end

section
set_option maxHeartbeats 4000000
/-! multiples; == -/
namespace K52
open PySem PySem.Spec PyProof.Rows L2
def foT : PyData → Option Value
  | .int _ => some (.builtin "int.__mul__")
  | .bool _ => some (.builtin "int.__mul__")
  | .str _ => some (.builtin "str.__mul__")
  | .list _ => some (.builtin "list.__mul__")
  | .tuple _ => some (.builtin "tuple.__mul__")
  | _ => none
def roT : PyData → Option Value
  | .int _ => some (.builtin "int.__rmul__")
  | .bool _ => some (.builtin "int.__rmul__")
  | .str _ => some (.builtin "str.__rmul__")
  | .list _ => some (.builtin "list.__rmul__")
  | .tuple _ => some (.builtin "tuple.__rmul__")
  | _ => none
section
variable {P : Program} {w : World} {K : PySem.W.Frag} {mg : Str → Option Value} {base : Heap} {ad : Str → Addr} {fd : Str → FuncData}
theorem mulT (RC : RateC K mg ad fd) (d : PyData) : MulT K (ad "Rate") (tyN d) (foT d) (roT d) := by
  obtain ⟨_, h1, h2⟩ := RC.ty _ (tyN_mem d)
  refine ⟨?_, ?_, h2, h1⟩
  · cases d <;> kernel_rfl
  · cases d <;> kernel_rfl
theorem rmul_side (d : PyData) : (((foT d).isSome && !isSeqSlot (foT d)) || ((roT d).isSome && !isSeqSlot (roT d))) = false ∨ (isI d = true ∧ foT d = some (.builtin "int.__mul__")) := by
  cases d with
  | int i => exact .inr ⟨rfl, rfl⟩
  | bool b => exact .inr ⟨rfl, rfl⟩
  | none => exact .inl rfl
  | str x => exact .inl (show ((some (Value.builtin "str.__mul__")).isSome && !isSeqSlot (some (Value.builtin "str.__mul__")) || (some (Value.builtin "str.__rmul__")).isSome && !isSeqSlot (some (Value.builtin "str.__rmul__"))) = false by decide +kernel)
  | list x => exact .inl (show ((some (Value.builtin "list.__mul__")).isSome && !isSeqSlot (some (Value.builtin "list.__mul__")) || (some (Value.builtin "list.__rmul__")).isSome && !isSeqSlot (some (Value.builtin "list.__rmul__"))) = false by decide +kernel)
  | tuple x => exact .inl (show ((some (Value.builtin "tuple.__mul__")).isSome && !isSeqSlot (some (Value.builtin "tuple.__mul__")) || (some (Value.builtin "tuple.__rmul__")).isSome && !isSeqSlot (some (Value.builtin "tuple.__rmul__"))) = false by decide +kernel)
  | dict x => exact .inl rfl
theorem scMultiple : FnScope ["rate", "times"] ["rate", "times"] (defScope sMultiple) := ⟨rfl, rfl, rfl, by decide +kernel, rfl, by decide +kernel, by decide +kernel⟩
theorem none_of {H H' : Hp} {r : Addr} (s : Same H H') (e : H' r = none) : H r = none := by
  cases h : H r with
  | none => rfl
  | some o => rw [s _ _ h] at e; cases e
theorem max_ite (p q : Int) : (if q > p then q else p) = max p q := by omega
theorem tame_str {z : Str} (h : z.length ≤ 5000) (hc : ∀ c ∈ z.cps.toList, c < 1114112) : Tame (.str z) := by
  refine ⟨fun y e => by cases e; exact ⟨h, hc⟩, rfl, (by show PyData.depth (.str z) ≤ 10; simp only [PyData.depth]; omega), ?_⟩
  rw [PyData.shown_str]
  have := StrLaws.reprText_len z (fun c hm => Nat.lt_trans (hc c hm) (by decide))
  omega
theorem tame_int {i : Int} (h : i.natAbs < 10 ^ 32) : Tame (.int i) := by
  refine ⟨fun y e => (by cases e), ?_, (by show PyData.depth (.int i) ≤ 10; simp only [PyData.depth]; omega), ?_⟩
  · simp only [PyData.showable]
    by_cases z : i.natAbs = 0
    · rw [z]; decide
    · have := (Nat.log2_lt z (k := 110)).mpr (Nat.lt_trans h (by decide))
      exact decide_eq_true (by omega)
  · have e := int_text_length_le10 (k := 32) (by decide) h
    show (Str.ofString (toString i)).length ≤ 60000
    rw [PySem.ofString_length]; omega
theorem ok_multiple (X : Tx K mg ad fd) (RC : RateC K mg ad fd) {N fN M fM : Addr} (L_InvalidNumber : ErrV K mg "InvalidNumber" N fN) (L_TooMany : ErrW K mg "TooMany" M fM) : FnOk P w K mg base (L2.CX P w) 6 (ad "multiple") (fd "multiple") ["rate", "times"] (spMul (ad "Rate") N M) := by
  have G_check_times := ok_check_times (P := P) (w := w) (base := base) X L_InvalidNumber
  have G_init := ok_init (P := P) (w := w) (base := base) X RC L_InvalidNumber
  obtain ⟨tM, GLOB_MOST_IN_RATE⟩ := X.g_MOST_IN_RATE
  refine X.F_multiple.okX scMultiple (fun vs H Q E h => ?_) (fun cdv A outer s H vs Q E hr h => ?_)
  · obtain ⟨a, p, q, v, d, rfl, _⟩ := h
    rfl
  · obtain ⟨a, p, q, v, d, rfl, ha, fit, hd, ht, q1, q2, q3⟩ := h
    have HRX := hr
    have HR_check_times : Room 3 _ := hr.mono (by decide)
    have HR_init : Room (4 + 1) _ := hr
    have HRP : Room 2 _ := hr.mono (by decide)
    have PASS := passes_own (X := cxOf (L2.CX P w) P w K mg base ["rate", "times"] "multiple" (defScope sMultiple) (ad "multiple") cdv A outer s H E) (E := E) rfl rfl rfl rfl
    refine ⟨_, (pss_cons (ps_expr (by exact (pe_call G_check_times HR_check_times (by rfl) X.g_check_times X.F_check_times.kp X.b_check_times .nil PASS (pa_cons (pv 1) pa_nil))))
  (pss_cons (ps_if (pt_cmpR op_gt (pe_op op_mul (pe_callB (call_max2 rfl) (by rfl) X.m_max (by decide +kernel) (pa_cons (pe_prop_p RC HRP (pv 0) rfl) (pa_cons (pe_prop_q RC HRP (pv 0) rfl) pa_nil))) (pv 1)) (pe_glob (v := .int 6) (by rfl) GLOB_MOST_IN_RATE ⟨_, rfl⟩) (nomark _))
  (pss_one (ps_raise rfl (takes_of rfl rfl rfl rfl) (pmk_what L_TooMany.T bs_arith L_TooMany.J L_TooMany.F HRX (by rfl) L_TooMany.G (by exact (pa_cons pe_str (pa_cons (pe_glob (v := .int 6) (by rfl) GLOB_MOST_IN_RATE ⟨_, rfl⟩) pa_nil))))))
  pss_nil)
  (pss_one (ps_ret (by exact (pe_make RC.mks G_init HR_init (by rfl) RC.G RC.b_init .nil PASS (pa_cons (pe_op op_mul (pe_prop_p RC HRP (pv 0) rfl) (pv 1)) (pa_cons (pe_op op_mul (pe_prop_q RC HRP (pv 0) rfl) (pv 1)) pa_nil)))))))), ?_⟩
    refine ⟨_, rfl, v, d, rfl, hd, ht, q1, fun tt H1 s1 => ?_⟩
    cases hd with
    | int i =>
      have i1 : 1 ≤ i := of_decide_eq_true tt
      have f := id fit
      obtain ⟨p1, p2, r1, r2⟩ := f
      have hm : CMul (if q > p then q else p) i := by rw [max_ite]; exact .inl ⟨by omega, by omega⟩
      have h1 := ha.same s1
      obtain ⟨dx, e1⟩ := id h1
      refine ⟨.ref a, rfl, a, dx, _, rfl, e1, a, p, q, rfl, h1, fit, .ref a, rfl, a, dx, _, rfl, e1, a, p, q, rfl, h1, fit, p, q, rfl, .int i, rfl, _, i, rfl, rfl, hm, _, 6, rfl, rfl, _, rfl, ?_⟩
      rw [max_ite]
      refine ite2 (fun c => ?_) (fun c => ?_)
      · have c' : 6 < max p q * i := of_decide_eq_true c
        exact ⟨_, _, rfl, fun d hd => q2 i rfl i1 c' H1 d s1 hd⟩
      · have c' : ¬ 6 < max p q * i := fun z => c (decide_eq_true z)
        have l1 : p * i ≤ max p q * i := Int.mul_le_mul_of_nonneg_right (by omega) (by omega)
        have l2 : q * i ≤ max p q * i := Int.mul_le_mul_of_nonneg_right (by omega) (by omega)
        have g1 : 1 ≤ p * i := by have := Int.mul_pos (a := p) (b := i) (by omega) (by omega); omega
        have g2 : 1 ≤ q * i := by have := Int.mul_pos (a := q) (b := i) (by omega) (by omega); omega
        have mp : CMul p i := .inl ⟨by omega, by omega⟩
        have mq : CMul q i := .inl ⟨by omega, by omega⟩
        refine ⟨.ref a, rfl, a, dx, _, rfl, e1, a, p, q, rfl, h1, fit, .int i, rfl, p, i, rfl, rfl, mp, .ref a, rfl, a, dx, _, rfl, e1, a, p, q, rfl, h1, fit, .int i, rfl, q, i, rfl, rfl, mq, ?_⟩
        have tp : rateD (.int (p * i)) = true := by
          show (decide (1 ≤ p * i) && decide (p * i ≤ 6)) = true
          rw [decide_eq_true g1, decide_eq_true (show p * i ≤ 6 by omega)]; rfl
        have tq : rateD (.int (q * i)) = true := by
          show (decide (1 ≤ q * i) && decide (q * i ≤ 6)) = true
          rw [decide_eq_true g2, decide_eq_true (show q * i ≤ 6 by omega)]; rfl
        refine made (.int _) (.int _) (tame_int (by omega)) (tame_int (by omega)) (fun z => by rw [tp] at z; cases z) (fun _ z => by rw [tq] at z; cases z) fun p' q' e e' f' H' r s' hr' ho => ?_
        cases e
        cases e'
        exact q3 i rfl i1 (by omega) H' r (Same.trans s1 s') (none_of s1 hr') ho
    | non => cases tt
    | bl b => cases tt
    | str x => cases tt
    | lst e _ => cases tt
    | tup e _ => cases tt
    | dic e _ => cases tt
theorem scR_mul : FnScope ["self", "other"] ["self", "other"] (defScope sR_mul) := ⟨rfl, rfl, rfl, by decide +kernel, rfl, by decide +kernel, by decide +kernel⟩
theorem scR_rmul : FnScope ["self", "other"] ["self", "other"] (defScope sR_rmul) := ⟨rfl, rfl, rfl, by decide +kernel, rfl, by decide +kernel, by decide +kernel⟩
theorem scR_eq : FnScope ["self", "other"] ["self", "other"] (defScope sR_eq) := ⟨rfl, rfl, rfl, by decide +kernel, rfl, by decide +kernel, by decide +kernel⟩
theorem ok_mul (X : Tx K mg ad fd) (RC : RateC K mg ad fd) {N fN M fM : Addr} (L_InvalidNumber : ErrV K mg "InvalidNumber" N fN) (L_TooMany : ErrW K mg "TooMany" M fM) : FnOk P w K mg base (L2.CX P w) 7 (ad "Rate.__mul__") (fd "Rate.__mul__") ["self", "other"] (spMul (ad "Rate") N M) := by
  have G_multiple := ok_multiple (P := P) (w := w) (base := base) X RC L_InvalidNumber L_TooMany
  refine RC.F_mul.okX scR_mul (fun vs H Q E h => ?_) (fun cdv A outer s H vs Q E hr h => ?_)
  · obtain ⟨a, p, q, v, d, rfl, _⟩ := h
    rfl
  · obtain ⟨a, p, q, v, d, rfl, k⟩ := h
    have HR_multiple := hr
    have PASS := passes_own (X := cxOf (L2.CX P w) P w K mg base ["self", "other"] "Rate.__mul__" (defScope sR_mul) (ad "Rate.__mul__") cdv A outer s H E) (E := E) rfl rfl rfl rfl
    refine ⟨_, (pss_one (ps_ret (by exact (pe_call G_multiple HR_multiple (by rfl) X.g_multiple X.F_multiple.kp X.b_multiple .nil PASS (pa_cons (pv 0) (pa_cons (pv 1) pa_nil)))))), ?_⟩
    exact ⟨.ref a, rfl, v, rfl, a, p, q, v, d, rfl, k⟩
theorem ok_rmul (X : Tx K mg ad fd) (RC : RateC K mg ad fd) {N fN M fM : Addr} (L_InvalidNumber : ErrV K mg "InvalidNumber" N fN) (L_TooMany : ErrW K mg "TooMany" M fM) : FnOk P w K mg base (L2.CX P w) 7 (ad "Rate.__rmul__") (fd "Rate.__rmul__") ["self", "other"] (spMul (ad "Rate") N M) := by
  have G_multiple := ok_multiple (P := P) (w := w) (base := base) X RC L_InvalidNumber L_TooMany
  refine RC.F_rmul.okX scR_rmul (fun vs H Q E h => ?_) (fun cdv A outer s H vs Q E hr h => ?_)
  · obtain ⟨a, p, q, v, d, rfl, _⟩ := h
    rfl
  · obtain ⟨a, p, q, v, d, rfl, k⟩ := h
    have HR_multiple := hr
    have PASS := passes_own (X := cxOf (L2.CX P w) P w K mg base ["self", "other"] "Rate.__rmul__" (defScope sR_rmul) (ad "Rate.__rmul__") cdv A outer s H E) (E := E) rfl rfl rfl rfl
    refine ⟨_, (pss_one (ps_ret (by exact (pe_call G_multiple HR_multiple (by rfl) X.g_multiple X.F_multiple.kp X.b_multiple .nil PASS (pa_cons (pv 0) (pa_cons (pv 1) pa_nil)))))), ?_⟩
    exact ⟨.ref a, rfl, v, rfl, a, p, q, v, d, rfl, k⟩
/-- == -/
def spEqR (C : Addr) : Sp := fun vs H Q _ => ∃ (a : Addr) (p q : Int) (v : V), vs = [.ref a, v] ∧ RatO C H a p q ∧ ((∃ d, Dx H v d ∧ Q (.bl false) H) ∨ ∃ (b : Addr) (r s : Int), v = .ref b ∧ RatO C H b r s ∧ Q (.bl (decide (p = r ∧ q = s))) H)
theorem ty_rate (RC : RateC K mg ad fd) {H : Hp} {a : Addr} {p q : Int} (h : RatO (ad "Rate") H a p q) : TyX K H (.ref a) (.ref (ad "Rate")) := by
  obtain ⟨dx, e⟩ := h
  exact .base (.ins e RC.cl RC.ca RC.cn RC.ct RC.ob)
theorem ok_eq (X : Tx K mg ad fd) (RC : RateC K mg ad fd) : FnOk P w K mg base CX0 1 (ad "Rate.__eq__") (fd "Rate.__eq__") ["self", "other"] (spEqR (ad "Rate")) := by
  refine RC.F_eq.ok scR_eq (fun vs H Q E h => ?_) (fun cdv A outer s H vs Q E hr h => ?_)
  · obtain ⟨a, p, q, v, rfl, _⟩ := h
    rfl
  · obtain ⟨a, p, q, v, rfl, ⟨dx, ha⟩, k⟩ := h
    refine ⟨_, (pss_one (ps_ret (by exact (pe_and (pe_callB call_isi (by rfl) X.m_isinstance (by decide +kernel) (pa_cons (pv 1) (pa_cons (pe_glob (v := .ref (ad "Rate")) (by rfl) RC.G rfl) pa_nil))) (pe_and (pe_cmpR op_eq (pe_fld (pv 0) rfl) (pe_fld (pv 1) rfl) (nomark _)) (pe_one (pe_cmpR op_eq (pe_fld (pv 0) rfl) (pe_fld (pv 1) rfl) (nomark _)))))))), ?_⟩
    rcases k with ⟨d, hd, k⟩ | ⟨b, r, s, rfl, hb, k⟩
    · exact ⟨v, rfl, v, .ref (ad "Rate"), _, _, _, rfl, .own _, dx_ty hd, (RC.ty _ (tyN_mem d)).1, _, rfl, k⟩
    · refine ⟨.ref b, rfl, .ref b, .ref (ad "Rate"), _, _, true, rfl, .own _, ty_rate RC hb, (by unfold PySem.W.kitOne; rw [if_pos (by simp)]), true, rfl, ?_⟩
      obtain ⟨dy, hb⟩ := hb
      refine iteT ⟨.ref a, rfl, a, _, dx, _, _, rfl, ha, RC.cl, RC.np, rfl, .ref b, rfl, b, _, dy, _, _, rfl, hb, RC.cl, RC.np, rfl, ?_⟩
      refine ⟨rfl, _, rfl, ?_⟩
      by_cases c : p = r
      · rw [decide_eq_true (show V.int p = V.int r by rw [c])]
        refine iteT ⟨.ref a, rfl, a, _, dx, _, _, rfl, ha, RC.cl, RC.nq, rfl, .ref b, rfl, b, _, dy, _, _, rfl, hb, RC.cl, RC.nq, rfl, rfl, ?_⟩
        have e : decide (V.int q = V.int s) = decide (p = r ∧ q = s) := decide_eq_decide.mpr ⟨fun z => ⟨c, V.int.inj z⟩, fun z => by rw [z.2]⟩
        rw [e]
        exact k
      · rw [decide_eq_false (show ¬ V.int p = V.int r from fun z => c (V.int.inj z))]
        refine iteF ?_
        rw [decide_eq_false (show ¬ (p = r ∧ q = s) from fun z => c z.1)] at k
        exact k
end
end K52
end

section
/-! tables of code, walked -/
namespace K52
open PySem
abbrev Ch := List (List (Str × Nat))
def rowC (c : Ch) (i : Nat) : List (Str × Nat) := c.getD i []
def addN (o : List Nat) (t : Nat) : List Nat := if t ∈ o then o else o ++ [t]
def addAll (o : List Nat) (r : List (Str × Nat)) : List Nat := r.foldl (fun o e => addN o e.2) o
def goR (c : Ch) : Nat → Nat → List Nat → List Nat
  | 0, _, o => o
  | f + 1, a, o => match o[a]? with
    | some i => goR c f (a + 1) (addAll o (rowC c i))
    | none => o
def reached (c : Ch) : List Nat := goR c (c.length + 1) 0 [0]
def keptF (c : Ch) : Ch := (reached c).map fun i => (rowC c i).map fun e => (e.1, (reached c).idxOf e.2)
def WfC (c : Ch) : Prop := 0 < c.length ∧ ∀ r ∈ c, ∀ e ∈ r, e.2 < c.length
theorem rowC_lt {c : Ch} (w : WfC c) {i : Nat} {e : Str × Nat} (h : e ∈ rowC c i) : e.2 < c.length := by
  unfold rowC at h
  rw [List.getD_eq_getElem?_getD] at h
  cases k : c[i]? with
  | none => rw [k] at h; cases h
  | some r => rw [k] at h; exact w.2 r (List.mem_of_getElem? k) e h
theorem mem_addN {o : List Nat} {t x : Nat} : x ∈ addN o t ↔ x ∈ o ∨ x = t := by
  unfold addN
  split
  · constructor
    · exact .inl
    · rintro (h | h)
      · exact h
      · rw [h]; assumption
  · simp
theorem mem_addAll {r : List (Str × Nat)} : ∀ {o : List Nat} {x : Nat}, x ∈ addAll o r ↔ x ∈ o ∨ ∃ e ∈ r, x = e.2 := by
  induction r with
  | nil => intro o x; simp [addAll]
  | cons e r ih =>
    intro o x
    show x ∈ addAll (addN o e.2) r ↔ _
    rw [ih, mem_addN]
    constructor
    · rintro ((h | h) | ⟨e', h1, h2⟩)
      · exact .inl h
      · exact .inr ⟨e, List.mem_cons_self .., h⟩
      · exact .inr ⟨e', List.mem_cons_of_mem _ h1, h2⟩
    · rintro (h | ⟨e', h1, h2⟩)
      · exact .inl (.inl h)
      · rcases List.mem_cons.mp h1 with rfl | h1
        · exact .inl (.inr h2)
        · exact .inr ⟨e', h1, h2⟩
theorem addN_pre (o : List Nat) (t : Nat) : ∃ s, addN o t = o ++ s := by
  unfold addN
  split
  · exact ⟨[], (List.append_nil o).symm⟩
  · exact ⟨[t], rfl⟩
theorem addAll_pre {r : List (Str × Nat)} : ∀ (o : List Nat), ∃ s, addAll o r = o ++ s := by
  induction r with
  | nil => exact fun o => ⟨[], (List.append_nil o).symm⟩
  | cons e r ih =>
    intro o
    obtain ⟨s, h⟩ := addN_pre o e.2
    obtain ⟨s', h'⟩ := ih (addN o e.2)
    exact ⟨s ++ s', by show addAll (addN o e.2) r = _; rw [h', h, List.append_assoc]⟩
theorem nodup_addN {o : List Nat} (t : Nat) (h : o.Nodup) : (addN o t).Nodup := by
  unfold addN
  split
  · exact h
  · rename_i k
    rw [List.nodup_append]
    refine ⟨h, by simp, fun x hx y hy => ?_⟩
    rw [List.mem_singleton.mp hy]
    exact fun z => k (by rw [← z]; exact hx)
theorem nodup_addAll {r : List (Str × Nat)} : ∀ {o : List Nat}, o.Nodup → (addAll o r).Nodup := by
  induction r with
  | nil => exact fun h => h
  | cons e r ih => exact fun h => ih (nodup_addN e.2 h)
theorem nodup_len : ∀ {n : Nat} {o : List Nat}, o.Nodup → (∀ x ∈ o, x < n) → o.length ≤ n
  | 0, o, _, h => by
    cases o with
    | nil => exact Nat.le_refl _
    | cons x r => exact absurd (h x (List.mem_cons_self ..)) (Nat.not_lt_zero _)
  | n + 1, o, h1, h2 => by
    by_cases k : n ∈ o
    · have r := nodup_len (n := n) (h1.erase n) fun x hx => by
        obtain ⟨a, b⟩ := h1.mem_erase_iff.mp hx
        have := h2 x b
        omega
      have := List.length_erase_of_mem k
      have := List.length_pos_of_mem k
      omega
    · have r := nodup_len (n := n) h1 fun x hx => by
        have := h2 x hx
        have : x ≠ n := fun z => k (z ▸ hx)
        omega
      omega
/-- enough steps are enough -/
theorem goR_stop {c : Ch} (w : WfC c) : ∀ (f a : Nat) (o : List Nat), o.Nodup → (∀ x ∈ o, x < c.length) → c.length + 1 ≤ f + a → goR c (f + 1) a o = goR c f a o
  | 0, a, o, h1, h2, h3 => by
    have : o.length ≤ c.length := nodup_len h1 h2
    unfold goR
    rw [List.getElem?_eq_none (by omega)]
  | f + 1, a, o, h1, h2, h3 => by
    rw [show goR c (f + 1 + 1) a o = (match o[a]? with | some i => goR c (f + 1) (a + 1) (addAll o (rowC c i)) | none => o) from rfl, show goR c (f + 1) a o = (match o[a]? with | some i => goR c f (a + 1) (addAll o (rowC c i)) | none => o) from rfl]
    cases e : o[a]? with
    | none => rfl
    | some i => exact goR_stop w f (a + 1) _ (nodup_addAll h1) (fun x hx => (mem_addAll.mp hx).elim (h2 x) fun ⟨e, he, z⟩ => by rw [z]; exact rowC_lt w he) (by omega)
theorem goR_more {c : Ch} (w : WfC c) {f a : Nat} {o : List Nat} (h1 : o.Nodup) (h2 : ∀ x ∈ o, x < c.length) (h3 : c.length + 1 ≤ f + a) : ∀ k, goR c (f + k) a o = goR c f a o
  | 0 => rfl
  | k + 1 => (goR_stop w (f + k) a o h1 h2 (by omega)).trans (goR_more w h1 h2 h3 k)
theorem addN_map {g : Nat → Nat} {o : List Nat} {t : Nat} (inj : ∀ x ∈ o, g x = g t → x = t) : addN (o.map g) (g t) = (addN o t).map g := by
  unfold addN
  by_cases h : t ∈ o
  · rw [if_pos h, if_pos (List.mem_map_of_mem h)]
  · rw [if_neg h, if_neg]
    · rw [List.map_append]; rfl
    · intro z
      obtain ⟨x, hx, e⟩ := List.mem_map.mp z
      exact h (inj x hx e ▸ hx)
theorem addAll_map {g : Nat → Nat} {D : Nat → Prop} (inj : ∀ x y, D x → D y → g x = g y → x = y) : ∀ (r : List (Str × Nat)) (o : List Nat), (∀ x ∈ o, D x) → (∀ e ∈ r, D e.2) → addAll (o.map g) (r.map fun e => (e.1, g e.2)) = (addAll o r).map g
  | [], o, _, _ => rfl
  | e :: r, o, ho, hr => by
    show addAll (addN (o.map g) (g e.2)) (r.map fun e => (e.1, g e.2)) = (addAll (addN o e.2) r).map g
    rw [addN_map fun x hx z => inj x e.2 (ho x hx) (hr e (List.mem_cons_self ..)) z]
    exact addAll_map inj r _ (fun x hx => (mem_addN.mp hx).elim (ho x) fun z => z ▸ hr e (List.mem_cons_self ..)) fun e' h => hr e' (List.mem_cons_of_mem _ h)
/-- g takes the walk of c' to that of c -/
structure Iso (c c' : Ch) (g : Nat → Nat) (D : Nat → Prop) : Prop where
  z : g 0 = 0
  d0 : D 0
  row : ∀ i, D i → rowC c (g i) = (rowC c' i).map fun e => (e.1, g e.2)
  closed : ∀ i, D i → ∀ e ∈ rowC c' i, D e.2
  inj : ∀ x y, D x → D y → g x = g y → x = y
theorem Iso.go {c c' : Ch} {g : Nat → Nat} {D : Nat → Prop} (I : Iso c c' g D) : ∀ (f a : Nat) (o : List Nat), (∀ x ∈ o, D x) → goR c f a (o.map g) = (goR c' f a o).map g ∧ ∀ x ∈ goR c' f a o, D x
  | 0, a, o, h => ⟨rfl, h⟩
  | f + 1, a, o, h => by
    unfold goR
    rw [List.getElem?_map]
    cases e : o[a]? with
    | none => exact ⟨rfl, h⟩
    | some i =>
      have di := h i (List.mem_of_getElem? e)
      have r := I.go f (a + 1) (addAll o (rowC c' i)) fun x hx => (mem_addAll.mp hx).elim (h x) fun ⟨e, he, z⟩ => z ▸ I.closed i di e he
      refine ⟨?_, r.2⟩
      show goR c f (a + 1) (addAll (o.map g) (rowC c (g i))) = _
      rw [I.row i di, addAll_map I.inj _ _ h (I.closed i di)]
      exact r.1
theorem one_nodup : ([0] : List Nat).Nodup := by simp
theorem reached_is {c : Ch} (w : WfC c) {f : Nat} (h : c.length + 1 ≤ f) : goR c f 0 [0] = reached c := by
  obtain ⟨k, rfl⟩ := Nat.le.dest h
  exact goR_more w one_nodup (fun x hx => by rw [List.mem_singleton.mp hx]; exact w.1) (by omega) k
theorem Iso.reached {c c' : Ch} {g : Nat → Nat} {D : Nat → Prop} (I : Iso c c' g D) (w : WfC c) (w' : WfC c') : K52.reached c = (K52.reached c').map g ∧ ∀ x ∈ K52.reached c', D x := by
  obtain ⟨h1, h2⟩ := I.go (c.length + 1 + (c'.length + 1)) 0 [0] fun x hx => by rw [List.mem_singleton.mp hx]; exact I.d0
  rw [reached_is w' (by omega)] at h1 h2
  rw [show List.map g [0] = [0] by simp [I.z], reached_is w (by omega)] at h1
  exact ⟨h1, h2⟩
theorem idx_map {g : Nat → Nat} {t : Nat} : ∀ {o : List Nat}, (∀ x ∈ o, g x = g t → x = t) → (o.map g).idxOf (g t) = o.idxOf t
  | [], _ => rfl
  | x :: o, h => by
    rw [List.map_cons, List.idxOf_cons, List.idxOf_cons]
    by_cases e : x = t
    · rw [e]; simp
    · have ne : ¬ g x = g t := fun z => e (h x (List.mem_cons_self ..) z)
      rw [show (g x == g t) = false from beq_eq_false_iff_ne.mpr ne, show (x == t) = false from beq_eq_false_iff_ne.mpr e]
      simp only [cond_false]
      rw [idx_map fun y hy => h y (List.mem_cons_of_mem _ hy)]
theorem Iso.kept {c c' : Ch} {g : Nat → Nat} {D : Nat → Prop} (I : Iso c c' g D) (w : WfC c) (w' : WfC c') : keptF c = keptF c' := by
  obtain ⟨h1, h2⟩ := I.reached w w'
  unfold keptF
  rw [h1, List.map_map]
  refine List.map_congr_left fun i hi => ?_
  show (rowC c (g i)).map _ = _
  rw [I.row i (h2 i hi), List.map_map]
  refine List.map_congr_left fun e he => ?_
  show (e.1, _) = (e.1, _)
  rw [idx_map fun x hx z => I.inj x e.2 (h2 x hx) (I.closed i (h2 i hi) e he) z]
/-! the walk is closed -/
theorem goR_pre {c : Ch} : ∀ (f a : Nat) (o : List Nat), ∃ s, goR c f a o = o ++ s
  | 0, a, o => ⟨[], (List.append_nil o).symm⟩
  | f + 1, a, o => by
    unfold goR
    cases e : o[a]? with
    | none => exact ⟨[], (List.append_nil o).symm⟩
    | some i =>
      obtain ⟨s, h⟩ := addAll_pre (r := rowC c i) o
      obtain ⟨s', h'⟩ := goR_pre (c := c) f (a + 1) (addAll o (rowC c i))
      exact ⟨s ++ s', by show goR c f (a + 1) (addAll o (rowC c i)) = _; rw [h', h, List.append_assoc]⟩
/-- the first a ones have been gone through -/
def Done (c : Ch) (a : Nat) (o : List Nat) : Prop := ∀ m i, m < a → o[m]? = some i → ∀ e ∈ rowC c i, e.2 ∈ o
theorem Done.step {c : Ch} {a i : Nat} {o : List Nat} (d : Done c a o) (h : o[a]? = some i) : Done c (a + 1) (addAll o (rowC c i)) := by
  intro m j hm hj e he
  obtain ⟨s, hs⟩ := addAll_pre (r := rowC c i) o
  have la : a < o.length := (List.getElem?_eq_some_iff.mp h).1
  rw [hs, List.getElem?_append_left (by omega)] at hj
  by_cases k : m < a
  · exact mem_addAll.mpr (.inl (d m j k hj e he))
  · have : m = a := by omega
    subst this
    rw [h] at hj
    cases hj
    exact mem_addAll.mpr (.inr ⟨e, he, rfl⟩)
theorem goR_done {c : Ch} (w : WfC c) : ∀ (f a : Nat) (o : List Nat), o.Nodup → (∀ x ∈ o, x < c.length) → a ≤ o.length → c.length + 1 ≤ f + a → Done c a o →
    (goR c f a o).Nodup ∧ (∀ x ∈ goR c f a o, x < c.length) ∧ ∀ x ∈ goR c f a o, ∀ e ∈ rowC c x, e.2 ∈ goR c f a o
  | 0, a, o, h1, h2, h3, h4, d => by
    have : o.length ≤ c.length := nodup_len h1 h2
    omega
  | f + 1, a, o, h1, h2, h3, h4, d => by
    unfold goR
    cases e : o[a]? with
    | none =>
      refine ⟨h1, h2, fun x (hx : x ∈ o) e' he => ?_⟩
      obtain ⟨m, hm, em⟩ := List.mem_iff_getElem.mp hx
      have : o.length ≤ a := List.getElem?_eq_none_iff.mp e
      exact d m x (by omega) (by rw [List.getElem?_eq_getElem hm, em]) e' he
    | some i =>
      have la : a < o.length := (List.getElem?_eq_some_iff.mp e).1
      obtain ⟨s, hs⟩ := addAll_pre (r := rowC c i) o
      exact goR_done w f (a + 1) _ (nodup_addAll h1) (fun x hx => (mem_addAll.mp hx).elim (h2 x) fun ⟨e, he, z⟩ => by rw [z]; exact rowC_lt w he) (by rw [hs, List.length_append]; omega) (by omega) (d.step e)
theorem reached_ok {c : Ch} (w : WfC c) : (reached c).Nodup ∧ (∀ x ∈ reached c, x < c.length) ∧ (∀ x ∈ reached c, ∀ e ∈ rowC c x, e.2 ∈ reached c) ∧ (reached c)[0]? = some 0 := by
  obtain ⟨h1, h2, h3⟩ := goR_done w (c.length + 1) 0 [0] one_nodup (fun x hx => by rw [List.mem_singleton.mp hx]; exact w.1) (Nat.zero_le _) (Nat.le_refl _) fun m i hm => absurd hm (Nat.not_lt_zero _)
  obtain ⟨s, hs⟩ := goR_pre (c := c) (c.length + 1) 0 [0]
  refine ⟨h1, h2, h3, ?_⟩
  show (goR c (c.length + 1) 0 [0])[0]? = _
  rw [hs]
  rfl
theorem reached_pos {c : Ch} (w : WfC c) : 0 < (reached c).length := (List.getElem?_eq_some_iff.mp (reached_ok w).2.2.2).1
theorem keptF_length (c : Ch) : (keptF c).length = (reached c).length := by unfold keptF; rw [List.length_map]
theorem keptF_row {c : Ch} {i : Nat} (h : i < (reached c).length) : rowC (keptF c) i = (rowC c ((reached c)[i])).map fun e => (e.1, (reached c).idxOf e.2) := by
  unfold rowC keptF
  rw [List.getD_eq_getElem?_getD, List.getElem?_map, List.getElem?_eq_getElem h]
  rfl
theorem keptF_wf {c : Ch} (w : WfC c) : WfC (keptF c) := by
  obtain ⟨h1, h2, h3, h4⟩ := reached_ok w
  rw [WfC, keptF_length]
  refine ⟨reached_pos w, fun r hr e he => ?_⟩
  unfold keptF at hr
  obtain ⟨i, hi, rfl⟩ := List.mem_map.mp hr
  obtain ⟨e', he', rfl⟩ := List.mem_map.mp he
  exact List.idxOf_lt_length_of_mem (h3 i hi e' he')
theorem kept_kept {c : Ch} (w : WfC c) : keptF (keptF c) = keptF c := by
  obtain ⟨h1, h2, h3, h4⟩ := reached_ok w
  have I : Iso c (keptF c) (fun i => (reached c).getD i 0) (fun i => i < (reached c).length) := {
    z := by rw [List.getD_eq_getElem?_getD, h4]; rfl
    d0 := reached_pos w
    row := fun i hi => by
      rw [keptF_row hi, List.map_map, List.getD_eq_getElem?_getD, List.getElem?_eq_getElem hi]
      refine (List.map_id (rowC c (reached c)[i])).symm.trans (List.map_congr_left fun e he => ?_)
      have m := h3 _ (List.getElem_mem hi) e he
      show e = (e.1, (reached c).getD ((reached c).idxOf e.2) 0)
      rw [List.getD_eq_getElem?_getD, List.getElem?_eq_getElem (List.idxOf_lt_length_of_mem m), List.getElem_idxOf]
      rfl
    closed := fun i hi e he => by
      rw [keptF_row hi] at he
      obtain ⟨e', he', rfl⟩ := List.mem_map.mp he
      exact List.idxOf_lt_length_of_mem (h3 _ (List.getElem_mem hi) e' he')
    inj := fun x y hx hy e => by
      have e : (reached c).getD x 0 = (reached c).getD y 0 := e
      rw [List.getD_eq_getElem?_getD, List.getD_eq_getElem?_getD, List.getElem?_eq_getElem hx, List.getElem?_eq_getElem hy] at e
      exact (List.getElem_inj (h₀ := hx) (h₁ := hy) h1).mp e }
  exact (I.kept w (keptF_wf w)).symm
end K52
end

section
set_option maxHeartbeats 4000000
/-! code tables as data; kept codes -/
namespace K52
open PySem PySem.Spec PyProof.Rows L2
section
variable {X : Cx} {K : PySem.W.Frag}
theorem ps_never {st : Stmt} : PS X st (fun _ _ _ => False) := ⟨fun _ _ _ _ _ _ h => h.elim⟩
theorem ix_listK (e : X.K = K) : IxR X (rIxL K) := by
  subst e
  exact ix_list
theorem pi_listK {tg l : Expr} {tl : TE} (e : X.K = K) (hl : PE X l tl) : PI X tg l (iList K tl) := by
  subst e
  exact pi_list hl
theorem pg_tupK {es : List Expr} {k : Nat} {t : TGs} {n : Nat} {pos : Pos} (e : X.K = K) (hc : X.calm = true) (h : PGs X es t)
    (hn : (assignEach es X.env).length = n := by rfl) (hst : (assignEach es X.env).findIdx? (·.1) = none := by rfl) : PG X (.Tuple es k pos) (gTup K n t) := by
  subst e
  exact pg_tup hc h hn hst
end
def entD (e : Str × Nat) : PyData := .tuple [.str e.1, .int e.2]
def rowD (r : List (Str × Nat)) : PyData := .list (r.map entD)
def chD (c : Ch) : PyData := .list (c.map rowD)
theorem Dx.list {H : Hp} {v : V} {ds : List PyData} (h : Dx H v (.list ds)) : ∃ a vs, v = .ref a ∧ H a = some (.lst vs) ∧ DxAll H vs ds := by
  cases h with
  | lst e h => exact ⟨_, _, rfl, e, h⟩
theorem DxAll.at_ {H : Hp} : ∀ {vs : List V} {ds : List PyData} {i : Nat} {d : PyData}, DxAll H vs ds → ds[i]? = some d → ∃ v, vs[i]? = some v ∧ Dx H v d
  | _, _, _, _, .nil, h => by cases h
  | _, _, 0, _, .cons a b, h => by cases h; exact ⟨_, rfl, a⟩
  | _, _, i + 1, _, .cons a b, h => DxAll.at_ b (i := i) (by simpa using h)
theorem DxAll.from_ {H : Hp} : ∀ {vs : List V} {ds : List PyData} {i : Nat} {v : V}, DxAll H vs ds → vs[i]? = some v → ∃ d, ds[i]? = some d ∧ Dx H v d
  | _, _, _, _, .nil, h => by cases h
  | _, _, 0, _, .cons a b, h => by cases h; exact ⟨_, rfl, a⟩
  | _, _, i + 1, _, .cons a b, h => DxAll.from_ b (i := i) (by simpa using h)
/-- a row of the table at a -/
theorem chD_row {H : Hp} {v : V} {c : Ch} {i : Nat} (h : Dx H v (chD c)) (hi : i < c.length) : ∃ a vs b, v = .ref a ∧ H a = some (.lst vs) ∧ vs.length = c.length ∧ vs[i]? = some (.ref b) ∧ Dx H (.ref b) (rowD (rowC c i)) := by
  obtain ⟨a, vs, rfl, e, all⟩ := h.list
  have e2 : (c.map rowD)[i]? = some (rowD (rowC c i)) := by
    rw [List.getElem?_map, List.getElem?_eq_getElem hi]
    unfold rowC
    rw [List.getD_eq_getElem?_getD, List.getElem?_eq_getElem hi]
    rfl
  obtain ⟨u, hu, du⟩ := all.at_ e2
  obtain ⟨b, ws, rfl, _, _⟩ := du.list
  exact ⟨a, vs, b, rfl, e, by rw [all.length, List.length_map], hu, du⟩
theorem rowD_ent {H : Hp} {b : Addr} {r : List (Str × Nat)} (h : Dx H (.ref b) (rowD r)) : ∃ vs, H b = some (.lst vs) ∧ vs.length = r.length ∧ ∀ (j : Nat) (x : V), vs[j]? = some x → ∃ (t : Addr) (e : Str × Nat), r[j]? = some e ∧ x = .ref t ∧ H t = some (.tup [.str e.1, .int e.2]) := by
  obtain ⟨b', vs, eb, e, all⟩ := h.list
  cases eb
  refine ⟨vs, e, by rw [all.length, List.length_map], fun j x hx => ?_⟩
  obtain ⟨d, hd, dx⟩ := all.from_ hx
  rw [List.getElem?_map] at hd
  cases er : r[j]? with
  | none => rw [er] at hd; cases hd
  | some en =>
    rw [er] at hd
    cases hd
    cases dx with
    | tup et al =>
      cases al with
      | cons a1 r1 =>
        cases r1 with
        | cons a2 r2 =>
          cases r2
          cases a1
          cases a2
          exact ⟨_, en, rfl, rfl, et⟩
def placesK (k : Nat) (o : List Nat) : List (Key × V) := (o.zipIdx k).map fun p => ((.inl (p.1 : Int) : Key), V.int (p.2 : Int))
theorem places_val : ∀ (o : List Nat) (k t : Nat), valV (placesK k o) (.inl (t : Int)) = if t ∈ o then some (.int ((k + o.idxOf t : Nat) : Int)) else none
  | [], k, t => by simp [placesK, valV]
  | x :: o, k, t => by
    have e : placesK k (x :: o) = ((.inl (x : Int) : Key), V.int (k : Int)) :: placesK (k + 1) o := rfl
    have ih := places_val o (k + 1) t
    unfold valV at ih ⊢
    rw [e]
    by_cases h : x = t
    · subst h
      simp
    · have ne : ¬ ((.inl (x : Int) : Key) = .inl (t : Int)) := fun z => h (by have := Sum.inl.inj z; omega)
      rw [List.find?_cons_of_neg (by simpa using ne), ih]
      have hb : (x == t) = false := beq_eq_false_iff_ne.mpr h
      rw [List.idxOf_cons, hb]
      simp only [cond_false, List.mem_cons]
      by_cases m : t ∈ o
      · rw [if_pos m, if_pos (.inr m), show k + 1 + o.idxOf t = k + (o.idxOf t + 1) by omega]
      · rw [if_neg m, if_neg (by rintro (z | z); exact h z.symm; exact m z)]
theorem placesK_len (k : Nat) (o : List Nat) : (placesK k o).length = o.length := by unfold placesK; rw [List.length_map, List.length_zipIdx]
theorem places_put {o : List Nat} {t : Nat} (h : t ∉ o) : putK (placesK 0 o) (.inl (t : Int)) (.int ((o.map fun (t : Nat) => V.int (t : Int)).length : Nat)) = placesK 0 (o ++ [t]) := by
  have no : ((placesK 0 o).any fun kv => decide (kv.1 = (.inl (t : Int) : Key))) = false := by
    have := places_val o 0 t
    rw [if_neg h] at this
    unfold valV at this
    cases e : (placesK 0 o).find? fun kv => decide (kv.1 = (.inl (t : Int) : Key)) with
    | some z => rw [e] at this; cases this
    | none =>
      rw [List.any_eq_false]
      intro x hx z
      exact List.find?_eq_none.mp e x hx z
  unfold putK
  rw [no]
  unfold placesK
  rw [List.zipIdx_append, List.map_append, List.length_map]
  simp
def intsV (o : List Nat) : List V := o.map fun (t : Nat) => V.int (t : Int)
/-- a row of its own stands at l -/
def RowAt (H : Hp) (l : Addr) (r : List (Str × Nat)) : Prop := ∃ ts : List Addr, H l = some (.lst (ts.map V.ref)) ∧ ts.length = r.length ∧ ∀ (j : Nat) (t : Addr), ts[j]? = some t → ∃ e, r[j]? = some e ∧ H t = some (.tup [.str e.1, .int e.2])
theorem dxAll_of {H : Hp} : ∀ {vs : List V} {ds : List PyData}, vs.length = ds.length → (∀ (j : Nat) (v : V), vs[j]? = some v → ∃ d, ds[j]? = some d ∧ Dx H v d) → DxAll H vs ds
  | [], [], _, _ => .nil
  | [], _ :: _, h, _ => by cases h
  | _ :: _, [], h, _ => by cases h
  | v :: vs, d :: ds, h, k => by
    obtain ⟨d', e, x⟩ := k 0 v rfl
    cases e
    exact .cons x (dxAll_of (by simpa using h) fun j u hu => k (j + 1) u hu)
theorem RowAt.dx {H : Hp} {l : Addr} {r : List (Str × Nat)} (h : RowAt H l r) : Dx H (.ref l) (rowD r) := by
  obtain ⟨ts, e, hl, k⟩ := h
  refine .lst e (dxAll_of (by rw [List.length_map, List.length_map, hl]) fun j v hv => ?_)
  rw [List.getElem?_map] at hv
  cases et : ts[j]? with
  | none => rw [et] at hv; cases hv
  | some t =>
    rw [et] at hv
    cases hv
    obtain ⟨en, h1, h2⟩ := k j t et
    exact ⟨entD en, by rw [List.getElem?_map, h1]; rfl, .tup h2 (.cons (.str _) (.cons (.int _) .nil))⟩
theorem RowAt.keep {H H' : Hp} {D l : Addr} {r : List (Str × Nat)} {xs : List V} (h : RowAt H l r) (n : l ≠ D) (eD : H D = some (.lst xs)) (s : ∀ b o, b ≠ D → H b = some o → H' b = some o) : RowAt H' l r := by
  obtain ⟨ts, e, hl, k⟩ := h
  refine ⟨ts, s _ _ n e, hl, fun j t et => ?_⟩
  obtain ⟨en, h1, h2⟩ := k j t et
  exact ⟨en, h1, s _ _ (fun z => by rw [z, eD] at h2; cases h2) h2⟩
theorem yes_of {σ : L2.St} {H : Hp} {f : Bool → Hp → Prop} (h : f true H) : tYes σ H f := h
def spKeptC : Sp := fun vs H Q _ => ∃ (v : V) (c : Ch), vs = [v] ∧ Dx H v (chD c) ∧ WfC c ∧ c.length ≤ 1000 ∧ (∀ r ∈ c, r.length ≤ 1000) ∧ ∀ (l : Addr) (H' : Hp), Same H H' → H l = none → Dx H' (.ref l) (chD (keptF c)) → Q (.ref l) H'
section
variable {P : Program} {w : World} {K : PySem.W.Frag} {mg : Str → Option Value} {base : Heap} {ad : Str → Addr} {fd : Str → FuncData}
theorem scKeptCodes : FnScope ["codes", "order", "places", "at", "entries", "_", "to", "old", "block", "further"] ["codes"] (defScope sKeptCodes) := ⟨rfl, rfl, rfl, by decide +kernel, rfl, by decide +kernel, by decide +kernel⟩
theorem ok_kept_codes (X : Tx K mg ad fd) : FnOk P w K mg base CX0 1 (ad "kept_codes") (fd "kept_codes") ["codes"] spKeptC := by
  refine X.F_kept_codes.ok scKeptCodes (fun vs H Q E h => ?_) (fun cdv A outer s H vs Q E hr h => ?_)
  · obtain ⟨v, c, rfl, _⟩ := h
    rfl
  · obtain ⟨v, c, rfl, hc, wf, l1, l2, k⟩ := h
    have hu := hr.units
    have hu1 := Nat.lt_of_le_of_lt (Nat.add_le_add_left (show 1 ≤ 64 by decide) _) hu
    refine ⟨_, (pss_cons (ps_set (i := 1) scKeptCodes.nd rfl (.inl rfl) (by exact (pe_lst (pa_cons pe_int pa_nil))))
  (pss_cons (ps_set (i := 2) scKeptCodes.nd rfl (.inr rfl) (by exact (pe_disp (pps_cons pe_int pe_int pps_nil) rfl rfl (fun z => nomatch z) (by show 1 ≤ 15; decide))))
  (pss_cons (ps_set (i := 3) scKeptCodes.nd rfl (.inl rfl) (by exact pe_int))
  (pss_cons (ps_while PassesOwn.never (pt_cmpR op_lt (pv 3) (pe_callB call_len (by rfl) X.m_len (by decide +kernel) (pa_cons (pv 1) pa_nil)) (nomark _))
  (pss_cons (ps_set (i := 4) scKeptCodes.nd rfl (.inl rfl) (by exact (pe_ix ix_list (pv 0) (pe_ix ix_list (pv 1) (pv 3) (fun _ _ => rfl)) (fun _ _ => rfl))))
  (pss_cons (ps_aug (i := 3) scKeptCodes.nd rfl (.inl rfl) pe_int ip_add)
  (pss_one (ps_for PassesOwn.never rfl (pi_list (pv 4)) (pg_tup rfl (pgs_cons (pg_name (i := 5) scKeptCodes.nd rfl (.inl rfl)) (pgs_cons (pg_name (i := 6) scKeptCodes.nd rfl (.inl rfl)) pgs_nil)))
  (pss_one (ps_if (pt_cmp (pc_dnotin hu1 (pv 6) (pv 2)))
  (pss_cons (ps_dput hu1 (pv 2) (pv 6) (pe_callB call_len (by rfl) X.m_len (by decide +kernel) (pa_cons (pv 1) pa_nil)) (by rfl))
  (pss_one (ps_expr (by exact (pe_bm PySem.F.plainAttrs_list PySem.F.slot_list_append PySem.F.type_list_append mt_append (pv 1) (pa_cons (pv 6) pa_nil))))))
  pss_nil)))))))
  (pss_one (ps_ret (by exact (pe_lc (own := [("old", 7)]) (g := gName 7) rfl scKeptCodes.nd (pi_list (pv 1)) (blkOk_by (own := [("old", 7)]) (N := ["codes", "order", "places", "at", "entries", "_", "to", "old", "block", "further"]) (sc := defScope sKeptCodes) (by decide +kernel)) (fun _ _ _ _ _ => pg_name (i := 7) scKeptCodes.nd rfl (Or.inl rfl)) (fun _ _ _ _ _ => pts_nil) (fun _ _ _ _ _ => (pe_lc (own := [("block", 8), ("further", 9)]) (g := gTup K 2 (gCons (gName 8) (gCons (gName 9) (gNil)))) rfl scKeptCodes.nd (pi_listK (K := K) rfl (pe_ix (ix_listK (K := K) rfl) (pv 0) (pv 7) (fun _ _ => rfl))) (blkOk_by (own := [("block", 8), ("further", 9)]) (N := ["codes", "order", "places", "at", "entries", "_", "to", "old", "block", "further"]) (by kernel_rfl)) (fun _ _ _ _ _ => pg_tupK (K := K) rfl rfl (pgs_cons (pg_name (i := 8) scKeptCodes.nd rfl (Or.inl rfl)) (pgs_cons (pg_name (i := 9) scKeptCodes.nd rfl (Or.inl rfl)) (pgs_nil)))) (fun _ _ _ _ _ => pts_nil) (fun _ _ _ _ _ => (pe_tup (pa_cons (pv 8) (pa_cons (pe_dget hu1 (pv 2) (pv 9) (fun _ _ => rfl)) pa_nil)))))))))))))), ?_⟩
    obtain ⟨a, cv, ra, ea, all⟩ := hc.list
    subst ra
    refine ⟨(by show 1 ≤ sizeLine; decide), fun O hO R hR => ⟨upd_same, [(.inl 0, .int 0)], rfl, (by show 1 ≤ 15; decide), ?_⟩⟩
    have nOR : O ≠ R := ne_of_none upd_same hR
    have S0 : Same H (upd (upd (upd H O (.lst [.int 0])) R (.dK [])) R (.dK (mergeK [] [(.inl 0, .int 0)]))) := fun b o e => by
      rw [upd_ne (ne_of_none (Same.new hO _ _ e) hR), upd_ne (ne_of_none (Same.new hO _ _ e) hR)]
      exact Same.new hO _ _ e
    refine ⟨fun m σ H' => ∃ (n : Nat) (o : List Nat) (r4 r5 r6 : Option V), σ = [some (.ref a), some (.ref O), some (.ref R), some (.int (n : Int)), r4, r5, r6, none, none, none] ∧ m = c.length + 1 - n ∧ n ≤ o.length ∧ n ≤ c.length ∧ Same H H' ∧ H' O = some (.lst (intsV o)) ∧ H' R = some (.dK (placesK 0 o)) ∧ o.Nodup ∧ (∀ x ∈ o, x < c.length) ∧
      goR c (c.length + 1 - n) n o = reached c, ⟨_, 0, [0], _, _, _, rfl, rfl, Nat.zero_le _, Nat.zero_le _, S0, ((upd_ne nOR).trans ((upd_ne nOR).trans upd_same) : _ = some (.lst [V.int 0])), upd_same, one_nodup, (fun x hx => by rw [List.mem_singleton.mp hx]; exact wf.1), rfl⟩, ?_⟩
    rintro m σ H1 ⟨n, o, r4, r5, r6, rfl, rfl, hn, hn2, S1, eO, eR, nd, lt, go⟩
    have lo : (intsV o).length = o.length := by unfold intsV; rw [List.length_map]
    refine ⟨.int (n : Int), rfl, .ref O, rfl, .ref O, _, rfl, .inl ⟨_, SqL.of eO, rfl⟩, _, _, rfl, rfl, _, rfl, ?_⟩
    rw [lo]
    by_cases hlt : n < o.length
    · rw [decide_eq_true (show (n : Int) < (o.length : Int) by omega)]
      have nlt : n < c.length := Nat.lt_of_lt_of_le hlt (nodup_len nd lt)
      refine iteT ⟨fun σ' H' => ∃ m', m' < c.length + 1 - n ∧ ∃ (n : Nat) (o : List Nat) (r4 r5 r6 : Option V), σ' = [some (.ref a), some (.ref O), some (.ref R), some (.int (n : Int)), r4, r5, r6, none, none, none] ∧ m' = c.length + 1 - n ∧ n ≤ o.length ∧ n ≤ c.length ∧ Same H H' ∧ H' O = some (.lst (intsV o)) ∧ H' R = some (.dK (placesK 0 o)) ∧ o.Nodup ∧ (∀ x ∈ o, x < c.length) ∧
        goR c (c.length + 1 - n) n o = reached c, fun _ _ z => z, ?_⟩
      obtain ⟨t, et⟩ : ∃ t, o[n]? = some t := ⟨_, List.getElem?_eq_getElem hlt⟩
      have tl := lt t (List.mem_of_getElem? et)
      have eot : (intsV o)[n]? = some (.int (t : Int)) := by unfold intsV; rw [List.getElem?_map, et]; rfl
      obtain ⟨a', vs, b, ea', ev, lv, hb, db⟩ := chD_row hc tl
      cases ea'
      obtain ⟨ws, ew0, lw, ents⟩ := rowD_ent db
      have ew := S1 _ _ ew0
      replace ev := S1 _ _ ev
      refine ⟨.ref a, rfl, .ref O, rfl, .int (n : Int), rfl, O, _, (n : Int), .int (t : Int), rfl, rfl, SqL.of eO, atI_nat eot, a, _, (t : Int), .ref b, rfl, rfl, SqL.of ev, atI_nat hb, ?_⟩
      refine ⟨.int (n : Int), rfl, (n : Int), 1, rfl, rfl, .ref b, rfl, b, rfl, ⟨_, SqL.of ew⟩, ?_⟩
      have nbO : b ≠ O := ne_of_none ew0 hO
      have nbR : b ≠ R := ne_of_none (Same.new hO _ _ ew0) hR
      refine for_list (K := K) (a := b) (xs := ws) (fun j σ H' => ∃ r5 r6, σ = [some (.ref a), some (.ref O), some (.ref R), some (.int ((n : Int) + 1)), some (.ref b), r5, r6, none, none, none] ∧ Same H H' ∧ H' b = some (.lst ws) ∧ (∀ t o, H1 t = some (.tup o) → H' t = some (.tup o)) ∧
        H' O = some (.lst (intsV (addAll o ((rowC c t).take j)))) ∧ H' R = some (.dK (placesK 0 (addAll o ((rowC c t).take j))))) ⟨_, _, rfl, S1, ew, fun _ _ z => z, eO, eR⟩ (fun j σ H' _ ⟨_, _, _, _, eb, _⟩ => SqL.of eb) ?_ ?_
      · rintro j x σ H2 hx ⟨r5, r6, rfl, S2, eb2, tk, eO2, eR2⟩
        obtain ⟨tt, en, he, rfl, htt⟩ := ents j x hx
        have ht2 := S2 _ _ htt
        have tj : (rowC c t).take (j + 1) = (rowC c t).take j ++ [en] := by
          rw [List.take_add_one, he]; rfl
        have aj : addAll o ((rowC c t).take (j + 1)) = addN (addAll o ((rowC c t).take j)) en.2 := by
          rw [tj]
          unfold addAll
          rw [List.foldl_append]
          rfl
        rw [aj]
        have nd2 : (addAll o ((rowC c t).take j)).Nodup := nodup_addAll nd
        have lt2 : ∀ x ∈ addAll o ((rowC c t).take j), x < c.length := fun x hx => (mem_addAll.mp hx).elim (lt x) fun ⟨e, he, z⟩ => by rw [z]; exact rowC_lt wf (List.mem_of_mem_take he)
        have len2 := nodup_len nd2 lt2
        generalize addAll o ((rowC c t).take j) = o2 at eO2 eR2 nd2 lt2 len2 ⊢
        refine ⟨tt, [.str en.1, .int (en.2 : Int)], rfl, SqT.of ht2, rfl, .str en.1, _, rfl, .int (en.2 : Int), _, rfl, rfl, ?_⟩
        refine ⟨.int (en.2 : Int), rfl, .ref R, rfl, R, _, rfl, DGet.k (k := .inl (en.2 : Int)) eR2, _, rfl, ?_⟩
        rw [places_val]
        unfold addN
        by_cases hin : en.2 ∈ o2
        · rw [if_pos hin, if_pos hin]
          exact iteF ⟨_, _, rfl, S2, eb2, tk, eO2, eR2⟩
        · rw [if_neg hin, if_neg hin]
          have lo2 : (intsV o2).length = o2.length := by unfold intsV; rw [List.length_map]
          refine iteT ⟨.ref O, rfl, .ref O, _, rfl, .inl ⟨_, SqL.of eO2, rfl⟩, .ref R, rfl, .int (en.2 : Int), rfl, R, _, rfl, DPut.k (k := .inl (en.2 : Int)) eR2 (by rw [placesK_len, sizeLine_eq]; omega), ?_⟩
          have eO3 : (upd H2 R (.dK (putK (placesK 0 o2) (.inl (en.2 : Int)) (.int ((intsV o2).length : Nat))))) O = some (.lst (intsV o2)) := (upd_ne nOR).trans eO2
          refine ⟨.ref O, rfl, .inl ⟨rfl, _, SqL.of eO3⟩, .int (en.2 : Int), rfl, O, _, _, rfl, rfl, eO3, by rw [lo2, sizeLine_eq]; omega, ?_⟩
          refine ⟨_, _, rfl, fun b' u eb' => ?_, ?_, fun t' u z => ?_, ?_, ?_⟩
          · rw [upd_ne (ne_of_none eb' hO), upd_ne (ne_of_none (Same.new hO _ _ eb') hR)]
            exact S2 _ _ eb'
          · rw [upd_ne nbO, upd_ne nbR]
            exact eb2
          · rw [upd_ne (fun y => by rw [y, eO] at z; cases z), upd_ne (fun y => by rw [y, eR] at z; cases z)]
            exact tk _ _ z
          · rw [upd_same]
            unfold intsV
            rw [List.map_append]
            rfl
          · rw [upd_ne nOR.symm, upd_same]
            exact congrArg (fun z => some (HO.dK z)) (places_put hin)
      · rintro σ H2 ⟨r5, r6, rfl, S2, eb2, tk, eO2, eR2⟩
        have lj : ws.length = (rowC c t).length := lw
        rw [lj, List.take_length] at eO2 eR2
        refine ⟨c.length + 1 - (n + 1), by omega, n + 1, addAll o (rowC c t), _, _, _, rfl, rfl, ?_, nlt, S2, eO2, eR2, nodup_addAll nd, fun x hx => (mem_addAll.mp hx).elim (lt x) fun ⟨e, he, z⟩ => by rw [z]; exact rowC_lt wf he, ?_⟩
        · obtain ⟨s', hs'⟩ := addAll_pre (r := rowC c t) o
          rw [hs', List.length_append]
          omega
        · rw [← go, show c.length + 1 - n = (c.length + 1 - (n + 1)) + 1 by omega]
          show _ = (match o[n]? with | some i => goR c (c.length + 1 - (n + 1)) (n + 1) (addAll o (rowC c i)) | none => o)
          rw [et]
    · rw [decide_eq_false (show ¬ (n : Int) < (o.length : Int) by omega)]
      refine iteF ?_
      have ro : reached c = o := by
        rw [← go, show c.length + 1 - n = (c.length - n) + 1 by omega]
        show (match o[n]? with | some i => goR c (c.length - n) (n + 1) (addAll o (rowC c i)) | none => o) = o
        rw [List.getElem?_eq_none (by omega)]
      refine ⟨.ref O, rfl, O, rfl, ⟨_, SqL.of eO⟩, fun D hD => ?_⟩
      have nDO : D ≠ O := (ne_of_none eO hD).symm
      have nDR : D ≠ R := (ne_of_none eR hD).symm
      refine lc_it (w := walk_list (K := K) (a := O) (xs := intsV o)) (g := gName 7) (tt := tYes) (fun i H' => ∃ ls : List Addr, H' D = some (.lst (ls.map V.ref)) ∧ ls.length = i ∧ Same H1 H' ∧ ∀ (m : Nat) (l : Addr), ls[m]? = some l → l ≠ D ∧ ∃ t, o[m]? = some t ∧ RowAt H' l ((rowC c t).map fun e => (e.1, o.idxOf e.2)))
        ⟨[], upd_same, rfl, Same.new hD, fun m l z => by cases z⟩ (fun i H' hi ⟨_, _, _, s, _⟩ => SqL.of (s _ _ eO)) (fun i x H' H'' hi hP hy => ?_) (fun H' hP => ?_)
      · obtain ⟨ls, eD, ll, s1, rows⟩ := hP
        obtain ⟨rfl, hx⟩ := hy
        refine ⟨rfl, yes_of (iteT ?_)⟩
        obtain ⟨t, et, rfl⟩ : ∃ t, o[i]? = some t ∧ x = .int (t : Int) := by
          unfold intsV at hx
          rw [List.getElem?_map] at hx
          cases z : o[i]? with
          | none => rw [z] at hx; cases hx
          | some t => rw [z] at hx; cases hx; exact ⟨t, rfl, rfl⟩
        have tm := List.mem_of_getElem? et
        have tl := lt t tm
        obtain ⟨a', vs, b, ea', ev, lv, hb, db⟩ := chD_row hc tl
        cases ea'
        obtain ⟨ws, ew0, lw, ents⟩ := rowD_ent db
        have S2 := Same.trans S1 s1
        have clo : ∀ e ∈ rowC c t, e.2 ∈ o := by
          have := (reached_ok wf).2.2.1
          rw [ro] at this
          exact this t tm
        have eR2 := s1 _ _ eR
        refine ⟨.ref a, rfl, .int (t : Int), rfl, a, _, (t : Int), .ref b, rfl, rfl, SqL.of (S2 _ _ ev), atI_nat hb, b, rfl, ⟨_, SqL.of (S2 _ _ ew0)⟩, fun D2 hD2 => ?_⟩
        refine lc_it (w := walk_list (K := K) (a := b) (xs := ws)) (g := gTup K 2 (gCons (gName 8) (gCons (gName 9) gNil))) (tt := tYes) (fun j G => ∃ ts : List Addr, G D2 = some (.lst (ts.map V.ref)) ∧ ts.length = j ∧ Same H'' G ∧ ∀ (m : Nat) (t' : Addr), ts[m]? = some t' → ∃ e, (rowC c t)[m]? = some e ∧ G t' = some (.tup [.str e.1, .int ((o.idxOf e.2 : Nat) : Int)]))
          ⟨[], upd_same, rfl, Same.new hD2, fun m l z => by cases z⟩ (fun j G hj ⟨_, _, _, s, _⟩ => SqL.of (s _ _ (S2 _ _ ew0))) (fun j y G G' hj hP2 hy => ?_) (fun G hP2 => ?_)
        · obtain ⟨ts, e2, lt2, s2, ok2⟩ := hP2
          obtain ⟨rfl, hy⟩ := hy
          obtain ⟨tt, en, he, rfl, htt⟩ := ents j y hy
          have hin := clo en (List.mem_of_getElem? he)
          have dg := DGet.k (k := .inl (en.2 : Int)) (s2 _ _ eR2)
          rw [places_val, if_pos hin, Nat.zero_add] at dg
          have ej : j < (rowC c t).length := (List.getElem?_eq_some_iff.mp he).1
          refine ⟨tt, [.str en.1, .int (en.2 : Int)], rfl, SqT.of (s2 _ _ (S2 _ _ htt)), rfl, .str en.1, _, rfl, .int (en.2 : Int), _, rfl, rfl, rfl, yes_of (iteT ?_)⟩
          have lrow : (rowC c t).length ≤ 1000 := by
            unfold rowC
            rw [List.getD_eq_getElem?_getD, List.getElem?_eq_getElem tl]
            exact l2 _ (List.getElem_mem tl)
          refine ⟨.str en.1, rfl, .ref R, rfl, .int (en.2 : Int), rfl, R, _, rfl, dg, (by show 2 ≤ sizeLine; decide), fun t2 ht2 => ?_⟩
          have n2 : D2 ≠ t2 := ne_of_none e2 ht2
          have St := Same.new ht2 (o := .tup [V.str en.1, .int ((o.idxOf en.2 : Nat) : Int)])
          refine ⟨_, St _ _ e2, by rw [List.length_map, lt2, sizeLine_eq]; omega, ts ++ [t2], by rw [upd_same, List.map_append]; rfl, by rw [List.length_append, lt2]; rfl, fun b' u eb' => ?_, fun m t' hm => ?_⟩
          · rw [upd_ne (ne_of_none eb' hD2)]
            exact St _ _ (s2 _ _ eb')
          · by_cases hlt2 : m < ts.length
            · rw [List.getElem?_append_left hlt2] at hm
              obtain ⟨e', h1, h2⟩ := ok2 m t' hm
              refine ⟨e', h1, ?_⟩
              rw [upd_ne (fun z => by rw [z, e2] at h2; cases h2)]
              exact St _ _ h2
            · rw [List.getElem?_append_right (by omega)] at hm
              have z : m - ts.length = 0 := by
                by_cases q : m - ts.length = 0
                · exact q
                · rw [List.getElem?_eq_none (by simp; omega)] at hm
                  cases hm
              rw [z] at hm
              cases hm
              have mj : m = j := by omega
              subst mj
              exact ⟨en, he, by rw [upd_ne n2.symm]; exact upd_same⟩
        · obtain ⟨ts, e2, lt2, s2, ok2⟩ := hP2
          have eD4 := s2 _ _ eD
          have nDD : D2 ≠ D := (ne_of_none eD hD2).symm
          have row : RowAt G D2 ((rowC c t).map fun e => (e.1, o.idxOf e.2)) := ⟨ts, e2, by rw [List.length_map, lt2, lw], fun m t' hm => by
            obtain ⟨e', h1, h2⟩ := ok2 m t' hm
            exact ⟨_, by rw [List.getElem?_map, h1]; rfl, h2⟩⟩
          refine ⟨_, eD4, by rw [List.length_map, ll, sizeLine_eq]; have := nodup_len nd lt; omega, ls ++ [D2], by rw [upd_same, List.map_append]; rfl, by rw [List.length_append, ll]; rfl, fun b' u eb' => ?_, fun m l hm => ?_⟩
          · rw [upd_ne (ne_of_none eb' hD)]
            exact s2 _ _ (s1 _ _ eb')
          · by_cases hlt2 : m < ls.length
            · rw [List.getElem?_append_left hlt2] at hm
              obtain ⟨nl, t', h1, h2⟩ := rows m l hm
              exact ⟨nl, t', h1, h2.keep nl eD fun b' u nb eb' => by rw [upd_ne nb]; exact s2 _ _ eb'⟩
            · rw [List.getElem?_append_right (by omega)] at hm
              have z : m - ls.length = 0 := by
                by_cases q : m - ls.length = 0
                · exact q
                · rw [List.getElem?_eq_none (by simp; omega)] at hm
                  cases hm
              rw [z] at hm
              cases hm
              have mj : m = i := by omega
              subst mj
              exact ⟨nDD, t, et, row.keep nDD eD4 fun b' u nb eb' => by rw [upd_ne nb]; exact eb'⟩
      · obtain ⟨ls, eD, ll, s1, rows⟩ := hP
        refine k D H' (Same.trans S1 s1) (none_of S1 hD) ?_
        refine .lst eD (dxAll_of (by rw [List.length_map, List.length_map, ll, lo, keptF_length, ro]) fun j v hv => ?_)
        rw [List.getElem?_map] at hv
        cases el : ls[j]? with
        | none => rw [el] at hv; cases hv
        | some l =>
          rw [el] at hv
          cases hv
          obtain ⟨_, t, et, ra⟩ := rows j l el
          refine ⟨_, ?_, ra.dx⟩
          unfold keptF
          rw [ro, List.getElem?_map, List.getElem?_map, et]
          rfl
end
end K52
end

section
set_option maxHeartbeats 4000000
/-! what is passed is looked at -/
namespace K52
open PySem PySem.Spec PyProof.Rows L2
theorem call_lenK {X : Cx} {K : PySem.W.Frag} (e : X.K = K) : CallR X (.builtin "len") (fun xs H Q => ∃ x n, xs = [x] ∧ LenV K x H n ∧ Q (.int n) H) := by
  subst e
  exact call_len
/-- a comprehension over a list of which each thing gives the same bool -/
theorem lc_bools {K : PySem.W.Frag} {a : Addr} {xs : List V} {j : Nat} {te : TE} {vs : List Nat} {σ : L2.St} {H1 : Hp} {D : Addr} {Qd : Hp → Prop} (b : Bool) (hn : H1 D = none) (hl : H1 a = some (.lst xs)) (hsz : xs.length ≤ 1000)
    (hw : ∀ x, wipe ((wipe σ vs).set j (some x)) vs = wipe σ vs) (hstep : ∀ x ∈ xs, ∀ H', Same H1 H' → ∀ Q : VK, (∀ H2, Same H' H2 → Q (.bl b) H2) → te ((wipe σ vs).set j (some x)) H' Q)
    (hend : ∀ H', Same H1 H' → H' D = some (.lst ((List.replicate xs.length b).map V.bl)) → Qd H') :
    ∃ W : Nat → Nat → Hp → Prop, (∃ m, W 0 m (upd H1 D (.lst []))) ∧ ∀ i m H, W i m H →
      ((Itl K a).stop i H ∧ Qd H) ∨ ((Itl K a).go i H ∧ ∃ Nx : Hp → Prop, (∀ H', Nx H' → ∃ m', m' < m ∧ W (i + 1) m' H') ∧ ∀ x H', (Itl K a).yld i H x H' → gName j x (wipe σ vs) H' fun σ2 H2 => wipe σ2 vs = wipe σ vs ∧ tYes σ2 H2 fun b H3 =>
        if b = true then te σ2 H3 fun y H4 => ∃ acc, H4 D = some (.lst acc) ∧ acc.length < sizeLine ∧ Nx (upd H4 D (.lst (acc ++ [y]))) else Nx H3) := by
  refine lc_it (w := walk_list (K := K) (a := a) (xs := xs)) (g := gName j) (tt := tYes) (fun i H' => i ≤ xs.length ∧ Same H1 H' ∧ H' D = some (.lst ((List.replicate i b).map V.bl))) ⟨Nat.zero_le _, Same.new hn, upd_same⟩ (fun i H hi hP => SqL.of (hP.2.1 _ _ hl)) (fun i x H' H2 hi hP hy => ?_) (fun H' hP => hend H' hP.2.1 hP.2.2)
  obtain ⟨hi', s, eD⟩ := hP
  obtain ⟨rfl, hx⟩ := hy
  refine ⟨hw x, ?_⟩
  show te _ _ _
  refine hstep x (List.mem_of_getElem? hx) _ s _ fun H3 s3 => ⟨_, s3 _ _ eD, ?_, hi, ?_, ?_⟩
  · rw [List.length_map, List.length_replicate, sizeLine_eq]; omega
  · intro c o e
    rw [upd_ne (ne_of_none e hn)]
    exact s3 _ _ (s _ _ e)
  · rw [upd_same, List.replicate_succ', List.map_append]; rfl
def okRow (z : Str) : Prop := wordD (.str z) = true ∧ z.length ≤ 2000
theorem okRow.tame {z : Str} (h : okRow z) : Tame (.str z) := tame_str (Nat.le_trans h.2 (by decide)) fun c hc => by
  have := List.all_eq_true.mp h.1 c hc
  have e : ∀ c ∈ (PySem.Str.ofString "abcd").cps.toList, c < 1114112 := by decide +kernel
  exact e c (of_decide_eq_true this)
def spRow : Sp := fun vs H Q _ => ∃ z : Str, vs = [.str z] ∧ okRow z ∧ ∀ H', Same H H' → Q (.bl true) H'
def spCheckRow : Sp := fun vs H Q _ => ∃ z : Str, vs = [.str z] ∧ okRow z ∧ ∀ H', Same H H' → Q .non H'
def spIsL : Sp := fun vs H Q _ => ∃ (v : V) (ds : List PyData), vs = [v] ∧ Dx H v (.list ds) ∧ ∀ H', Same H H' → Q (.bl true) H'
def spIn : Sp := fun vs H Q _ => ∃ s n : Int, vs = [.int s, .int n] ∧ 0 ≤ s ∧ s < n ∧ n < 10 ^ 30 ∧ ∀ H', Same H H' → Q .non H'
def spCheckRate (C : Addr) : Sp := fun vs H Q _ => ∃ (a : Addr) (p q : Int), vs = [.ref a] ∧ RatO C H a p q ∧ ∀ H', Same H H' → Q .non H'
/-- a def with defaults -/
abbrev FunV (K : PySem.W.Frag) (x qual : Str) (st : Stmt) (dvs : List V) (f : Addr) (fd : FuncData) : Prop := FunD K x qual (defArgs st) (defBody st) (defScope st) dvs [] f fd
theorem FunV.okV {P : Program} {w : World} {K : PySem.W.Frag} {mg : Str → Option Value} {base : Heap} {x qual : Str} {st : Stmt} {dvs : List V} {f : Addr} {fd : FuncData} {N ps : List Str} {k : Nat} {sp : Sp} (F : FunV K x qual st dvs f fd) (S : FnScope N ps (defScope st)) (len : ∀ vs H Q E, sp vs H Q E → vs.length = ps.length)
    (hbody : ∀ (cdv : Value) (A : Around) (outer : List Env) (s : Shared) (H : Hp) (vs : List V) (Q : VK) (E : XK), Room k (A.deeper (envOfC qual (defScope st) s.heap.objs.size f cdv)) → sp vs H Q E →
      ∃ t, PSs (cxOf CX0 P w K mg base N qual (defScope st) f cdv A outer s H E).nox (defBody st) t ∧ t { nx := fun _ H' => Q .non H', rt := Q } (L2.start N vs) H) : FnOk P w K mg base CX0 (k + 1) f fd ps sp :=
  F.ok S len fun cdv A outer s H vs Q E hr hs => let ⟨t, h, q⟩ := hbody cdv A outer s H vs Q E hr hs; ⟨t, h.nox, q⟩
def spText : Sp := fun vs H Q _ => ∃ (v : V) (ws : List Nat) (n : Int), vs = [v, .int n, .int 0, .int 200] ∧ Dx H v (.list (ws.map fun (w : Nat) => .int (w : Int))) ∧ ws.length ≤ 200 ∧ (∀ w ∈ ws, (w : Int) < n) ∧ n < 10 ^ 30 ∧ ∀ H', Same H H' → Q .non H'
def spEntry : Sp := fun vs H Q _ => ∃ (t : Addr) (z : Str) (n : Nat) (q s : Int), vs = [.ref t, .int q, .int s] ∧ H t = some (.tup [.str z, .int (n : Int)]) ∧ okRow z ∧ (z.length : Int) = q ∧ (n : Int) < s ∧ s < 10 ^ 30 ∧ ∀ H', Same H H' → Q (.bl true) H'
section
variable {P : Program} {w : World} {K : PySem.W.Frag} {mg : Str → Option Value} {base : Heap} {ad : Str → Addr} {fd : Str → FuncData}
theorem scIsList : FnScope ["value"] ["value"] (defScope sIsList) := ⟨rfl, rfl, rfl, by decide +kernel, rfl, by decide +kernel, by decide +kernel⟩
theorem ok_is_list (X : Tx K mg ad fd) : FnOk P w K mg base CX0 1 (ad "is_list") (fd "is_list") ["value"] spIsL := by
  refine X.F_is_list.ok scIsList (fun vs H Q E h => ?_) (fun cdv A outer s H vs Q E hr h => ?_)
  · obtain ⟨v, ds, rfl, _⟩ := h
    rfl
  · obtain ⟨v, ds, rfl, hd, k⟩ := h
    refine ⟨_, (pss_one (ps_ret (by exact (pe_callB call_isiT (by rfl) X.m_isinstance (by decide +kernel) (pa_cons (pv 0) (pa_cons (pe_tup (pa_cons (pe_bltn (v := .ty "list") (by rfl) X.m_list (by decide +kernel) rfl) (pa_cons (pe_bltn (v := .ty "tuple") (by rfl) X.m_tuple (by decide +kernel) rfl) pa_nil))) pa_nil)))))), ?_⟩
    refine ⟨v, rfl, (by show 2 ≤ sizeLine; decide), fun t ht => ⟨v, t, _, _, _, _, rfl, upd_same, .cons (.ty _) (.cons (.ty _) .nil), dx_ty (hd.same (Same.new ht)), ?_, k _ (Same.new ht)⟩⟩
    have e : kitB "list" "list" = some true := by decide +kernel
    show PySem.W.kitAny K (.type "list") [.type "list", .type "tuple"] = some true
    unfold PySem.W.kitAny
    rw [kit_ty (K := K) e]
theorem scIsRow : FnScope ["value", "sign"] ["value"] (defScope sIsRow) := ⟨rfl, rfl, rfl, by decide +kernel, rfl, by decide +kernel, by decide +kernel⟩
theorem ok_is_row (X : Tx K mg ad fd) : FnOk P w K mg base CX0 1 (ad "is_row") (fd "is_row") ["value"] spRow := by
  obtain ⟨tA, GLOB_ALL_SIGNS⟩ := X.g_ALL_SIGNS
  refine X.F_is_row.ok scIsRow (fun vs H Q E h => ?_) (fun cdv A outer s H vs Q E hr h => ?_)
  · obtain ⟨z, rfl, _⟩ := h
    rfl
  · obtain ⟨z, rfl, hz, k⟩ := h
    refine ⟨_, (pss_one (ps_ret (by exact (pe_and (pe_callB call_isi (by rfl) X.m_isinstance (by decide +kernel) (pa_cons (pv 0) (pa_cons (pe_bltn (v := .ty "str") (by rfl) X.m_str (by decide +kernel) rfl) pa_nil))) (pe_one (pe_callB (cr_all rfl) (by rfl) X.m_all (by decide +kernel) (pa_cons (pe_lc (own := [("sign", 1)]) (g := gName 1) rfl scIsRow.nd (pi_str (pv 0)) (blkOk_by (own := [("sign", 1)]) (N := ["value", "sign"]) (sc := defScope sIsRow) (by decide +kernel)) (fun _ _ _ _ _ => pg_name (i := 1) scIsRow.nd rfl (Or.inl rfl)) (fun _ _ _ _ _ => pts_nil) (fun _ _ _ _ _ => (pe_cmpR op_in_sign (pv 1) (pe_glob (v := .str "abcd") (by rfl) GLOB_ALL_SIGNS ⟨_, rfl⟩) rfl))) pa_nil))))))), ?_⟩
    refine ⟨.str z, rfl, .str z, .ty "str", _, _, _, rfl, .ty _, dx_ty (.str z), kit_ty (kit_s (.str z)), _, rfl, .str z, rfl, z, rfl, fun D hD => ?_⟩
    refine lc_it (w := walk_str (z := z)) (g := gName 1) (tt := tYes) (fun i H' => Same H H' ∧ H' D = some (.lst (((z.cps.toList.take i).map sgn).map V.bl))) ⟨Same.new hD, upd_same⟩ (fun _ _ _ _ => True.intro) (fun i x H' H2 hi hP hy => ?_) (fun H' hP => ?_)
    · obtain ⟨hs, eD⟩ := hP
      obtain ⟨rfl, c, hc, rfl⟩ := hy
      have hc' : z.cps.toList[i]? = some c := by rw [Array.getElem?_toList]; exact hc
      have lz : z.cps.size ≤ 2000 := hz.2
      refine ⟨rfl, .str ⟨#[c]⟩, rfl, c, "abcd", rfl, rfl, _, eD, ?_, ?_, ?_⟩
      · rw [List.length_map, List.length_map, List.length_take, sizeLine_eq]
        omega
      · intro b o e
        rw [upd_ne (ne_of_none e hD)]
        exact hs b o e
      · rw [upd_same, take_snoc hc', List.map_append, List.map_append]
        rfl
    · obtain ⟨hs, eD⟩ := hP
      refine ⟨D, (z.cps.toList.take z.cps.size).map sgn, rfl, SqL.of eD, ?_⟩
      rw [show z.cps.toList.take z.cps.size = z.cps.toList from List.take_of_length_le (by simp)]
      have q' := k H' hs
      have e : (z.cps.toList.map sgn).all id = true := by
        rw [List.all_map]
        exact hz.1
      rw [e]
      exact q'
theorem scIsShortRow : FnScope ["value"] ["value"] (defScope sIsShortRow) := ⟨rfl, rfl, rfl, by decide +kernel, rfl, by decide +kernel, by decide +kernel⟩
theorem ok_is_short_row (X : Tx K mg ad fd) : FnOk P w K mg base CX0 2 (ad "is_short_row") (fd "is_short_row") ["value"] spRow := by
  have G_is_row := ok_is_row (P := P) (w := w) (base := base) X
  obtain ⟨tA, GLOB_MOST_IN_ROW⟩ := X.g_MOST_IN_ROW
  refine X.F_is_short_row.ok scIsShortRow (fun vs H Q E h => ?_) (fun cdv A outer s H vs Q E hr h => ?_)
  · obtain ⟨z, rfl, _⟩ := h
    rfl
  · obtain ⟨z, rfl, hz, k⟩ := h
    have HR_is_row := hr
    refine ⟨_, (pss_one (ps_ret (by exact (pe_and (pe_call G_is_row HR_is_row (by rfl) X.g_is_row X.F_is_row.kp X.b_is_row .nil pass0 (pa_cons (pv 0) pa_nil)) (pe_one (pe_cmpR op_le (pe_callB call_len (by rfl) X.m_len (by decide +kernel) (pa_cons (pv 0) pa_nil)) (pe_glob (v := .int 2000) (by rfl) GLOB_MOST_IN_ROW ⟨_, rfl⟩) (nomark _))))))), ?_⟩
    refine ⟨.str z, rfl, z, rfl, hz, fun H1 s1 => ⟨_, rfl, .str z, rfl, .str z, z.length, rfl, ⟨by rw [sizeLine_eq]; have := hz.2; omega, rfl⟩, _, _, rfl, rfl, ?_⟩⟩
    show Q (.bl (decide ((z.length : Int) ≤ 2000))) H1
    rw [decide_eq_true (show (z.length : Int) ≤ 2000 by have := hz.2; omega)]
    exact k _ s1
theorem scCheckRow : FnScope ["row"] ["row"] (defScope sCheckRow) := ⟨rfl, rfl, rfl, by decide +kernel, rfl, by decide +kernel, by decide +kernel⟩
theorem ok_check_row (X : Tx K mg ad fd) : FnOk P w K mg base CX0 3 (ad "check_row") (fd "check_row") ["row"] spCheckRow := by
  have G_is_short_row := ok_is_short_row (P := P) (w := w) (base := base) X
  refine X.F_check_row.ok scCheckRow (fun vs H Q E h => ?_) (fun cdv A outer s H vs Q E hr h => ?_)
  · obtain ⟨z, rfl, _⟩ := h
    rfl
  · obtain ⟨z, rfl, hz, k⟩ := h
    have HR_is_short_row := hr
    refine ⟨_, (pss_one (ps_if (pt_not (pt_val (pe_call G_is_short_row HR_is_short_row (by rfl) X.g_is_short_row X.F_is_short_row.kp X.b_is_short_row .nil pass0 (pa_cons (pv 0) pa_nil))))
  (pss_one ps_never)
  pss_nil)), ?_⟩
    exact ⟨.str z, rfl, z, rfl, hz, fun H1 s1 => ⟨_, rfl, iteF (k _ s1)⟩⟩
theorem scCheckState : FnScope ["state", "size"] ["state", "size"] (defScope sCheckState) := ⟨rfl, rfl, rfl, by decide +kernel, rfl, by decide +kernel, by decide +kernel⟩
theorem ok_check_state (X : Tx K mg ad fd) : FnOk P w K mg base CX0 3 (ad "check_state") (fd "check_state") ["state", "size"] spIn := by
  have G_is_between := ok_is_between (P := P) (w := w) (base := base) X
  refine X.F_check_state.ok scCheckState (fun vs H Q E h => ?_) (fun cdv A outer s H vs Q E hr h => ?_)
  · obtain ⟨z, n, rfl, _⟩ := h
    rfl
  · obtain ⟨z, n, rfl, z0, zn, nl, k⟩ := h
    have HR_is_between := hr
    refine ⟨_, (pss_one (ps_if (pt_not (pt_val (pe_call G_is_between HR_is_between (by rfl) X.g_is_between X.F_is_between.kp X.b_is_between .nil pass0 (pa_cons (pv 0) (pa_cons pe_int (pa_cons (pe_op op_sub (pv 1) pe_int) pa_nil))))))
  (pss_one ps_never)
  pss_nil)), ?_⟩
    refine ⟨.int z, rfl, .int n, rfl, n, 1, rfl, rfl, .int z, .int z, 0, n - 1, rfl, .int z, tame_int (by omega), fun H1 s1 => ⟨_, rfl, ?_⟩⟩
    rw [show betweenD 0 (n - 1) (.int z) = true from by
      show (decide (0 ≤ z) && decide (z ≤ n - 1)) = true
      rw [decide_eq_true z0, decide_eq_true (by omega)]; rfl]
    exact iteF (k _ s1)
theorem scCheckWord : FnScope ["word", "size"] ["word", "size"] (defScope sCheckWord) := ⟨rfl, rfl, rfl, by decide +kernel, rfl, by decide +kernel, by decide +kernel⟩
theorem ok_check_word (X : Tx K mg ad fd) : FnOk P w K mg base CX0 3 (ad "check_word") (fd "check_word") ["word", "size"] spIn := by
  have G_is_between := ok_is_between (P := P) (w := w) (base := base) X
  refine X.F_check_word.ok scCheckWord (fun vs H Q E h => ?_) (fun cdv A outer s H vs Q E hr h => ?_)
  · obtain ⟨z, n, rfl, _⟩ := h
    rfl
  · obtain ⟨z, n, rfl, z0, zn, nl, k⟩ := h
    have HR_is_between := hr
    refine ⟨_, (pss_one (ps_if (pt_not (pt_val (pe_call G_is_between HR_is_between (by rfl) X.g_is_between X.F_is_between.kp X.b_is_between .nil pass0 (pa_cons (pv 0) (pa_cons pe_int (pa_cons (pe_op op_sub (pv 1) pe_int) pa_nil))))))
  (pss_one ps_never)
  pss_nil)), ?_⟩
    refine ⟨.int z, rfl, .int n, rfl, n, 1, rfl, rfl, .int z, .int z, 0, n - 1, rfl, .int z, tame_int (by omega), fun H1 s1 => ⟨_, rfl, ?_⟩⟩
    rw [show betweenD 0 (n - 1) (.int z) = true from by
      show (decide (0 ≤ z) && decide (z ≤ n - 1)) = true
      rw [decide_eq_true z0, decide_eq_true (by omega)]; rfl]
    exact iteF (k _ s1)
theorem scCheckRate : FnScope ["rate"] ["rate"] (defScope sCheckRate) := ⟨rfl, rfl, rfl, by decide +kernel, rfl, by decide +kernel, by decide +kernel⟩
theorem ok_check_rate (X : Tx K mg ad fd) (RC : RateC K mg ad fd) : FnOk P w K mg base CX0 1 (ad "check_rate") (fd "check_rate") ["rate"] (spCheckRate (ad "Rate")) := by
  refine X.F_check_rate.ok scCheckRate (fun vs H Q E h => ?_) (fun cdv A outer s H vs Q E hr h => ?_)
  · obtain ⟨a, p, q, rfl, _⟩ := h
    rfl
  · obtain ⟨a, p, q, rfl, ho, k⟩ := h
    refine ⟨_, (pss_one (ps_if (pt_not (pt_val (pe_callB call_isi (by rfl) X.m_isinstance (by decide +kernel) (pa_cons (pv 0) (pa_cons (pe_glob (v := .ref (ad "Rate")) (by rfl) RC.G rfl) pa_nil)))))
  (pss_one ps_never)
  pss_nil)), ?_⟩
    exact ⟨.ref a, rfl, .ref a, .ref (ad "Rate"), _, _, true, rfl, .own _, ty_rate RC ho, (by unfold PySem.W.kitOne; rw [if_pos (by simp)]), true, rfl, iteF (k _ Same.refl)⟩
theorem b_check_text (X : Tx K mg ad fd) : ∃ ds, Vals [.int 0, .int 200] ds ∧ Binds K (fd "check_text") ["text", "size", "least", "most"] ds := X.F_check_text.binds1 2 0 (by decide) rfl fun T kV doc pm an cdv ct us its hl hi => by
  match us, its, hl, hi with
  | [_, _], [_, _], _, _ => first | exact ⟨_, rfl, rfl⟩ | exact ⟨_, by with_unfolding_all rfl, rfl⟩
theorem scCheckText : FnScope ["text", "size", "least", "most", "position", "word"] ["text", "size", "least", "most"] (defScope sCheckText) := ⟨rfl, rfl, rfl, by decide +kernel, rfl, by decide +kernel, by decide +kernel⟩
theorem ok_check_text (X : Tx K mg ad fd) : FnOk P w K mg base CX0 3 (ad "check_text") (fd "check_text") ["text", "size", "least", "most"] spText := by
  have G_is_between := ok_is_between (P := P) (w := w) (base := base) X
  have G_is_list := ok_is_list (P := P) (w := w) (base := base) X
  refine FunV.okV X.F_check_text scCheckText (fun vs H Q E h => ?_) (fun cdv A outer s H vs Q E hr h => ?_)
  · obtain ⟨v, ws, n, rfl, _⟩ := h
    rfl
  · obtain ⟨v, ws, n, rfl, hd, l, lt, nl, k⟩ := h
    have HR_is_between := hr
    have HR_is_list : Room 1 _ := hr.mono (by decide)
    refine ⟨_, (pss_cons (ps_if (PW.pt (pw_or (pt_not (pt_val (pe_call G_is_list HR_is_list (by rfl) X.g_is_list X.F_is_list.kp X.b_is_list .nil pass0 (pa_cons (pv 0) pa_nil)))) (pw_or1 (pt_not (pt_chain op_le op_le (pv 2) (pe_callB call_len (by rfl) X.m_len (by decide +kernel) (pa_cons (pv 0) pa_nil)) (pv 3))))))
  (pss_one ps_never)
  pss_nil)
  (pss_one (ps_for PassesOwn.never rfl (pi_enum (by rfl) X.m_enumerate (pa_cons (pv 0) pa_nil)) (pg_tup rfl (pgs_cons (pg_name (i := 4) scCheckText.nd rfl (.inl rfl)) (pgs_cons (pg_name (i := 5) scCheckText.nd rfl (.inl rfl)) pgs_nil)))
  (pss_one (ps_if (pt_not (pt_val (pe_call G_is_between HR_is_between (by rfl) X.g_is_between X.F_is_between.kp X.b_is_between .nil pass0 (pa_cons (pv 5) (pa_cons pe_int (pa_cons (pe_op op_sub (pv 1) pe_int) pa_nil))))))
  (pss_one ps_never)
  pss_nil))))), ?_⟩
    refine ⟨v, rfl, v, _, rfl, hd, fun H1 s1 => ⟨_, rfl, iteF ?_⟩⟩
    obtain ⟨a, xs, rfl, e, all⟩ := (hd.same s1).list
    have lx : xs.length = ws.length := by rw [all.length, List.length_map]
    refine ⟨.int 0, rfl, .ref a, rfl, .ref a, _, rfl, .inl ⟨_, SqL.of e, rfl⟩, 0, _, rfl, rfl, _, rfl, ?_⟩
    rw [decide_eq_true (show (0 : Int) ≤ (xs.length : Int) by omega)]
    refine iteT ⟨.int 200, rfl, _, 200, rfl, rfl, _, rfl, ?_⟩
    rw [decide_eq_true (show (xs.length : Int) ≤ 200 by omega)]
    refine iteF ⟨.ref a, rfl, a, xs, rfl, SqL.of e, ?_⟩
    refine for_it (w := walk_enum (K := K) (a := a) (xs := xs)) (fun i σ H' => ∃ r2 r3, σ = [some (.ref a), some (.int n), some (.int 0), some (.int 200), r2, r3] ∧ Same H1 H') ⟨_, _, rfl, Same.refl⟩ (fun i σ H' hi ⟨_, _, _, s⟩ => SqL.of (s _ _ e)) ?_ ?_
    · rintro i x σ H2 H3 hi ⟨r2, r3, rfl, s2⟩ ⟨T, u1, u2, rfl, hT, rfl, e1, e2⟩
      cases e1
      obtain ⟨d, hd2, dx⟩ := all.from_ e2
      rw [List.getElem?_map] at hd2
      cases ew : ws[i]? with
      | none => rw [ew] at hd2; cases hd2
      | some wv =>
        rw [ew] at hd2
        cases hd2
        cases dx
        have lw := lt wv (List.mem_of_getElem? ew)
        have sT := Same.new hT (o := .tup [V.int (i : Int), .int (wv : Int)])
        refine ⟨T, _, rfl, SqT.of upd_same, rfl, _, _, rfl, _, _, rfl, rfl, ?_⟩
        refine ⟨.int (wv : Int), rfl, .int n, rfl, n, 1, rfl, rfl, .int (wv : Int), .int (wv : Int), 0, n - 1, rfl, .int _, tame_int (by omega), fun H4 s4 => ⟨_, rfl, ?_⟩⟩
        rw [show betweenD 0 (n - 1) (.int (wv : Int)) = true from by
          show (decide (0 ≤ (wv : Int)) && decide ((wv : Int) ≤ n - 1)) = true
          rw [decide_eq_true (by omega), decide_eq_true (by omega)]; rfl]
        exact iteF ⟨_, _, rfl, Same.trans s2 (Same.trans sT s4)⟩
    · rintro σ H2 ⟨r2, r3, rfl, s2⟩
      exact k _ (Same.trans s1 s2)
theorem scIsBlock : FnScope ["value", "length"] ["value", "length"] (defScope sIsBlock) := ⟨rfl, rfl, rfl, by decide +kernel, rfl, by decide +kernel, by decide +kernel⟩
def spBlock : Sp := fun vs H Q _ => ∃ (z : Str) (q : Int), vs = [.str z, .int q] ∧ okRow z ∧ (z.length : Int) = q ∧ ∀ H', Same H H' → Q (.bl true) H'
theorem ok_is_block (X : Tx K mg ad fd) : FnOk P w K mg base CX0 2 (ad "is_block") (fd "is_block") ["value", "length"] spBlock := by
  have G_is_row := ok_is_row (P := P) (w := w) (base := base) X
  refine X.F_is_block.ok scIsBlock (fun vs H Q E h => ?_) (fun cdv A outer s H vs Q E hr h => ?_)
  · obtain ⟨z, q, rfl, _⟩ := h
    rfl
  · obtain ⟨z, q, rfl, hz, zq, k⟩ := h
    have HR_is_row := hr
    refine ⟨_, (pss_one (ps_ret (by exact (pe_and (pe_call G_is_row HR_is_row (by rfl) X.g_is_row X.F_is_row.kp X.b_is_row .nil pass0 (pa_cons (pv 0) pa_nil)) (pe_one (pe_cmpR op_eq (pe_callB call_len (by rfl) X.m_len (by decide +kernel) (pa_cons (pv 0) pa_nil)) (pv 1) (nomark _))))))), ?_⟩
    refine ⟨.str z, rfl, z, rfl, hz, fun H1 s1 => ⟨_, rfl, ?_⟩⟩
    subst zq
    have zl : z.length ≤ sizeLine := by rw [sizeLine_eq]; have := hz.2; omega
    refine iteT ⟨.str z, rfl, .str z, z.length, rfl, ⟨zl, rfl⟩, .int _, rfl, rfl, ?_⟩
    rw [decide_eq_true rfl]
    exact k _ s1
theorem scIsEntry : FnScope ["value", "length", "size"] ["value", "length", "size"] (defScope sIsEntry) := ⟨rfl, rfl, rfl, by decide +kernel, rfl, by decide +kernel, by decide +kernel⟩
theorem ok_is_entry (X : Tx K mg ad fd) : FnOk P w K mg base CX0 3 (ad "is_entry") (fd "is_entry") ["value", "length", "size"] spEntry := by
  have G_is_between := ok_is_between (P := P) (w := w) (base := base) X
  have G_is_block := ok_is_block (P := P) (w := w) (base := base) X
  refine X.F_is_entry.ok scIsEntry (fun vs H Q E h => ?_) (fun cdv A outer s H vs Q E hr h => ?_)
  · obtain ⟨t, z, n, q, s', rfl, _⟩ := h
    rfl
  · obtain ⟨t, z, n, q, s', rfl, et, hz, zq, ns, sl, k⟩ := h
    have HR_is_between := hr
    have HR_is_block : Room 2 _ := hr
    refine ⟨_, (pss_cons (ps_if (PW.pt (pw_or (pt_not (pt_val (pe_callB call_isi (by rfl) X.m_isinstance (by decide +kernel) (pa_cons (pv 0) (pa_cons (pe_bltn (v := .ty "tuple") (by rfl) X.m_tuple (by decide +kernel) rfl) pa_nil))))) (pw_or1 (pt_cmpR op_ne (pe_callB call_len (by rfl) X.m_len (by decide +kernel) (pa_cons (pv 0) pa_nil)) pe_int (nomark _)))))
  (pss_one (ps_ret (by exact pe_bl)))
  pss_nil)
  (pss_one (ps_ret (by exact (pe_and (pe_call G_is_block HR_is_block (by rfl) X.g_is_block X.F_is_block.kp X.b_is_block .nil pass0 (pa_cons (pe_ix ix_tup (pv 0) pe_int (fun _ _ => rfl)) (pa_cons (pv 1) pa_nil))) (pe_one (pe_call G_is_between HR_is_between (by rfl) X.g_is_between X.F_is_between.kp X.b_is_between .nil pass0 (pa_cons (pe_ix ix_tup (pv 0) pe_int (fun _ _ => rfl)) (pa_cons pe_int (pa_cons (pe_op op_sub (pv 2) pe_int) pa_nil)))))))))), ?_⟩
    have te : TyX K H (.ref t) (.type "tuple") := .base (.tup et)
    have k1 : kitB "tuple" "tuple" = some true := by decide +kernel
    refine ⟨.ref t, rfl, .ref t, .ty "tuple", _, _, _, rfl, .ty _, te, kit_ty k1, _, rfl, iteF ?_⟩
    refine ⟨.ref t, rfl, .ref t, 2, rfl, .inr ⟨_, SqT.of et, rfl⟩, rfl, _, rfl, iteF ?_⟩
    refine ⟨.ref t, rfl, t, _, 0, .str z, rfl, rfl, SqT.of et, atI_nat (j := 0) rfl, .int q, rfl, z, q, rfl, hz, zq, fun H1 s1 => ⟨_, rfl, ?_⟩⟩
    have e1 := s1 _ _ et
    refine iteT ⟨.ref t, rfl, t, _, 1, .int (n : Int), rfl, rfl, SqT.of e1, atI_nat (j := 1) rfl, .int s', rfl, s', 1, rfl, rfl, .int (n : Int), .int (n : Int), 0, s' - 1, rfl, .int _, tame_int (by omega), fun H2 s2 => ?_⟩
    rw [show betweenD 0 (s' - 1) (.int (n : Int)) = true from by
      show (decide (0 ≤ (n : Int)) && decide ((n : Int) ≤ s' - 1)) = true
      rw [decide_eq_true (by omega), decide_eq_true (by omega)]; rfl]
    exact k _ (Same.trans s1 s2)
/-- a table that is taken at a rate -/
structure okCh (p q : Int) (c : Ch) : Prop where
  wf : WfC c
  rows : ∀ r ∈ c, (r.length : Int) = 2 ^ p.toNat
  blocks : ∀ r ∈ c, ∀ e ∈ r, wordD (.str e.1) = true ∧ (e.1.length : Int) = q
  most : (c.length : Int) * 2 ^ p.toNat ≤ 2000
def spCheckCodes (C : Addr) : Sp := fun vs H Q _ => ∃ (v : V) (c : Ch) (a : Addr) (p q : Int), vs = [v, .ref a] ∧ Dx H v (chD c) ∧ RatO C H a p q ∧ fitP p q ∧ okCh p q c ∧ ∀ H', Same H H' → Q .non H'
theorem scCheckCodes : FnScope ["codes", "rate", "position", "entries", "entry"] ["codes", "rate"] (defScope sCheckCodes) := ⟨rfl, rfl, rfl, by decide +kernel, rfl, by decide +kernel, by decide +kernel⟩
theorem ok_check_codes (X : Tx K mg ad fd) (RC : RateC K mg ad fd) : FnOk P w K mg base CX0 4 (ad "check_codes") (fd "check_codes") ["codes", "rate"] (spCheckCodes (ad "Rate")) := by
  have G_is_list := ok_is_list (P := P) (w := w) (base := base) X
  have G_is_entry := ok_is_entry (P := P) (w := w) (base := base) X
  refine X.F_check_codes.ok scCheckCodes (fun vs H Q E h => ?_) (fun cdv A outer s H vs Q E hr h => ?_)
  · obtain ⟨v, c, a, p, q, rfl, _⟩ := h
    rfl
  · obtain ⟨v, c, a, p, q, rfl, hd, ho, fit, oc, k⟩ := h
    have HR_is_entry := hr
    have HR_is_list : Room 1 _ := hr.mono (by decide)
    have HRP : Room 2 _ := hr.mono (by decide)
    refine ⟨_, (pss_cons (ps_if (PW.pt (pw_or (pt_not (pt_val (pe_call G_is_list HR_is_list (by rfl) X.g_is_list X.F_is_list.kp X.b_is_list .nil pass0 (pa_cons (pv 0) pa_nil)))) (pw_or1 (pt_cmpR op_eq (pe_callB call_len (by rfl) X.m_len (by decide +kernel) (pa_cons (pv 0) pa_nil)) pe_int (nomark _)))))
  (pss_one ps_never)
  pss_nil)
  (pss_one (ps_for PassesOwn.never rfl (pi_enum (by rfl) X.m_enumerate (pa_cons (pv 0) pa_nil)) (pg_tup rfl (pgs_cons (pg_name (i := 2) scCheckCodes.nd rfl (.inl rfl)) (pgs_cons (pg_name (i := 3) scCheckCodes.nd rfl (.inl rfl)) pgs_nil)))
  (pss_cons (ps_if (PW.pt (pw_or (pt_not (pt_val (pe_call G_is_list HR_is_list (by rfl) X.g_is_list X.F_is_list.kp X.b_is_list .nil pass0 (pa_cons (pv 3) pa_nil)))) (pw_or1 (pt_cmpR op_ne (pe_callB call_len (by rfl) X.m_len (by decide +kernel) (pa_cons (pv 3) pa_nil)) (pe_prop_size RC HRP (pv 1) rfl) (nomark _)))))
  (pss_one ps_never)
  pss_nil)
  (pss_one (ps_if (pt_not (pt_val (pe_callB (cr_all rfl) (by rfl) X.m_all (by decide +kernel) (pa_cons (pe_lc (own := [("entry", 4)]) (g := gName 4) rfl scCheckCodes.nd (pi_list (pv 3)) (blkOk_by (own := [("entry", 4)]) (N := ["codes", "rate", "position", "entries", "entry"]) (sc := defScope sCheckCodes) (by decide +kernel)) (fun _ _ _ _ _ => pg_name (i := 4) scCheckCodes.nd rfl (Or.inl rfl)) (fun _ _ _ _ _ => pts_nil) (fun _ _ _ _ _ => (pe_call G_is_entry HR_is_entry (by rfl) X.g_is_entry X.F_is_entry.kp X.b_is_entry .nil pass0 (pa_cons (pv 4) (pa_cons (pe_prop_q RC HRP (pv 1) rfl) (pa_cons (pe_callB (call_lenK (K := K) rfl) (by rfl) X.m_len (by decide +kernel) (pa_cons (pv 0) pa_nil)) pa_nil)))))) pa_nil))))
  (pss_one ps_never)
  pss_nil)))))), ?_⟩
    obtain ⟨a', xs, rfl, e, all⟩ := hd.list
    have lx : xs.length = c.length := by rw [all.length, List.length_map]
    have pw : (1 : Int) ≤ 2 ^ p.toNat := by
      have : 0 < (2 : Int) ^ p.toNat := Int.pow_pos (by decide)
      omega
    have cl : (c.length : Int) ≤ 2000 := by
      have h1 := oc.most
      have h2 : (c.length : Int) * 1 ≤ (c.length : Int) * 2 ^ p.toNat := Int.mul_le_mul_of_nonneg_left pw (by omega)
      omega
    refine ⟨.ref a', rfl, .ref a', _, rfl, hd, fun H1 s1 => ⟨_, rfl, iteF ⟨.ref a', rfl, .ref a', _, rfl, .inl ⟨_, SqL.of (s1 _ _ e), rfl⟩, rfl, _, rfl, ?_⟩⟩⟩
    rw [decide_eq_false (show ¬ V.int (xs.length : Int) = V.int 0 from fun z => by
      have h1 := V.int.inj z
      have h2 := oc.wf.1
      omega)]
    refine iteF ⟨.ref a', rfl, a', xs, rfl, SqL.of (s1 _ _ e), ?_⟩
    refine for_it (w := walk_enum (K := K) (a := a') (xs := xs)) (fun i σ H' => ∃ r2 r3, σ = [some (.ref a'), some (.ref a), r2, r3, none] ∧ Same H H') ⟨_, _, rfl, s1⟩ (fun i σ H' hi ⟨_, _, _, s⟩ => SqL.of (s _ _ e)) ?_ ?_
    · rintro i x σ H2 H3 hi ⟨r2, r3, rfl, s2⟩ ⟨T, u1, u2, rfl, hT, rfl, e1, e2⟩
      cases e1
      obtain ⟨d, hd2, dx⟩ := all.from_ e2
      rw [List.getElem?_map] at hd2
      cases ew : c[i]? with
      | none => rw [ew] at hd2; cases hd2
      | some r =>
        rw [ew] at hd2
        cases hd2
        have rm := List.mem_of_getElem? ew
        obtain ⟨b, ws, rfl, eb, _⟩ := id dx.list
        obtain ⟨ws', eb', lw, ents⟩ := rowD_ent dx
        rw [eb] at eb'
        cases eb'
        have sT := Same.trans s2 (Same.new hT (o := .tup [V.int (i : Int), .ref b]))
        refine ⟨T, _, rfl, SqT.of upd_same, rfl, _, _, rfl, _, _, rfl, rfl, ?_⟩
        refine ⟨.ref b, rfl, .ref b, _, rfl, dx.same sT, fun H4 s4 => ⟨_, rfl, iteF ?_⟩⟩
        have S4 := Same.trans sT s4
        have ho4 := ho.same S4
        obtain ⟨dq, ea⟩ := id ho4
        refine ⟨.ref b, rfl, .ref b, _, rfl, .inl ⟨_, SqL.of (S4 _ _ eb), rfl⟩, .ref a, rfl, a, dq, _, rfl, ea, a, p, q, rfl, ho4, fit, rfl, _, rfl, ?_⟩
        rw [decide_eq_true (show V.int (ws.length : Int) = V.int (2 ^ p.toNat) by rw [lw, oc.rows r rm])]
        refine iteF ⟨.ref b, rfl, b, rfl, ⟨_, SqL.of (S4 _ _ eb)⟩, fun D hD => ?_⟩
        have rl : r.length ≤ 1000 := by
          have h1 := oc.rows r rm
          have h2 : ∀ k : Nat, k ≤ 6 → (2 : Int) ^ k ≤ 64 := by decide
          have h3 := h2 p.toNat (by have := fit.2.1; omega)
          omega
        refine lc_bools true hD (S4 _ _ eb) (by rw [lw]; exact rl) (fun _ => rfl) (fun x hx H' s' Q' q' => ?_) (fun H7 s7 eD => ?_)
        · obtain ⟨j, hj, ej⟩ := List.mem_iff_getElem.mp hx
          obtain ⟨t, en, he, rfl, et⟩ := ents j x (by rw [List.getElem?_eq_getElem hj, ej])
          obtain ⟨w1, w2⟩ := oc.blocks r rm en (List.mem_of_getElem? he)
          have S5 := Same.trans S4 s'
          have ho5 := ho.same S5
          obtain ⟨dq', ea'⟩ := id ho5
          have q6 := fit.2.2.2
          exact ⟨.ref t, rfl, .ref a, rfl, a, dq', _, rfl, ea', a, p, q, rfl, ho5, fit, .ref a', rfl, .ref a', _, rfl, .inl ⟨_, SqL.of (S5 _ _ e), rfl⟩, t, en.1, en.2, q, (xs.length : Int), rfl, S5 _ _ et, ⟨w1, by omega⟩, w2, by have := oc.wf.2 r rm en (List.mem_of_getElem? he); omega, by omega, fun H6 s6 => q' _ s6⟩
        · refine ⟨D, List.replicate ws.length true, rfl, SqL.of eD, _, rfl, ?_⟩
          rw [show (List.replicate ws.length true).all id = true by simp]
          exact iteF ⟨_, _, rfl, Same.trans S4 s7⟩
    · rintro σ H2 ⟨r2, r3, rfl, s2⟩
      exact k _ s2
end
end K52
end

section
set_option maxHeartbeats 4000000
/-! coders made -/
namespace K52
open PySem PySem.Spec PyProof.Rows L2
/-- what the top has written of the class Coder -/
structure CoderC (K : PySem.W.Frag) (mg : Str → Option Value) (ad : Str → Addr) (fd : Str → FuncData) : Prop where
  G : mg "Coder" = some (.ref (ad "Coder"))
  cl : Cls K (ad "Coder")
  mks : Mk K (ad "Coder") (ad "Coder.__init__")
  nr : NoAttr K (ad "Coder") "_rate"
  nl : NoAttr K (ad "Coder") "_lead"
  nc : NoAttr K (ad "Coder") "_codes"
  most : ∃ u, Con K (ad "Coder") "MOST_ENTRIES" (.int 2000) u
  F_init : FunV K "__init__" "Coder.__init__" sC_init [.str ""] (ad "Coder.__init__") (fd "Coder.__init__")
  b_init : Binds K (fd "Coder.__init__") ["self", "rate", "codes", "lead"] []
/-- a Coder stands at a: its rate at r, its kept codes at l -/
def CodO (C R : Addr) (H : Hp) (a : Addr) (p q : Int) (c : Ch) (lead : Str) : Prop :=
  ∃ dx r l, H a = some (.ins C dx [(("_rate" : Str), .ref r), (("_lead" : Str), .str lead), (("_codes" : Str), .ref l)]) ∧ RatO R H r p q ∧ Dx H (.ref l) (chD c)
theorem CodO.same {C R : Addr} {H H' : Hp} {a : Addr} {p q : Int} {c : Ch} {lead : Str} (h : CodO C R H a p q c lead) (s : Same H H') : CodO C R H' a p q c lead := by
  obtain ⟨dx, r, l, e, hr, hd⟩ := h
  exact ⟨dx, r, l, s _ _ e, hr.same s, hd.same s⟩
mutual
theorem Dx.butI {x : Addr} {H H' : Hp} (n : ∀ b o, b ≠ x → H b = some o → H' b = some o) (hx : ∃ C dx fs, H x = some (.ins C dx fs)) : ∀ {v : V} {d : PyData}, Dx H v d → Dx H' v d
  | _, _, .non => .non
  | _, _, .bl b => .bl b
  | _, _, .int i => .int i
  | _, _, .str x => .str x
  | _, _, .lst e h => .lst (n _ _ (fun z => by obtain ⟨C, dx, fs, q⟩ := hx; rw [z, q] at e; cases e) e) (DxAll.butI n hx h)
  | _, _, .tup e h => .tup (n _ _ (fun z => by obtain ⟨C, dx, fs, q⟩ := hx; rw [z, q] at e; cases e) e) (DxAll.butI n hx h)
  | _, _, .dic e h => .dic (n _ _ (fun z => by obtain ⟨C, dx, fs, q⟩ := hx; rw [z, q] at e; cases e) e) (DxAll.butI n hx h)
theorem DxAll.butI {x : Addr} {H H' : Hp} (n : ∀ b o, b ≠ x → H b = some o → H' b = some o) (hx : ∃ C dx fs, H x = some (.ins C dx fs)) : ∀ {vs : List V} {ds : List PyData}, DxAll H vs ds → DxAll H' vs ds
  | _, _, .nil => .nil
  | _, _, .cons a b => .cons (Dx.butI n hx a) (DxAll.butI n hx b)
end
def spCInit (C R : Addr) : Sp := fun vs H Q _ => ∃ (x dx r : Addr) (v : V) (c : Ch) (lead : Str) (p q : Int), vs = [.ref x, .ref r, v, .str lead] ∧ H x = some (.ins C dx []) ∧ RatO R H r p q ∧ fitP p q ∧ Dx H v (chD c) ∧ okCh p q c ∧ okRow lead ∧
  ∀ (H' : Hp) (l : Addr), But x H H' → H' x = some (.ins C dx [(("_rate" : Str), .ref r), (("_lead" : Str), .str lead), (("_codes" : Str), .ref l)]) → RatO R H' r p q → Dx H' (.ref l) (chD (keptF c)) → Q .non H'
section
variable {P : Program} {w : World} {K : PySem.W.Frag} {mg : Str → Option Value} {base : Heap} {ad : Str → Addr} {fd : Str → FuncData}
theorem scC_init : FnScope ["self", "rate", "codes", "lead"] ["self", "rate", "codes", "lead"] (defScope sC_init) := ⟨rfl, rfl, rfl, by decide +kernel, rfl, by decide +kernel, by decide +kernel⟩
theorem ok_cinit (X : Tx K mg ad fd) (RC : RateC K mg ad fd) (CC : CoderC K mg ad fd) : FnOk P w K mg base CX0 5 (ad "Coder.__init__") (fd "Coder.__init__") ["self", "rate", "codes", "lead"] (spCInit (ad "Coder") (ad "Rate")) := by
  have G_check_rate := ok_check_rate (P := P) (w := w) (base := base) X RC
  have G_check_codes := ok_check_codes (P := P) (w := w) (base := base) X RC
  have G_check_row := ok_check_row (P := P) (w := w) (base := base) X
  have G_kept_codes := ok_kept_codes (P := P) (w := w) (base := base) X
  obtain ⟨um, cm⟩ := CC.most
  refine FunV.okV CC.F_init scC_init (fun vs H Q E h => ?_) (fun cdv A outer s H vs Q E hr h => ?_)
  · obtain ⟨x, dx, r, v, c, lead, p, q, rfl, _⟩ := h
    rfl
  · obtain ⟨x, dx, r, v, c, lead, p, q, rfl, hx, hr', fit, hd, oc, ol, k⟩ := h
    have HR_check_codes : Room 4 _ := hr
    have HR_check_rate : Room 1 _ := hr.mono (by decide)
    have HR_check_row : Room 3 _ := hr.mono (by decide)
    have HR_kept_codes : Room 1 _ := hr.mono (by decide)
    have HRP : Room 2 _ := hr.mono (by decide)
    refine ⟨_, (pss_cons (ps_expr (by exact (pe_call G_check_rate HR_check_rate (by rfl) X.g_check_rate X.F_check_rate.kp X.b_check_rate .nil pass0 (pa_cons (pv 1) pa_nil))))
  (pss_cons (ps_expr (by exact (pe_call G_check_codes HR_check_codes (by rfl) X.g_check_codes X.F_check_codes.kp X.b_check_codes .nil pass0 (pa_cons (pv 2) (pa_cons (pv 1) pa_nil)))))
  (pss_cons (ps_expr (by exact (pe_call G_check_row HR_check_row (by rfl) X.g_check_row X.F_check_row.kp X.b_check_row .nil pass0 (pa_cons (pv 3) pa_nil))))
  (pss_cons (ps_if (pt_cmpR op_gt (pe_op op_mul (pe_callB call_len (by rfl) X.m_len (by decide +kernel) (pa_cons (pv 2) pa_nil)) (pe_prop_size RC HRP (pv 1) rfl)) (pe_con (pv 0) rfl) (nomark _))
  (pss_one ps_never)
  pss_nil)
  (pss_cons (ps_fld (pv 0) (by exact (pv 1)) rfl)
  (pss_cons (ps_fld (pv 0) (by exact (pv 3)) rfl)
  (pss_one (ps_fld (pv 0) (by exact (pe_call G_kept_codes HR_kept_codes (by rfl) X.g_kept_codes X.F_kept_codes.kp X.b_kept_codes .nil pass0 (pa_cons (pv 2) pa_nil))) rfl)))))))), ?_⟩
    have CX := hx
    refine ⟨.ref r, rfl, r, p, q, rfl, hr', fun H1 s1 => ?_⟩
    refine ⟨v, rfl, .ref r, rfl, v, c, r, p, q, rfl, hd.same s1, hr'.same s1, fit, oc, fun H2 s2 => ?_⟩
    have S2 := Same.trans s1 s2
    refine ⟨.str lead, rfl, lead, rfl, ol, fun H3 s3 => ?_⟩
    have S3 := Same.trans S2 s3
    obtain ⟨a', xs, rv, e, all⟩ := (hd.same S3).list
    subst rv
    have lx : xs.length = c.length := by rw [all.length, List.length_map]
    have hr3 := hr'.same S3
    obtain ⟨dr, er⟩ := id hr3
    have pw : (2 : Int) ^ p.toNat ≤ 64 := by
      have h2 : ∀ k : Nat, k ≤ 6 → (2 : Int) ^ k ≤ 64 := by decide
      exact h2 _ (by have := fit.2.1; omega)
    have pp : (1 : Int) ≤ 2 ^ p.toNat := by
      have : 0 < (2 : Int) ^ p.toNat := Int.pow_pos (by decide)
      omega
    have cl : (c.length : Int) ≤ 2000 := by
      have h1 := oc.most
      have h2 : (c.length : Int) * 1 ≤ (c.length : Int) * 2 ^ p.toNat := Int.mul_le_mul_of_nonneg_left pp (by omega)
      omega
    refine ⟨.ref a', rfl, .ref a', _, rfl, .inl ⟨_, SqL.of e, rfl⟩, .ref r, rfl, r, dr, _, rfl, er, r, p, q, rfl, hr3, fit, _, _, rfl, rfl, .inl ⟨by omega, by omega⟩, .ref x, rfl, x, ad "Coder", dx, [], .int 2000, um, rfl, S3 _ _ hx, CC.cl, cm, rfl, ?_⟩
    refine ⟨_, 2000, rfl, rfl, _, rfl, ?_⟩
    rw [decide_eq_false (show ¬ (2000 : Int) < (xs.length : Int) * 2 ^ p.toNat by rw [lx]; have := oc.most; omega)]
    have p2 : (2 : Int) ≤ 2 ^ p.toNat := by
      have h2 : ∀ k : Nat, k ≤ 6 → 1 ≤ k → (2 : Int) ≤ 2 ^ k := by decide
      exact h2 _ (by have := fit.2.1; omega) (by have := fit.1; omega)
    have c1 : c.length ≤ 1000 := by
      have h1 := oc.most
      have h2 : (c.length : Int) * 2 ≤ (c.length : Int) * 2 ^ p.toNat := Int.mul_le_mul_of_nonneg_left p2 (by omega)
      omega
    have c2 : ∀ r ∈ c, r.length ≤ 1000 := fun r hr => by
      have := oc.rows r hr
      omega
    have hx3 := S3 _ _ hx
    refine iteF ⟨.ref r, rfl, .ref x, rfl, x, ad "Coder", dx, [], rfl, hx3, CC.cl, CC.nr, by decide, ?_⟩
    refine ⟨.str lead, rfl, .ref x, rfl, x, ad "Coder", dx, _, rfl, upd_same, CC.cl, CC.nl, (by show 1 < 1000; decide), ?_⟩
    refine ⟨.ref a', rfl, .ref a', c, rfl, ?_, oc.wf, c1, c2, fun l H5 s5 hl dl => ?_⟩
    · refine (hd.same S3).butI (x := x) (fun b o nb eb => ?_) ⟨_, _, _, hx3⟩
      rw [upd_ne nb, upd_ne nb]
      exact eb
    · have nlx : l ≠ x := fun z => by
        rw [z, upd_same] at hl
        cases hl
      have e5 := s5 _ _ (upd_same (H := upd _ x _) (a := x))
      refine ⟨.ref x, rfl, x, ad "Coder", dx, _, rfl, e5, CC.cl, CC.nc, (by show 2 < 1000; decide), ?_⟩
      refine k _ l (fun b o nb eb => ?_) upd_same ?_ ?_
      · rw [upd_ne nb]
        refine s5 _ _ ?_
        rw [upd_ne nb, upd_ne nb]
        exact S3 _ _ eb
      · refine hr3.imp fun d z => ?_
        have nrx : r ≠ x := fun y => by
          rw [y, hx3] at z
          exact nomatch (HO.ins.inj (Option.some.inj z)).2.2
        rw [upd_ne nrx]
        refine s5 _ _ ?_
        rw [upd_ne nrx, upd_ne nrx]
        exact z
      · exact dl.butI (x := x) (fun b o nb eb => (upd_ne nb).trans eb) ⟨_, _, _, e5⟩
end
end K52
end

section
set_option maxHeartbeats 4000000
/-! coders asked -/
namespace K52
open PySem PySem.Spec PyProof.Rows L2
theorem call_list_ofK {X : Cx} {K : PySem.W.Frag} (e : X.K = K) : CallR X (.type "list") (fun xs H Q => ∃ p ys, xs = [.ref p] ∧ (SqL K H p ys ∨ SqT K H p ys) ∧ ∀ l, H l = none → Q (.ref l) (upd H l (.lst ys))) := by
  subst e
  exact call_list_of
theorem refs_of {vs : List V} (h : ∀ (j : Nat) (x : V), vs[j]? = some x → ∃ t : Addr, x = .ref t) : ∃ ts : List Addr, vs = ts.map V.ref := by
  induction vs with
  | nil => exact ⟨[], rfl⟩
  | cons v vs ih =>
    obtain ⟨t, rfl⟩ := h 0 v rfl
    obtain ⟨ts, rfl⟩ := ih fun j x hx => h (j + 1) x (by simpa using hx)
    exact ⟨t :: ts, rfl⟩
theorem rowAt_of {H : Hp} {b : Addr} {r : List (Str × Nat)} (h : Dx H (.ref b) (rowD r)) : RowAt H b r := by
  obtain ⟨vs, e, l, k⟩ := rowD_ent h
  obtain ⟨ts, rfl⟩ := refs_of fun j x hx => let ⟨t, _, _, z, _⟩ := k j x hx; ⟨t, z⟩
  refine ⟨ts, e, by rw [← l, List.length_map], fun j t ht => ?_⟩
  obtain ⟨t', en, h1, h2, h3⟩ := k j (.ref t) (by rw [List.getElem?_map, ht]; rfl)
  cases h2
  exact ⟨en, h1, h3⟩
theorem chD_of {H : Hp} {D : Addr} {ls : List Addr} {c : Ch} (e : H D = some (.lst (ls.map V.ref))) (l : ls.length = c.length) (k : ∀ (m : Nat) (l' : Addr), ls[m]? = some l' → ∃ r, c[m]? = some r ∧ RowAt H l' r) : Dx H (.ref D) (chD c) := by
  refine .lst e (dxAll_of (by rw [List.length_map, List.length_map, l]) fun j v hv => ?_)
  rw [List.getElem?_map] at hv
  cases el : ls[j]? with
  | none => rw [el] at hv; cases hv
  | some l' =>
    rw [el] at hv
    cases hv
    obtain ⟨r, h1, h2⟩ := k j l' el
    exact ⟨rowD r, by rw [List.getElem?_map, h1]; rfl, h2.dx⟩
/-- more of the class Coder -/
structure CoderM (K : PySem.W.Frag) (mg : Str → Option Value) (ad : Str → Addr) (fd : Str → FuncData) : Prop where
  F_rate : Fun K "rate" "Coder.rate" sC_rate (ad "Coder.rate") (fd "Coder.rate")
  b_rate : Binds K (fd "Coder.rate") ["self"] []
  F_lead : Fun K "lead" "Coder.lead" sC_lead (ad "Coder.lead") (fd "Coder.lead")
  b_lead : Binds K (fd "Coder.lead") ["self"] []
  F_codes : Fun K "codes" "Coder.codes" sC_codes (ad "Coder.codes") (fd "Coder.codes")
  b_codes : Binds K (fd "Coder.codes") ["self"] []
  F_follow : Fun K "follow" "Coder.follow" sC_follow (ad "Coder.follow") (fd "Coder.follow")
  b_follow : Binds K (fd "Coder.follow") ["self", "text", "state"] []
  F_len : Fun K "__len__" "Coder.__len__" sC_len (ad "Coder.__len__") (fd "Coder.__len__")
  b_len : Binds K (fd "Coder.__len__") ["self"] []
def spCRate (C R : Addr) : Sp := fun vs H Q _ => ∃ (a : Addr) (p q : Int) (c : Ch) (lead : Str), vs = [.ref a] ∧ CodO C R H a p q c lead ∧ ∀ r, RatO R H r p q → Q (.ref r) H
def spCLead (C R : Addr) : Sp := fun vs H Q _ => ∃ (a : Addr) (p q : Int) (c : Ch) (lead : Str), vs = [.ref a] ∧ CodO C R H a p q c lead ∧ Q (.str lead) H
def spCCodes (C R : Addr) : Sp := fun vs H Q _ => ∃ (a : Addr) (p q : Int) (c : Ch) (lead : Str), vs = [.ref a] ∧ CodO C R H a p q c lead ∧ c.length ≤ 1000 ∧ ∀ (l : Addr) (H' : Hp), Same H H' → H l = none → Dx H' (.ref l) (chD c) → Q (.ref l) H'
def spCLen (C R : Addr) : Sp := fun vs H Q _ => ∃ (a : Addr) (p q : Int) (c : Ch) (lead : Str), vs = [.ref a] ∧ CodO C R H a p q c lead ∧ Q (.int (c.length : Int)) H
/-- the blocks of a text, the state behind it -/
def wayF (c : Ch) : List Nat → Nat → List Str × Nat
  | [], s => ([], s)
  | w :: ws, s => let e := (rowC c s).getD w ("", 0); ((e.1 :: (wayF c ws e.2).1), (wayF c ws e.2).2)
theorem wayF_snoc (c : Ch) (w : Nat) : ∀ (ws : List Nat) (s : Nat), wayF c (ws ++ [w]) s = ((wayF c ws s).1 ++ [((rowC c (wayF c ws s).2).getD w ("", 0)).1], ((rowC c (wayF c ws s).2).getD w ("", 0)).2)
  | [], s => rfl
  | x :: ws, s => by
    show (((rowC c s).getD x ("", 0)).1 :: (wayF c (ws ++ [w]) ((rowC c s).getD x ("", 0)).2).1, (wayF c (ws ++ [w]) ((rowC c s).getD x ("", 0)).2).2) = _
    rw [wayF_snoc c w ws]
    rfl
theorem wayF_len (c : Ch) : ∀ (ws : List Nat) (s : Nat), (wayF c ws s).1.length = ws.length
  | [], s => rfl
  | x :: ws, s => by
    show (((rowC c s).getD x ("", 0)).1 :: (wayF c ws ((rowC c s).getD x ("", 0)).2).1).length = _
    rw [List.length_cons, wayF_len c ws]
    rfl
def spFollow (C R : Addr) : Sp := fun vs H Q _ => ∃ (a : Addr) (p q : Int) (c : Ch) (lead : Str) (v : V) (ws : List Nat) (s : Nat), vs = [.ref a, v, .int (s : Int)] ∧ CodO C R H a p q c lead ∧ WfC c ∧ (∀ r ∈ c, (r.length : Int) = 2 ^ p.toNat) ∧ s < c.length ∧
  Dx H v (.list (ws.map fun (w : Nat) => .int (w : Int))) ∧ ws.length ≤ 200 ∧ (∀ w ∈ ws, (w : Int) < 2 ^ p.toNat) ∧
  ∀ (t l : Addr) (H' : Hp), Same H H' → H' t = some (.tup [.ref l, .int ((wayF c ws s).2 : Int)]) → H' l = some (.lst ((wayF c ws s).1.map V.str)) → Q (.ref t) H'
section
variable {P : Program} {w : World} {K : PySem.W.Frag} {mg : Str → Option Value} {base : Heap} {ad : Str → Addr} {fd : Str → FuncData}
theorem scC_rate : FnScope ["self"] ["self"] (defScope sC_rate) := ⟨rfl, rfl, rfl, by decide +kernel, rfl, by decide +kernel, by decide +kernel⟩
theorem ok_crate (CC : CoderC K mg ad fd) (CM : CoderM K mg ad fd) : FnOk P w K mg base CX0 1 (ad "Coder.rate") (fd "Coder.rate") ["self"] (spCRate (ad "Coder") (ad "Rate")) := by
  refine CM.F_rate.ok scC_rate (fun vs H Q E h => ?_) (fun cdv A outer s H vs Q E hr h => ?_)
  · obtain ⟨a, p, q, c, lead, rfl, _⟩ := h
    rfl
  · obtain ⟨a, p, q, c, lead, rfl, ⟨dx, r, l, e, ho, hd⟩, k⟩ := h
    refine ⟨_, (pss_one (ps_ret (by exact (pe_fld (pv 0) rfl)))), ?_⟩
    exact ⟨.ref a, rfl, a, _, dx, _, _, rfl, e, CC.cl, CC.nr, rfl, k r ho⟩
theorem scC_lead : FnScope ["self"] ["self"] (defScope sC_lead) := ⟨rfl, rfl, rfl, by decide +kernel, rfl, by decide +kernel, by decide +kernel⟩
theorem ok_clead (CC : CoderC K mg ad fd) (CM : CoderM K mg ad fd) : FnOk P w K mg base CX0 1 (ad "Coder.lead") (fd "Coder.lead") ["self"] (spCLead (ad "Coder") (ad "Rate")) := by
  refine CM.F_lead.ok scC_lead (fun vs H Q E h => ?_) (fun cdv A outer s H vs Q E hr h => ?_)
  · obtain ⟨a, p, q, c, lead, rfl, _⟩ := h
    rfl
  · obtain ⟨a, p, q, c, lead, rfl, ⟨dx, r, l, e, ho, hd⟩, k⟩ := h
    refine ⟨_, (pss_one (ps_ret (by exact (pe_fld (pv 0) rfl)))), ?_⟩
    exact ⟨.ref a, rfl, a, _, dx, _, _, rfl, e, CC.cl, CC.nl, rfl, k⟩
theorem scC_len : FnScope ["self"] ["self"] (defScope sC_len) := ⟨rfl, rfl, rfl, by decide +kernel, rfl, by decide +kernel, by decide +kernel⟩
theorem ok_clen (X : Tx K mg ad fd) (CC : CoderC K mg ad fd) (CM : CoderM K mg ad fd) : FnOk P w K mg base CX0 1 (ad "Coder.__len__") (fd "Coder.__len__") ["self"] (spCLen (ad "Coder") (ad "Rate")) := by
  refine CM.F_len.ok scC_len (fun vs H Q E h => ?_) (fun cdv A outer s H vs Q E hr h => ?_)
  · obtain ⟨a, p, q, c, lead, rfl, _⟩ := h
    rfl
  · obtain ⟨a, p, q, c, lead, rfl, ⟨dx, r, l, e, ho, hd⟩, k⟩ := h
    obtain ⟨l', xs, el, ex, all⟩ := hd.list
    cases el
    have lx : xs.length = c.length := by rw [all.length, List.length_map]
    refine ⟨_, (pss_one (ps_ret (by exact (pe_callB call_len (by rfl) X.m_len (by decide +kernel) (pa_cons (pe_fld (pv 0) rfl) pa_nil))))), ?_⟩
    refine ⟨.ref a, rfl, a, _, dx, _, _, rfl, e, CC.cl, CC.nc, rfl, .ref l, _, rfl, .inl ⟨_, SqL.of ex, rfl⟩, ?_⟩
    rw [lx]
    exact k
theorem scC_codes : FnScope ["self", "entries"] ["self"] (defScope sC_codes) := ⟨rfl, rfl, rfl, by decide +kernel, rfl, by decide +kernel, by decide +kernel⟩
theorem ok_ccodes (X : Tx K mg ad fd) (CC : CoderC K mg ad fd) (CM : CoderM K mg ad fd) : FnOk P w K mg base CX0 1 (ad "Coder.codes") (fd "Coder.codes") ["self"] (spCCodes (ad "Coder") (ad "Rate")) := by
  refine CM.F_codes.ok scC_codes (fun vs H Q E h => ?_) (fun cdv A outer s H vs Q E hr h => ?_)
  · obtain ⟨a, p, q, c, lead, rfl, _⟩ := h
    rfl
  · obtain ⟨a, p, q, c, lead, rfl, ⟨dx, r, l, e, ho, hd⟩, cl, k⟩ := h
    obtain ⟨l', xs, el, ex, all⟩ := hd.list
    cases el
    have lx : xs.length = c.length := by rw [all.length, List.length_map]
    refine ⟨_, (pss_one (ps_ret (by exact (pe_lc (own := [("entries", 1)]) (g := gName 1) rfl scC_codes.nd (pi_list (pe_fld (pv 0) rfl)) (blkOk_by (own := [("entries", 1)]) (N := ["self", "entries"]) (sc := defScope sC_codes) (by decide +kernel)) (fun _ _ _ _ _ => pg_name (i := 1) scC_codes.nd rfl (Or.inl rfl)) (fun _ _ _ _ _ => pts_nil) (fun _ _ _ _ _ => (pe_callTy (call_list_ofK (K := K) rfl) (by rfl) X.m_list (by decide +kernel) (pa_cons (pv 1) pa_nil))))))), ?_⟩
    refine ⟨.ref a, rfl, a, _, dx, _, _, rfl, e, CC.cl, CC.nc, rfl, l, rfl, ⟨_, SqL.of ex⟩, fun D hD => ?_⟩
    refine lc_it (w := walk_list (K := K) (a := l) (xs := xs)) (g := gName 1) (tt := tYes) (fun i H' => ∃ ls : List Addr, H' D = some (.lst (ls.map V.ref)) ∧ ls.length = i ∧ Same H H' ∧ ∀ (m : Nat) (l' : Addr), ls[m]? = some l' → l' ≠ D ∧ ∃ r, c[m]? = some r ∧ RowAt H' l' r)
      ⟨[], upd_same, rfl, Same.new hD, fun m l z => by cases z⟩ (fun i H' hi ⟨_, _, _, s, _⟩ => SqL.of (s _ _ ex)) (fun i x H' H'' hi hP hy => ?_) (fun H' hP => ?_)
    · obtain ⟨ls, eD, ll, s1, rows⟩ := hP
      obtain ⟨rfl, hx⟩ := hy
      obtain ⟨d, hd2, dx2⟩ := all.from_ hx
      rw [List.getElem?_map] at hd2
      cases ew : c[i]? with
      | none => rw [ew] at hd2; cases hd2
      | some r' =>
        rw [ew] at hd2
        cases hd2
        obtain ⟨b, ws, rfl, eb, _⟩ := id dx2.list
        obtain ⟨ts, et, lt, kt⟩ := (rowAt_of dx2)
        refine ⟨rfl, yes_of (iteT ?_)⟩
        refine ⟨.ref b, rfl, b, _, rfl, .inl (SqL.of (s1 _ _ et)), fun n hn => ?_⟩
        have Sn := Same.new hn (o := .lst (ts.map V.ref))
        have eD2 := Sn _ _ eD
        have nDn : n ≠ D := (ne_of_none eD hn).symm
        have row : RowAt (upd H'' n (.lst (ts.map V.ref))) n r' := ⟨ts, upd_same, lt, fun j t ht => by
          obtain ⟨en, h1, h2⟩ := kt j t ht
          exact ⟨en, h1, Sn _ _ (s1 _ _ h2)⟩⟩
        refine ⟨_, eD2, by rw [List.length_map, ll, sizeLine_eq]; omega, ls ++ [n], by rw [upd_same, List.map_append]; rfl, by rw [List.length_append, ll]; rfl, fun b' u eb' => ?_, fun m l' hm => ?_⟩
        · rw [upd_ne (ne_of_none eb' hD)]
          exact Sn _ _ (s1 _ _ eb')
        · by_cases hlt2 : m < ls.length
          · rw [List.getElem?_append_left hlt2] at hm
            obtain ⟨nl, r2, h1, h2⟩ := rows m l' hm
            exact ⟨nl, r2, h1, h2.keep nl eD fun b' u nb eb' => by rw [upd_ne nb]; exact Sn _ _ eb'⟩
          · rw [List.getElem?_append_right (by omega)] at hm
            have z : m - ls.length = 0 := by
              by_cases q : m - ls.length = 0
              · exact q
              · rw [List.getElem?_eq_none (by simp; omega)] at hm
                cases hm
            rw [z] at hm
            cases hm
            have mj : m = i := by omega
            subst mj
            exact ⟨nDn, r', ew, row.keep nDn eD2 fun b' u nb eb' => by rw [upd_ne nb]; exact eb'⟩
    · obtain ⟨ls, eD, ll, s1, rows⟩ := hP
      exact k D H' s1 hD (chD_of eD (by rw [ll, lx]) fun m l' hm => (rows m l' hm).2)
theorem scC_follow : FnScope ["self", "text", "state", "blocks", "word", "block"] ["self", "text", "state"] (defScope sC_follow) := ⟨rfl, rfl, rfl, by decide +kernel, rfl, by decide +kernel, by decide +kernel⟩
theorem ok_follow (X : Tx K mg ad fd) (CC : CoderC K mg ad fd) (CM : CoderM K mg ad fd) : FnOk P w K mg base CX0 1 (ad "Coder.follow") (fd "Coder.follow") ["self", "text", "state"] (spFollow (ad "Coder") (ad "Rate")) := by
  refine CM.F_follow.ok scC_follow (fun vs H Q E h => ?_) (fun cdv A outer s H vs Q E hr h => ?_)
  · obtain ⟨a, p, q, c, lead, v, ws, st, rfl, _⟩ := h
    rfl
  · obtain ⟨a, p, q, c, lead, v, ws, st, rfl, ⟨dx, r, l, e, ho, hd⟩, wf, rows, sl, hv, lw, lt, k⟩ := h
    refine ⟨_, (pss_cons (ps_set (i := 3) scC_follow.nd rfl (.inl rfl) (by exact (pe_lst pa_nil)))
  (pss_cons (ps_for PassesOwn.never rfl (pi_list (pv 1)) (pg_name (i := 4) scC_follow.nd rfl (.inl rfl))
  (pss_cons (ps_asg (by exact (pe_ix ix_list (pe_ix ix_list (pe_fld (pv 0) rfl) (pv 2) (fun _ _ => rfl)) (pv 4) (fun _ _ => rfl))) (pg_tup rfl (pgs_cons (pg_name (i := 5) scC_follow.nd rfl (.inl rfl)) (pgs_cons (pg_name (i := 2) scC_follow.nd rfl (.inl rfl)) pgs_nil))))
  (pss_one (ps_expr (by exact (pe_bm PySem.F.plainAttrs_list PySem.F.slot_list_append PySem.F.type_list_append mt_append (pv 3) (pa_cons (pv 5) pa_nil)))))))
  (pss_one (ps_ret (by exact (pe_tup (pa_cons (pv 3) (pa_cons (pv 2) pa_nil)))))))), ?_⟩
    obtain ⟨tx, xs, rfl, ex, all⟩ := hv.list
    have lx : xs.length = ws.length := by rw [all.length, List.length_map]
    refine ⟨Nat.zero_le _, fun B hB => ?_⟩
    have eB0 : (upd H B (.lst [])) B = some (.lst []) := upd_same
    have S0 := Same.new hB (o := .lst [])
    generalize (upd H B (.lst [])) = H0 at eB0 S0 ⊢
    refine ⟨.ref tx, rfl, tx, rfl, ⟨_, SqL.of (S0 _ _ ex)⟩, ?_⟩
    refine for_list (K := K) (a := tx) (xs := xs) (fun i σ H' => ∃ r4 r5, σ = [some (.ref a), some (.ref tx), some (.int (((wayF c (ws.take i) st).2 : Nat) : Int)), some (.ref B), r4, r5] ∧ Same H H' ∧ H' B = some (.lst ((wayF c (ws.take i) st).1.map V.str)) ∧ (wayF c (ws.take i) st).2 < c.length ∧ H' tx = some (.lst xs))
      ⟨_, _, rfl, S0, eB0, sl, S0 _ _ ex⟩ (fun i σ H' _ ⟨_, _, _, _, _, _, s⟩ => SqL.of s) ?_ ?_
    · rintro i x σ H1 hx ⟨r4, r5, rfl, s1, eB, sl1, etx⟩
      obtain ⟨d, hd2, dx2⟩ := all.from_ hx
      rw [List.getElem?_map] at hd2
      cases ew : ws[i]? with
      | none => rw [ew] at hd2; cases hd2
      | some wv =>
        rw [ew] at hd2
        cases hd2
        cases dx2
        have tj : ws.take (i + 1) = ws.take i ++ [wv] := by rw [List.take_add_one, ew]; rfl
        rw [tj, wayF_snoc]
        have lB := wayF_len c (ws.take i) st
        have li : (ws.take i).length ≤ 200 := by rw [List.length_take]; omega
        generalize wayF c (ws.take i) st = y at eB sl1 lB ⊢
        obtain ⟨bl, s⟩ := y
        replace sl1 : s < c.length := sl1
        replace lB : bl.length = (ws.take i).length := lB
        have e1 := s1 _ _ e
        obtain ⟨l', vs, b, el, ev, lv, hb, db⟩ := chD_row (hd.same s1) sl1
        cases el
        obtain ⟨ts, et, lts, kt⟩ := rowAt_of db
        have wl : wv < (rowC c s).length := by
          have h1 := lt wv (List.mem_of_getElem? ew)
          have h2 : (rowC c s) ∈ c := by
            unfold rowC
            rw [List.getD_eq_getElem?_getD, List.getElem?_eq_getElem sl1]
            exact List.getElem_mem sl1
          have h3 := rows _ h2
          omega
        obtain ⟨t, htt⟩ : ∃ t, ts[wv]? = some t := ⟨_, List.getElem?_eq_getElem (by omega)⟩
        obtain ⟨en, hen, het⟩ := kt wv t htt
        have hg : (rowC c s).getD wv ("", 0) = en := by rw [List.getD_eq_getElem?_getD, hen]; rfl
        rw [hg]
        have en2 : en.2 < c.length := rowC_lt wf (List.mem_of_getElem? hen)
        refine ⟨.ref a, rfl, a, _, dx, _, _, rfl, e1, CC.cl, CC.nc, rfl, .int (s : Int), rfl, l, _, (s : Int), .ref b, rfl, rfl, SqL.of ev, atI_nat hb, .int (wv : Int), rfl, b, _, (wv : Int), .ref t, rfl, rfl, SqL.of et, atI_nat (by rw [List.getElem?_map, htt]; rfl), ?_⟩
        refine ⟨t, [.str en.1, .int (en.2 : Int)], rfl, SqT.of het, rfl, .str en.1, _, rfl, .int (en.2 : Int), _, rfl, rfl, ?_⟩
        have nBx : B ≠ tx := (ne_of_none ex hB).symm
        refine ⟨.ref B, rfl, .inl ⟨rfl, _, SqL.of eB⟩, .str en.1, rfl, B, _, _, rfl, rfl, eB, by rw [List.length_map, lB, sizeLine_eq]; omega, ?_⟩
        refine ⟨_, _, rfl, fun b' u eb' => ?_, ?_, en2, ?_⟩
        · rw [upd_ne (ne_of_none eb' hB)]
          exact s1 _ _ eb'
        · rw [upd_same, List.map_append]; rfl
        · rw [upd_ne nBx.symm]
          exact etx
    · rintro σ H1 ⟨r4, r5, rfl, s1, eB, sl1, etx⟩
      rw [show ws.take xs.length = ws from List.take_of_length_le (by omega)] at eB ⊢
      refine ⟨.ref B, rfl, .int _, rfl, (by show 2 ≤ sizeLine; decide), fun t ht => ?_⟩
      have St := Same.new ht (o := .tup [V.ref B, .int (((wayF c ws st).2 : Nat) : Int)])
      exact k t B _ (Same.trans s1 St) upd_same (St _ _ eB)
end
end K52
end

section
set_option maxHeartbeats 4000000
/-! tables of code against each other -/
namespace K52
open PySem PySem.Spec PyProof.Rows L2
theorem can_map {α : Type} {f : α → PyData} : ∀ {l : List α}, (∀ x ∈ l, PyData.canLay0 (f x) = true) → PyData.canLayAll0 (l.map f) = true
  | [], _ => by simp [PyData.canLayAll0]
  | x :: l, h => by
    rw [List.map_cons]
    simp only [PyData.canLayAll0, Bool.and_eq_true]
    exact ⟨h x (List.mem_cons_self ..), can_map fun y hy => h y (List.mem_cons_of_mem _ hy)⟩
theorem depth_map {α : Type} {f : α → PyData} {n : Nat} : ∀ {l : List α}, (∀ x ∈ l, PyData.depth (f x) ≤ n) → PyData.depthAll (l.map f) ≤ n
  | [], _ => by simp [PyData.depthAll]
  | x :: l, h => by
    rw [List.map_cons]
    simp only [PyData.depthAll]
    exact Nat.max_le.mpr ⟨h x (List.mem_cons_self ..), depth_map fun y hy => h y (List.mem_cons_of_mem _ hy)⟩
theorem eqv_map {α : Type} [DecidableEq α] {f : α → PyData} (h : ∀ x y, PyData.eqv (f x) (f y) = decide (x = y)) : ∀ (l m : List α), PyData.eqvAll (l.map f) (m.map f) = decide (l = m)
  | [], [] => by simp [PyData.eqvAll]
  | [], y :: m => by simp [PyData.eqvAll]
  | x :: l, [] => by simp [PyData.eqvAll]
  | x :: l, y :: m => by
    rw [List.map_cons, List.map_cons]
    simp only [PyData.eqvAll]
    rw [h x y, eqv_map h l m]
    rw [Bool.eq_iff_iff]
    simp
mutual
def plainD : PyData → Bool
  | .dict _ => false
  | .list ds => plainAll ds
  | .tuple ds => plainAll ds
  | _ => true
def plainAll : List PyData → Bool
  | [] => true
  | d :: ds => plainD d && plainAll ds
end
theorem plain_map {α : Type} {f : α → PyData} : ∀ {l : List α}, (∀ x ∈ l, plainD (f x) = true) → plainAll (l.map f) = true
  | [], _ => by simp [plainAll]
  | x :: l, h => by
    rw [List.map_cons]
    simp only [plainAll, Bool.and_eq_true]
    exact ⟨h x (List.mem_cons_self ..), plain_map fun y hy => h y (List.mem_cons_of_mem _ hy)⟩
mutual
theorem Dx.dp {K : PySem.W.Frag} {H : Hp} : ∀ {v : V} {d : PyData}, Dx H v d → plainD d = true → Dp K H v d
  | _, _, .non, _ => .non
  | _, _, .bl b, _ => .bl b
  | _, _, .int i, _ => .int i
  | _, _, .str x, _ => .str x
  | _, _, .lst e h, k => .lst (SqL.of e) (DxAll.dp h k)
  | _, _, .tup e h, k => .tup (SqT.of e) (DxAll.dp h k)
  | _, _, .dic e h, k => by cases k
theorem DxAll.dp {K : PySem.W.Frag} {H : Hp} : ∀ {vs : List V} {ds : List PyData}, DxAll H vs ds → plainAll ds = true → DpAll K H vs ds
  | _, _, .nil, _ => .nil
  | _, _, .cons a b, k => .cons (Dx.dp a (Bool.and_eq_true_iff.mp k).1) (DxAll.dp b (Bool.and_eq_true_iff.mp k).2)
end
theorem entD_eqv (e f : Str × Nat) : PyData.eqv (entD e) (entD f) = decide (e = f) := by
  obtain ⟨a, i⟩ := e
  obtain ⟨b, j⟩ := f
  rw [Bool.eq_iff_iff]
  simp only [entD, PyData.eqv, PyData.eqvAll, Bool.and_eq_true, decide_eq_true_eq, Prod.mk.injEq, beq_iff_eq, and_true]
  constructor
  · rintro ⟨h1, h2⟩
    exact ⟨h1, by omega⟩
  · rintro ⟨h1, h2⟩
    exact ⟨h1, by omega⟩
theorem rowD_eqv (r s : List (Str × Nat)) : PyData.eqv (rowD r) (rowD s) = decide (r = s) := by
  unfold rowD
  rw [show PyData.eqv (.list (r.map entD)) (.list (s.map entD)) = PyData.eqvAll (r.map entD) (s.map entD) by simp [PyData.eqv]]
  exact eqv_map entD_eqv r s
theorem chD_eqv (c d : Ch) : PyData.eqv (chD c) (chD d) = decide (c = d) := by
  unfold chD
  rw [show PyData.eqv (.list (c.map rowD)) (.list (d.map rowD)) = PyData.eqvAll (c.map rowD) (d.map rowD) by simp [PyData.eqv]]
  exact eqv_map rowD_eqv c d
/-- all blocks are of the signs -/
def okBlocks (c : Ch) : Prop := ∀ r ∈ c, ∀ e ∈ r, wordD (.str e.1) = true
theorem word_ok {z : Str} (h : wordD (.str z) = true) : PyData.strOk z = true := by
  unfold PyData.strOk
  rw [← Array.all_toList]
  refine List.all_eq_true.mpr fun c hc => ?_
  have := List.all_eq_true.mp h c hc
  have e : ∀ c ∈ (PySem.Str.ofString "abcd").cps.toList, c < 0x110000 := by decide +kernel
  exact decide_eq_true (e c (of_decide_eq_true this))
theorem chD_shaped {c : Ch} (h : okBlocks c) : SeqAt.shaped (chD c) = true := by
  unfold SeqAt.shaped
  rw [Bool.and_eq_true]
  constructor
  · show PyData.canLay0 (.list (c.map rowD)) = true
    simp only [PyData.canLay0]
    refine can_map fun r hr => ?_
    show PyData.canLay0 (.list (r.map entD)) = true
    simp only [PyData.canLay0]
    refine can_map fun e he => ?_
    simp only [entD, PyData.canLay0, PyData.canLayAll0, Bool.and_true]
    exact word_ok (h r hr e he)
  · refine decide_eq_true ?_
    show PyData.depth (.list (c.map rowD)) ≤ 64
    simp only [PyData.depth]
    have : PyData.depthAll (c.map rowD) ≤ 10 := depth_map fun r hr => by
      show PyData.depth (.list (r.map entD)) ≤ 10
      simp only [PyData.depth]
      have : PyData.depthAll (r.map entD) ≤ 5 := depth_map fun e he => by
        simp [entD, PyData.depth, PyData.depthAll]
      omega
    omega
theorem chD_plain (c : Ch) : plainD (chD c) = true := by
  show plainAll (c.map rowD) = true
  refine plain_map fun r hr => ?_
  show plainAll (r.map entD) = true
  refine plain_map fun e he => ?_
  simp [entD, plainD, plainAll]
end K52
end

section
set_option maxHeartbeats 4000000
/-! coders against each other -/
namespace K52
open PySem PySem.Spec PyProof.Rows L2
/-- == of Coder, and what kind of thing a Coder is -/
structure CoderE (K : PySem.W.Frag) (mg : Str → Option Value) (ad : Str → Addr) (fd : Str → FuncData) : Prop where
  F_eq : Fun K "__eq__" "Coder.__eq__" sC_eq (ad "Coder.__eq__") (fd "Coder.__eq__")
  b_eq : Binds K (fd "Coder.__eq__") ["self", "other"] []
  ca : PySem.W.findIn K (.ref (ad "Coder")) "__class__" = some (some (.builtin "object.__class__"))
  ob : PySem.W.mroIn K (ad "Coder") (.type "object") = some true
  ty : ∀ T ∈ tyNs, PySem.W.kitOne K (.type T) (.ref (ad "Coder")) = some false ∧ PySem.W.subIn K (.ref (ad "Coder")) (.type T) = some false ∧ PySem.W.subIn K (.type T) (.ref (ad "Coder")) = some false
  rt : PySem.W.kitOne K (.ref (ad "Rate")) (.ref (ad "Coder")) = some false
def spCEq (C R : Addr) : Sp := fun vs H Q _ => ∃ (a : Addr) (y : V) (p q : Int) (c : Ch) (lead : Str), vs = [.ref a, y] ∧ CodO C R H a p q c lead ∧ fitP p q ∧ okBlocks c ∧
  ((∃ d, Dx H y d ∧ Q (.bl false) H) ∨ (∃ b p' q', y = .ref b ∧ RatO R H b p' q' ∧ Q (.bl false) H) ∨
   ∃ b p' q' c' lead', y = .ref b ∧ CodO C R H b p' q' c' lead' ∧ okBlocks c' ∧ Q (.bl (decide ((p = p' ∧ q = q') ∧ lead = lead' ∧ c = c'))) H)
section
variable {P : Program} {w : World} {K : PySem.W.Frag} {mg : Str → Option Value} {base : Heap} {ad : Str → Addr} {fd : Str → FuncData}
theorem nf_rate : PySem.W.notFirst K (ad "Rate") (.ref (ad "Rate")) = true := by unfold PySem.W.notFirst; simp
theorem ty_coder (RC : RateC K mg ad fd) (CC : CoderC K mg ad fd) (CE : CoderE K mg ad fd) {H : Hp} {a : Addr} {p q : Int} {c : Ch} {lead : Str} (h : CodO (ad "Coder") (ad "Rate") H a p q c lead) : TyX K H (.ref a) (.ref (ad "Coder")) := by
  obtain ⟨dx, r, l, e, _⟩ := h
  exact .base (.ins e CC.cl CE.ca RC.cn RC.ct CE.ob)
theorem scC_eq : FnScope ["self", "other"] ["self", "other"] (defScope sC_eq) := ⟨rfl, rfl, rfl, by decide +kernel, rfl, by decide +kernel, by decide +kernel⟩
theorem ok_ceq (X : Tx K mg ad fd) (RC : RateC K mg ad fd) (CC : CoderC K mg ad fd) (CE : CoderE K mg ad fd) : FnOk P w K mg base CX0 2 (ad "Coder.__eq__") (fd "Coder.__eq__") ["self", "other"] (spCEq (ad "Coder") (ad "Rate")) := by
  have GE := ok_eq (P := P) (w := w) (base := base) X RC
  refine CE.F_eq.ok scC_eq (fun vs H Q E h => ?_) (fun cdv A outer s H vs Q E hr h => ?_)
  · obtain ⟨a, y, p, q, c, lead, rfl, _⟩ := h
    rfl
  · obtain ⟨a, y, p, q, c, lead, rfl, ⟨dx, r, l, e, ho, hd⟩, fit, ob, k⟩ := h
    have HR1 : Room 1 _ := hr
    have hu := hr.units
    refine ⟨_, (pss_cons (ps_if (pt_not (pt_val (pe_callB call_isi (by rfl) X.m_isinstance (by decide +kernel) (pa_cons (pv 1) (pa_cons (pe_glob (v := .ref (ad "Coder")) (by rfl) CC.G rfl) pa_nil)))))
  (pss_one (ps_ret (by exact pe_bl)))
  pss_nil)
  (pss_one (ps_ret (by exact (pe_and (pe_cmpR (op_eqO GE HR1 RC.b_eq RC.eq RC.eqf) (pe_fld (pv 0) rfl) (pe_fld (pv 1) rfl) (nomark _)) (pe_and (pe_cmpR op_eq (pe_fld (pv 0) rfl) (pe_fld (pv 1) rfl) (nomark _)) (pe_one (pe_cmpR (op_eqD hu) (pe_fld (pv 0) rfl) (pe_fld (pv 1) rfl) (nomark _))))))))), ?_⟩
    rcases k with ⟨d, hy, k⟩ | ⟨b, p', q', rfl, hb, k⟩ | ⟨b, p', q', c', lead', rfl, ⟨dy, r', l', e', ho', hd'⟩, ob', k⟩
    · exact ⟨y, rfl, y, .ref (ad "Coder"), _, _, _, rfl, .own _, dx_ty hy, (CE.ty _ (tyN_mem d)).1, _, rfl, iteT k⟩
    · exact ⟨.ref b, rfl, .ref b, .ref (ad "Coder"), _, _, _, rfl, .own _, ty_rate RC hb, CE.rt, _, rfl, iteT k⟩
    · refine ⟨.ref b, rfl, .ref b, .ref (ad "Coder"), _, _, true, rfl, .own _, ty_coder RC CC CE ⟨dy, r', l', e', ho', hd'⟩, (by unfold PySem.W.kitOne; rw [if_pos (by simp)]), true, rfl, iteF ?_⟩
      obtain ⟨dr, er⟩ := id ho
      refine ⟨.ref a, rfl, a, _, dx, _, _, rfl, e, CC.cl, CC.nr, rfl, .ref b, rfl, b, _, dy, _, _, rfl, e', CC.cl, CC.nr, rfl, r, dr, _, _, rfl, er, ty_rate RC ho', nf_rate, ⟨r, p, q, .ref r', rfl, ho, .inr ⟨r', p', q', rfl, ho', ?_⟩⟩⟩
      refine ⟨_, rfl, ?_⟩
      by_cases h1 : p = p' ∧ q = q'
      · rw [decide_eq_true h1]
        refine iteT ⟨.ref a, rfl, a, _, dx, _, _, rfl, e, CC.cl, CC.nl, rfl, .ref b, rfl, b, _, dy, _, _, rfl, e', CC.cl, CC.nl, rfl, rfl, _, rfl, ?_⟩
        by_cases h2 : lead = lead'
        · rw [decide_eq_true (show V.str lead = V.str lead' by rw [h2])]
          refine iteT ⟨.ref a, rfl, a, _, dx, _, _, rfl, e, CC.cl, CC.nc, rfl, .ref b, rfl, b, _, dy, _, _, rfl, e', CC.cl, CC.nc, rfl, chD c, chD c', hd.dp (chD_plain c), hd'.dp (chD_plain c'), chD_shaped ob, chD_shaped ob', ?_⟩
          rw [chD_eqv]
          rw [show decide ((p = p' ∧ q = q') ∧ lead = lead' ∧ c = c') = decide (c = c') from decide_eq_decide.mpr ⟨fun z => z.2.2, fun z => ⟨h1, h2, z⟩⟩] at k
          exact k
        · rw [decide_eq_false (show ¬ V.str lead = V.str lead' from fun z => h2 (V.str.inj z))]
          rw [decide_eq_false (show ¬ ((p = p' ∧ q = q') ∧ lead = lead' ∧ c = c') from fun z => h2 z.2.1)] at k
          exact iteF k
      · rw [decide_eq_false h1]
        rw [decide_eq_false (show ¬ ((p = p' ∧ q = q') ∧ lead = lead' ∧ c = c') from fun z => h1 z.1)] at k
        exact iteF k
end
end K52
end

section
set_option maxHeartbeats 4000000
/-! coders write -/
namespace K52
open PySem PySem.Spec PyProof.Rows L2
section
variable {X : Cx} {k : Nat} {f C : Addr} {fd : FuncData} {ps : List Str} {sp : Sp}
/-- len(x), x an instance with a length of its own -/
def rOwnI (C : Addr) (sp : Sp) : List V → Hp → VK → Prop := fun xs H Q => ∃ a dx fs, xs = [.ref a] ∧ H a = some (.ins C dx fs) ∧ sp [.ref a] H (fun v H' => ∃ n : Int, v = .int n ∧ (0 ≤ n ∧ n < 2 ^ 63) ∧ Q (.int n) H') E0
theorem call_lenO (F : FnOk X.prog X.w X.K X.mg X.base CX0 k f fd ps sp) (hr : Room (k + 1) X.A) (hb : Binds X.K fd ps []) (hs : PySem.W.findIn X.K (.ref C) "__len__" = some (some (.ref f))) (hf : PySem.W.isFn X.K (.ref f) = true) : CallR X (.builtin "len") (rOwnI C sp) := by
  intro pins s σ H xs us Q I r h
  obtain ⟨a, dx, fs, rfl, ha, q⟩ := h
  obtain ⟨u, rfl, ru⟩ := vals1 r
  obtain rfl : u = Value.ref a := ru
  obtain ⟨od, J⟩ := ins_inst I ha
  obtain ⟨m, hF⟩ := I.fr
  refine PySem.W.len_K hF I.ok.mod.kin J hs hf (wpAny_mono (run_at F hr.in1 rfl hb pass0 I (.cons (show RelV (.ref a) (.ref a) from rfl) .nil) q) (fun r s' z => ?_) fun _ _ z => z)
  obtain ⟨v', H', I', rv, n, rfl, hn, q'⟩ := z
  obtain ⟨t, rfl⟩ := rv
  exact ⟨hn, ⟨.int n, H', I'.tok _, ⟨_, rfl⟩, q'⟩⟩
end
/-- what writes, of the class Coder -/
structure CoderW (K : PySem.W.Frag) (mg : Str → Option Value) (ad : Str → Addr) (fd : Str → FuncData) : Prop where
  m_follow : Meth K (ad "Coder") "follow" (ad "Coder.follow")
  ln : PySem.W.findIn K (.ref (ad "Coder")) "__len__" = some (some (.ref (ad "Coder.__len__")))
  lnf : PySem.W.isFn K (.ref (ad "Coder.__len__")) = true
  F_end : FunV K "end" "Coder.end" sC_end [.int 0] (ad "Coder.end") (fd "Coder.end")
  F_blocks : FunV K "blocks" "Coder.blocks" sC_blocks [.int 0] (ad "Coder.blocks") (fd "Coder.blocks")
/-- a text that the coder at a may write from the state s -/
structure Writes (C R : Addr) (H : Hp) (a : Addr) (v : V) (c : Ch) (ws : List Nat) (s : Nat) : Prop where
  cod : ∃ p q lead, CodO C R H a p q c lead ∧ fitP p q ∧ (∀ r ∈ c, (r.length : Int) = 2 ^ p.toNat) ∧ ∀ w ∈ ws, (w : Int) < 2 ^ p.toNat
  wf : WfC c
  st : s < c.length
  cl : c.length ≤ 1000
  txt : Dx H v (.list (ws.map fun (w : Nat) => .int (w : Int)))
  lw : ws.length ≤ 200
theorem Writes.same {C R : Addr} {H H' : Hp} {a : Addr} {v : V} {c : Ch} {ws : List Nat} {s : Nat} (h : Writes C R H a v c ws s) (k : Same H H') : Writes C R H' a v c ws s :=
  ⟨let ⟨p, q, lead, x, y⟩ := h.cod; ⟨p, q, lead, x.same k, y⟩, h.wf, h.st, h.cl, h.txt.same k, h.lw⟩
def spEnd (C R : Addr) : Sp := fun vs H Q _ => ∃ (a : Addr) (v : V) (c : Ch) (ws : List Nat) (s : Nat), vs = [.ref a, v, .int (s : Int)] ∧ Writes C R H a v c ws s ∧ ∀ H', Same H H' → Q (.int (((wayF c ws s).2 : Nat) : Int)) H'
def spBlocks (C R : Addr) : Sp := fun vs H Q _ => ∃ (a : Addr) (v : V) (c : Ch) (ws : List Nat) (s : Nat), vs = [.ref a, v, .int (s : Int)] ∧ Writes C R H a v c ws s ∧ ∀ (l : Addr) (H' : Hp), Same H H' → H' l = some (.lst ((wayF c ws s).1.map V.str)) → Q (.ref l) H'
section
variable {P : Program} {w : World} {K : PySem.W.Frag} {mg : Str → Option Value} {base : Heap} {ad : Str → Addr} {fd : Str → FuncData}
theorem scC_end : FnScope ["self", "text", "state", "_", "end"] ["self", "text", "state"] (defScope sC_end) := ⟨rfl, rfl, rfl, by decide +kernel, rfl, by decide +kernel, by decide +kernel⟩
theorem ok_end (X : Tx K mg ad fd) (RC : RateC K mg ad fd) (CC : CoderC K mg ad fd) (CM : CoderM K mg ad fd) (CH : CoderW K mg ad fd) : FnOk P w K mg base CX0 4 (ad "Coder.end") (fd "Coder.end") ["self", "text", "state"] (spEnd (ad "Coder") (ad "Rate")) := by
  obtain ⟨dsT, vds, BT⟩ := b_check_text X
  have G_check_text := ok_check_text (P := P) (w := w) (base := base) X
  have G_check_state := ok_check_state (P := P) (w := w) (base := base) X
  have G_follow := ok_follow (P := P) (w := w) (base := base) X CC CM
  have G_len := ok_clen (P := P) (w := w) (base := base) X CC CM
  refine FunV.okV CH.F_end scC_end (fun vs H Q E h => ?_) (fun cdv A outer s H vs Q E hr h => ?_)
  · obtain ⟨a, v, c, ws, st, rfl, _⟩ := h
    rfl
  · obtain ⟨a, v, c, ws, st, rfl, W, k⟩ := h
    have HR_check_text := hr
    have HR_check_state := hr
    have HR_follow : Room 1 _ := hr.mono (by decide)
    have HR_len : Room 2 _ := hr.mono (by decide)
    have HRP : Room 2 _ := hr.mono (by decide)
    refine ⟨_, (pss_cons (ps_expr (by exact (pe_call G_check_text HR_check_text (by rfl) X.g_check_text X.F_check_text.kp BT vds pass0 (pa_cons (pv 1) (pa_cons (pe_prop_size RC HRP (pe_fld (pv 0) rfl) rfl) pa_nil)))))
  (pss_cons (ps_expr (by exact (pe_call G_check_state HR_check_state (by rfl) X.g_check_state X.F_check_state.kp X.b_check_state .nil pass0 (pa_cons (pv 2) (pa_cons (pe_callB (call_lenO G_len HR_len CM.b_len CH.ln CH.lnf) (by rfl) X.m_len (by decide +kernel) (pa_cons (pv 0) pa_nil)) pa_nil)))))
  (pss_cons (ps_asg (by exact (pe_meth (pv 0) CC.cl CH.m_follow G_follow HR_follow CM.b_follow .nil pass0 (pa_cons (pv 1) (pa_cons (pv 2) pa_nil)))) (pg_tup rfl (pgs_cons (pg_name (i := 3) scC_end.nd rfl (.inl rfl)) (pgs_cons (pg_name (i := 4) scC_end.nd rfl (.inl rfl)) pgs_nil))))
  (pss_one (ps_ret (by exact (pv 4))))))), ?_⟩
    obtain ⟨p, q, lead, cod, fit, rows, lt⟩ := W.cod
    have pw : (2 : Int) ^ p.toNat ≤ 64 := by
      have h2 : ∀ k : Nat, k ≤ 6 → (2 : Int) ^ k ≤ 64 := by decide
      exact h2 _ (by have := fit.2.1; omega)
    have cl := W.cl
    have sl := W.st
    obtain ⟨dx, r, l, e, ho, hd⟩ := id cod
    obtain ⟨dr, er⟩ := id ho
    refine ⟨v, rfl, .ref a, rfl, a, _, dx, _, _, rfl, e, CC.cl, CC.nr, rfl, r, dr, _, rfl, er, r, p, q, rfl, ho, fit, v, ws, 2 ^ p.toNat, rfl, W.txt, W.lw, lt, by omega, fun H1 s1 => ?_⟩
    refine ⟨.int (st : Int), rfl, .ref a, rfl, a, dx, _, rfl, s1 _ _ e, a, p, q, c, lead, rfl, cod.same s1, _, rfl, ⟨by omega, by omega⟩, (st : Int), (c.length : Int), rfl, by omega, by omega, by omega, fun H2 s2 => ?_⟩
    have S2 := Same.trans s1 s2
    refine ⟨.ref a, rfl, a, dx, _, rfl, S2 _ _ e, rfl, v, rfl, .int (st : Int), rfl, a, p, q, c, lead, v, ws, st, rfl, cod.same S2, W.wf, rows, W.st, W.txt.same S2, W.lw, lt, fun t l' H3 s3 et el => ?_⟩
    exact ⟨t, _, rfl, SqT.of et, rfl, _, _, rfl, _, _, rfl, rfl, _, rfl, k _ (Same.trans S2 s3)⟩
theorem scC_blocks : FnScope ["self", "text", "state", "blocks", "_"] ["self", "text", "state"] (defScope sC_blocks) := ⟨rfl, rfl, rfl, by decide +kernel, rfl, by decide +kernel, by decide +kernel⟩
theorem ok_blocks (X : Tx K mg ad fd) (RC : RateC K mg ad fd) (CC : CoderC K mg ad fd) (CM : CoderM K mg ad fd) (CH : CoderW K mg ad fd) : FnOk P w K mg base CX0 4 (ad "Coder.blocks") (fd "Coder.blocks") ["self", "text", "state"] (spBlocks (ad "Coder") (ad "Rate")) := by
  obtain ⟨dsT, vds, BT⟩ := b_check_text X
  have G_check_text := ok_check_text (P := P) (w := w) (base := base) X
  have G_check_state := ok_check_state (P := P) (w := w) (base := base) X
  have G_follow := ok_follow (P := P) (w := w) (base := base) X CC CM
  have G_len := ok_clen (P := P) (w := w) (base := base) X CC CM
  refine FunV.okV CH.F_blocks scC_blocks (fun vs H Q E h => ?_) (fun cdv A outer s H vs Q E hr h => ?_)
  · obtain ⟨a, v, c, ws, st, rfl, _⟩ := h
    rfl
  · obtain ⟨a, v, c, ws, st, rfl, W, k⟩ := h
    have HR_check_text := hr
    have HR_check_state := hr
    have HR_follow : Room 1 _ := hr.mono (by decide)
    have HR_len : Room 2 _ := hr.mono (by decide)
    have HRP : Room 2 _ := hr.mono (by decide)
    refine ⟨_, (pss_cons (ps_expr (by exact (pe_call G_check_text HR_check_text (by rfl) X.g_check_text X.F_check_text.kp BT vds pass0 (pa_cons (pv 1) (pa_cons (pe_prop_size RC HRP (pe_fld (pv 0) rfl) rfl) pa_nil)))))
  (pss_cons (ps_expr (by exact (pe_call G_check_state HR_check_state (by rfl) X.g_check_state X.F_check_state.kp X.b_check_state .nil pass0 (pa_cons (pv 2) (pa_cons (pe_callB (call_lenO G_len HR_len CM.b_len CH.ln CH.lnf) (by rfl) X.m_len (by decide +kernel) (pa_cons (pv 0) pa_nil)) pa_nil)))))
  (pss_cons (ps_asg (by exact (pe_meth (pv 0) CC.cl CH.m_follow G_follow HR_follow CM.b_follow .nil pass0 (pa_cons (pv 1) (pa_cons (pv 2) pa_nil)))) (pg_tup rfl (pgs_cons (pg_name (i := 3) scC_blocks.nd rfl (.inl rfl)) (pgs_cons (pg_name (i := 4) scC_blocks.nd rfl (.inl rfl)) pgs_nil))))
  (pss_one (ps_ret (by exact (pv 3))))))), ?_⟩
    obtain ⟨p, q, lead, cod, fit, rows, lt⟩ := W.cod
    have pw : (2 : Int) ^ p.toNat ≤ 64 := by
      have h2 : ∀ k : Nat, k ≤ 6 → (2 : Int) ^ k ≤ 64 := by decide
      exact h2 _ (by have := fit.2.1; omega)
    have cl := W.cl
    have sl := W.st
    obtain ⟨dx, r, l, e, ho, hd⟩ := id cod
    obtain ⟨dr, er⟩ := id ho
    refine ⟨v, rfl, .ref a, rfl, a, _, dx, _, _, rfl, e, CC.cl, CC.nr, rfl, r, dr, _, rfl, er, r, p, q, rfl, ho, fit, v, ws, 2 ^ p.toNat, rfl, W.txt, W.lw, lt, by omega, fun H1 s1 => ?_⟩
    refine ⟨.int (st : Int), rfl, .ref a, rfl, a, dx, _, rfl, s1 _ _ e, a, p, q, c, lead, rfl, cod.same s1, _, rfl, ⟨by omega, by omega⟩, (st : Int), (c.length : Int), rfl, by omega, by omega, by omega, fun H2 s2 => ?_⟩
    have S2 := Same.trans s1 s2
    refine ⟨.ref a, rfl, a, dx, _, rfl, S2 _ _ e, rfl, v, rfl, .int (st : Int), rfl, a, p, q, c, lead, v, ws, st, rfl, cod.same S2, W.wf, rows, W.st, W.txt.same S2, W.lw, lt, fun t l' H3 s3 et el => ?_⟩
    exact ⟨t, _, rfl, SqT.of et, rfl, _, _, rfl, _, _, rfl, rfl, _, rfl, k l' _ (Same.trans S2 s3) el⟩
end
end K52
end

section
set_option maxHeartbeats 4000000
/-! coders called -/
namespace K52
open PySem PySem.Spec PyProof.Rows L2
/-- a Coder may be called -/
structure CoderX (K : PySem.W.Frag) (mg : Str → Option Value) (ad : Str → Addr) (fd : Str → FuncData) : Prop where
  m_blocks : Meth K (ad "Coder") "blocks" (ad "Coder.blocks")
  b_blocks : ∃ ds, Vals [V.int 0] ds ∧ Binds K (fd "Coder.blocks") ["self", "text", "state"] ds
  F_call : Fun K "__call__" "Coder.__call__" sC_call (ad "Coder.__call__") (fd "Coder.__call__")
def shortB (c : Ch) : Prop := ∀ r ∈ c, ∀ e ∈ r, e.1.length ≤ 6
theorem way_short {c : Ch} (h : shortB c) : ∀ (ws : List Nat) (s : Nat), ∀ z ∈ (wayF c ws s).1, z.length ≤ 6
  | [], s, z, hz => by cases hz
  | w :: ws, s, z, hz => by
    have hz : z ∈ ((rowC c s).getD w ("", 0)).1 :: (wayF c ws ((rowC c s).getD w ("", 0)).2).1 := hz
    rcases List.mem_cons.mp hz with rfl | hz
    · rw [List.getD_eq_getElem?_getD]
      cases e : (rowC c s)[w]? with
      | none => exact Nat.zero_le _
      | some en =>
        have m := List.mem_of_getElem? e
        unfold rowC at m
        rw [List.getD_eq_getElem?_getD] at m
        cases k : c[s]? with
        | none => rw [k] at m; cases m
        | some r => rw [k] at m; exact h r (List.mem_of_getElem? k) en m
    · exact way_short h ws _ z hz
theorem sum_short : ∀ {l : List Str}, (∀ z ∈ l, z.length ≤ 6) → (l.map fun x => x.length).sum ≤ 6 * l.length
  | [], _ => Nat.le_refl _
  | z :: l, h => by
    rw [List.map_cons, List.sum_cons, List.length_cons]
    have := h z (List.mem_cons_self ..)
    have := sum_short (l := l) fun y hy => h y (List.mem_cons_of_mem _ hy)
    omega
def spCall (C R : Addr) : Sp := fun vs H Q _ => ∃ (a : Addr) (v : V) (c : Ch) (ws : List Nat) (p q : Int) (lead : Str), vs = [.ref a, v] ∧ Writes C R H a v c ws 0 ∧ CodO C R H a p q c lead ∧ okRow lead ∧ shortB c ∧ ∀ H', Same H H' → Q (.str (lead ++ Txt.join (PySem.Str.ofString "") (wayF c ws 0).1)) H'
section
variable {P : Program} {w : World} {K : PySem.W.Frag} {mg : Str → Option Value} {base : Heap} {ad : Str → Addr} {fd : Str → FuncData}
theorem scC_call : FnScope ["self", "text"] ["self", "text"] (defScope sC_call) := ⟨rfl, rfl, rfl, by decide +kernel, rfl, by decide +kernel, by decide +kernel⟩
theorem ok_call (X : Tx K mg ad fd) (RC : RateC K mg ad fd) (CC : CoderC K mg ad fd) (CM : CoderM K mg ad fd) (CH : CoderW K mg ad fd) (CH2 : CoderX K mg ad fd) : FnOk P w K mg base CX0 5 (ad "Coder.__call__") (fd "Coder.__call__") ["self", "text"] (spCall (ad "Coder") (ad "Rate")) := by
  have G_blocks := ok_blocks (P := P) (w := w) (base := base) X RC CC CM CH
  obtain ⟨ds, hv, hb⟩ := CH2.b_blocks
  refine CH2.F_call.ok scC_call (fun vs H Q E h => ?_) (fun cdv A outer s H vs Q E hr h => ?_)
  · obtain ⟨a, v, c, ws, p, q, lead, rfl, _⟩ := h
    rfl
  · obtain ⟨a, v, c, ws, p, q, lead, rfl, W, cod, hl, sh, k⟩ := h
    have HR_blocks := hr
    obtain ⟨dx, r, l, e, ho, hd⟩ := id cod
    refine ⟨_, (pss_one (ps_ret (by exact (pe_op op_add_str (pe_fld (pv 0) rfl) (pe_join pe_str (pe_meth (pv 0) CC.cl CH2.m_blocks G_blocks HR_blocks hb hv pass0 (pa_cons (pv 1) pa_nil))))))), ?_⟩
    refine ⟨.ref a, rfl, a, _, dx, _, _, rfl, e, CC.cl, CC.nl, rfl, ⟨_, rfl⟩, .ref a, rfl, a, dx, _, rfl, e, rfl, v, rfl, a, v, c, ws, 0, rfl, W, fun l' H1 s1 el => ?_⟩
    have sm := sum_short (way_short sh ws 0)
    have ln := wayF_len c ws 0
    have lw := W.lw
    have big : (Txt.join (PySem.Str.ofString "") (wayF c ws 0).1).length ≤ 4 * (1400 + 1) := PyProof.Rows.len_join_le (n := 1400) (by show _ + _ ≤ _; omega) (by decide)
    refine ⟨_, l', _, rfl, rfl, .inl (SqL.of el), by rw [show (PySem.Str.ofString "").length = 0 from rfl]; omega, _, _, rfl, rfl, by rw [sizeLine_eq]; have := hl.2; omega, k _ s1⟩
end
end K52
end

section
set_option maxHeartbeats 4000000
/-! draws -/
namespace K52
open PySem PySem.Spec PyProof.Rows L2
/-! ### promises -/
def spDraw : Sp := fun vs H Q _ => ∃ (p : Addr) (n : Int), vs = [.ref p, .int n] ∧ PotAt H p ∧ 1 ≤ n ∧ n.natAbs.log2 < 9000 ∧
  ∀ (d : Int) (H' : Hp), 0 ≤ d → d < n → PotAt H' p → But p H H' → Q (.int d) H'
def spPot (K : PySem.W.Frag) : Sp := fun vs H Q _ => ∃ (a : Addr) (ns : List Int) (k : Int), vs = [.ref a, .int k] ∧ SqL K H a (ns.map V.int) ∧ 0 ≤ k ∧ k < 1000 ∧
  ∀ (p : Addr) (H' : Hp), H p = none → PotAt H' p → Same H H' → Q (.ref p) H'
/-- an element of a list, or a sign of a text -/
def spPick (K : PySem.W.Frag) : Sp := fun vs H Q _ => ∃ (p : Addr) (v : V), vs = [.ref p, v] ∧ PotAt H p ∧
  ((∃ z : Str, v = .str z ∧ 0 < z.length ∧ z.length ≤ 1000 ∧ ∀ (c : Nat) (H' : Hp), c ∈ z.cps.toList → PotAt H' p → But p H H' → Q (.str ⟨#[c]⟩) H') ∨
   (∃ (a : Addr) (xs : List V), v = .ref a ∧ a ≠ p ∧ H a = some (.lst xs) ∧ 0 < xs.length ∧ xs.length ≤ 1000 ∧ ∀ (x : V) (H' : Hp), x ∈ xs → PotAt H' p → But p H H' → Q x H'))
section
variable {P : Program} {w : World} {K : PySem.W.Frag} {mg : Str → Option Value} {base : Heap} {ad : Str → Addr} {fd : Str → FuncData}
theorem call_divmodP {X : Cx} : CallR X (.builtin "divmod") (fun xs H Q => ∃ i j, xs = [.int i, .int j] ∧ (0 < j ∧ j.natAbs.log2 < 9000) ∧ ∀ p, H p = none → Q (.ref p) (upd H p (.tup [.int (i / j), .int (i % j)]))) := by
  intro pins s σ H xs us Q I r h
  obtain ⟨i, j, e, c, q⟩ := h
  exact call_divmodW pins s σ H xs us Q I r ⟨i, j, e, ⟨c.1, PyProof.noPylong_of_log2 c.2⟩, q⟩
theorem scDraw : FnScope ["_law_pot_here", "_law_bound", "_law_digit"] ["_law_pot_here", "_law_bound"] (defScope sDraw) := ⟨rfl, rfl, rfl, by decide +kernel, rfl, by decide +kernel, by decide +kernel⟩
theorem ok_draw (X : Tx K mg ad fd) : FnOk P w K mg base CX0 1 (ad "_law_draw") (fd "_law_draw") ["_law_pot_here", "_law_bound"] spDraw := by
  refine X.F__law_draw.ok scDraw (fun vs H Q E h => ?_) (fun cdv A outer s H vs Q E hr h => ?_)
  · obtain ⟨p, n, rfl, _⟩ := h
    rfl
  · obtain ⟨p, n, rfl, ⟨x, y, hp, hx, hy, hy2⟩, hn, hlog, q⟩ := h
    refine ⟨_, (pss_cons (ps_if (pt_cmpR op_gt (pe_ix ix_list (pv 0) pe_int (fun _ _ => rfl)) pe_int (nomark _))
  (pss_cons (ps_asg (by exact (pe_callB call_divmodP (by rfl) X.m_divmod (by decide +kernel) (pa_cons (pe_ix ix_list (pv 0) pe_int (fun _ _ => rfl)) (pa_cons (pv 1) pa_nil)))) (pg_tup rfl (pgs_cons (pg_sub (pv 0) pe_int set_list) (pgs_cons (pg_name (i := 2) scDraw.nd rfl (.inl rfl)) pgs_nil))))
  (pss_one (ps_ret (by exact (pv 2)))))
  pss_nil)
  (pss_cons (ps_asg (by exact (pe_op op_mod (pe_callTy call_int1 (by rfl) X.m_int (by decide +kernel) (pa_cons (pe_op op_add (pe_op op_mul (pe_ix ix_list (pv 0) pe_int (fun _ _ => rfl)) pe_int) pe_int) pa_nil)) pe_int)) (pg_sub (pv 0) pe_int set_list))
  (pss_one (ps_ret (by exact (pe_op op_mod (pe_callTy call_int1 (by rfl) X.m_int (by decide +kernel) (pa_cons (pe_op op_fdiv (pe_op op_mod (pe_callTy call_int1 (by rfl) X.m_int (by decide +kernel) (pa_cons (pe_op op_mul (pe_ix ix_list (pv 0) pe_int (fun _ _ => rfl)) (pe_ix ix_list (pv 0) pe_int (fun _ _ => rfl))) pa_nil)) pe_int) pe_int) pa_nil)) (pv 1))))))), ?_⟩
    refine ⟨.ref p, rfl, p, _, 0, .int x, rfl, rfl, SqL.of hp, atI_nat (j := 0) rfl, _, _, rfl, rfl, _, rfl, ite2 (fun e => ?_) (fun e => ?_)⟩
    · have h0 : 0 < x := of_decide_eq_true e
      refine ⟨.ref p, rfl, p, _, 0, .int x, rfl, rfl, SqL.of hp, atI_nat (j := 0) rfl, .int n, rfl, x, n, rfl, ⟨by omega, hlog⟩, fun t ht => ?_⟩
      have npt : p ≠ t := ne_of_none hp ht
      have hp' : (upd H t (.tup [.int (x / n), .int (x % n)])) p = some (.lst [.int x, .int y]) := by rw [upd_ne npt]; exact hp
      refine ⟨t, [.int (x / n), .int (x % n)], rfl, SqT.of upd_same, rfl, .int (x / n), _, rfl, .ref p, rfl, p, [.int x, .int y], 0, 0, rfl, rfl, hp', rfl, .int (x % n), [], rfl, rfl, .int (x % n), rfl, ?_⟩
      refine q _ _ (Int.emod_nonneg _ (by omega)) (Int.emod_lt_of_pos _ (by omega)) ⟨x / n, y, upd_same, Int.ediv_nonneg hx (by omega), hy, hy2⟩ ?_
      exact (But.new ht).trans But.upd
    · refine ⟨.ref p, rfl, p, _, 1, .int y, rfl, rfl, SqL.of hp, atI_nat (j := 1) rfl, y, 48271, rfl, rfl, .inr ⟨by decide, by decide⟩, _, _, rfl, rfl, .inl ⟨_, rfl, _, _, rfl, rfl, (by show (0 : Int) < 2147483587; decide), .ref p, rfl, p, [.int x, .int y], 1, 1, rfl, rfl, hp, rfl, ?_⟩⟩
      have y1 : 0 ≤ (y * 48271 + 12343) % 2147483587 := Int.emod_nonneg _ (by decide)
      have y2 : (y * 48271 + 12343) % 2147483587 < 2147483587 := Int.emod_lt_of_pos _ (by decide)
      refine ⟨.ref p, rfl, p, _, 1, (.int ((y * 48271 + 12343) % 2147483587)), rfl, rfl, SqL.of upd_same, atI_nat (j := 1) rfl, .ref p, rfl, p, _, 1, (.int ((y * 48271 + 12343) % 2147483587)), rfl, rfl, SqL.of upd_same, atI_nat (j := 1) rfl, ((y * 48271 + 12343) % 2147483587), ((y * 48271 + 12343) % 2147483587), rfl, rfl, .inl ⟨by omega, by omega⟩, .inl ⟨_, rfl, _, _, rfl, rfl, (by show (0 : Int) < 2147483549; decide), _, _, rfl, rfl, ⟨by decide, by decide⟩, .inl ⟨_, rfl, .int n, rfl, _, n, rfl, rfl, (by show 0 < n; omega), ?_⟩⟩⟩
      exact q _ _ (Int.emod_nonneg _ (by omega)) (Int.emod_lt_of_pos _ (by omega)) ⟨x, ((y * 48271 + 12343) % 2147483587), upd_same, hx, y1, by omega⟩ But.upd
theorem scPick : FnScope ["_law_pot_here", "_law_some"] ["_law_pot_here", "_law_some"] (defScope sPick) := ⟨rfl, rfl, rfl, by decide +kernel, rfl, by decide +kernel, by decide +kernel⟩
theorem log_small {n : Int} (h0 : 0 ≤ n) (h : n < 2 ^ 64) : n.natAbs.log2 < 9000 := by
  by_cases hn : n = 0
  · subst hn; decide
  · have h2 : n.natAbs < 2 ^ 64 := by omega
    have := (Nat.log2_lt (n := n.natAbs) (k := 64) (by omega)).mpr h2
    omega
theorem ok_pick (X : Tx K mg ad fd) : FnOk P w K mg base CX0 2 (ad "_law_pick") (fd "_law_pick") ["_law_pot_here", "_law_some"] (spPick K) := by
  have G__law_draw : FnOk P w K mg base CX0 1 (ad "_law_draw") (fd "_law_draw") ["_law_pot_here", "_law_bound"] spDraw := ok_draw X
  refine X.F__law_pick.ok scPick (fun vs H Q E h => ?_) (fun cdv A outer s H vs Q E hr h => ?_)
  · obtain ⟨p, v, rfl, _⟩ := h
    rfl
  · obtain ⟨p, v, rfl, hp, h⟩ := h
    have HR__law_draw := hr
    refine ⟨_, (pss_one (ps_ret (by exact (pe_ix ix_seq (pv 1) (pe_call G__law_draw HR__law_draw (by rfl) X.g__law_draw X.F__law_draw.kp X.b__law_draw .nil pass0 (pa_cons (pv 0) (pa_cons (pe_callB call_len (by rfl) X.m_len (by decide +kernel) (pa_cons (pv 1) pa_nil)) pa_nil))) (fun _ _ => rfl))))), ?_⟩
    rcases h with ⟨z, rfl, z0, z1, q⟩ | ⟨a, xs, rfl, hap, ha, x0, x1, q⟩
    · refine ⟨.str z, rfl, .ref p, rfl, .str z, rfl, .str z, z.length, rfl, ⟨by rw [sizeLine_eq]; omega, rfl⟩, p, (z.length : Int), rfl, hp, by omega, log_small (by omega) (by omega), fun d H' d0 d1 hp' hb => ?_⟩
      obtain ⟨j, rfl⟩ := Int.eq_ofNat_of_zero_le d0
      have hj : j < z.cps.toList.length := by
        have e : z.cps.toList.length = z.length := by simp [Str.length]
        omega
      have hg : z.cps.toList[j]? = some z.cps.toList[j] := List.getElem?_eq_getElem hj
      refine .inr (.inr ⟨z, (j : Int), z.cps.toList[j], rfl, rfl, by rw [sizeLine_eq]; omega, atI_nat hg, ?_⟩)
      exact q _ _ (List.getElem_mem hj) hp' hb
    · refine ⟨.ref a, rfl, .ref p, rfl, .ref a, rfl, .ref a, xs.length, rfl, .inl ⟨_, SqL.of ha, rfl⟩, p, (xs.length : Int), rfl, hp, by omega, log_small (by omega) (by omega), fun d H' d0 d1 hp' hb => ?_⟩
      obtain ⟨j, rfl⟩ := Int.eq_ofNat_of_zero_le d0
      have hj : j < xs.length := by omega
      refine .inl ⟨a, xs, (j : Int), xs[j], rfl, rfl, SqL.of (hb _ _ hap ha), atI_nat (List.getElem?_eq_getElem hj), ?_⟩
      exact q _ _ (List.getElem_mem hj) hp' hb
end
end K52
end

section
set_option maxHeartbeats 4000000
/-! the pot -/
namespace K52
open PySem PySem.Spec PyProof.Rows L2
section
variable {P : Program} {w : World} {K : PySem.W.Frag} {mg : Str → Option Value} {base : Heap} {ad : Str → Addr} {fd : Str → FuncData}
theorem scPot : FnScope ["_law_script", "_law_k", "_law_cell"] ["_law_script", "_law_k"] (defScope sPot) := ⟨rfl, rfl, rfl, by decide +kernel, rfl, by decide +kernel, by decide +kernel⟩
theorem ok_pot (X : Tx K mg ad fd) : FnOk P w K mg base CX0 1 (ad "_law_pot") (fd "_law_pot") ["_law_script", "_law_k"] (spPot K) := by
  refine X.F__law_pot.ok scPot (fun vs H Q E h => ?_) (fun cdv A outer s H vs Q E hr h => ?_)
  · obtain ⟨a, ns, k, rfl, _⟩ := h
    rfl
  · obtain ⟨a, ns, k, rfl, hS, hk0, hk1, q⟩ := h
    refine ⟨_, (pss_cons (ps_set (i := 2) scPot.nd rfl (.inl rfl) (by exact (pe_op op_add (pe_op op_mul pe_int (pv 1)) pe_int)))
  (pss_cons (ps_if (pt_cmpR op_lt (pv 1) (pe_callB call_len (by rfl) X.m_len (by decide +kernel) (pa_cons (pv 0) pa_nil)) (nomark _))
  (pss_one (ps_set (i := 2) scPot.nd rfl (.inl rfl) (by exact (pe_callB call_abs (by rfl) X.m_abs (by decide +kernel) (pa_cons (pe_ix ix_list (pv 0) (pv 1) (fun _ _ => rfl)) pa_nil)))))
  pss_nil)
  (pss_one (ps_ret (by exact (pe_lst (pa_cons (pe_callB (call_max2 rfl) (by rfl) X.m_max (by decide +kernel) (pa_cons pe_int (pa_cons (pe_op op_sub (pv 2) (pe_op op_pow pe_int pe_int)) pa_nil))) (pa_cons (pe_op op_add (pe_op op_mod (pe_op op_mul (pe_callTy call_int1 (by rfl) X.m_int (by decide +kernel) (pa_cons (pe_op op_add (pe_op op_mod (pe_callTy call_int1 (by rfl) X.m_int (by decide +kernel) (pa_cons (pv 2) pa_nil)) pe_int) pe_int) pa_nil)) (pe_op op_pow (pe_op op_add (pe_op op_mul pe_int (pv 1)) pe_int) pe_int)) pe_int) pe_int) pa_nil)))))))), ?_⟩
    refine ⟨_, rfl, 31, k, rfl, rfl, .inl ⟨by decide, by decide⟩, _, _, rfl, rfl, .int k, rfl, .ref a, rfl, _, _, rfl, .inl ⟨_, hS, rfl⟩, _, _, rfl, rfl, _, rfl, ite2 (fun e => ?_) (fun e => ?_)⟩
    · have hlt : k < ((ns.map V.int).length : Int) := of_decide_eq_true e
      obtain ⟨j, rfl⟩ := Int.eq_ofNat_of_zero_le hk0
      have hj : j < ns.length := by rw [List.length_map] at hlt; omega
      have hg : (ns.map V.int)[j]? = some (.int ns[j]) := by rw [List.getElem?_map, List.getElem?_eq_getElem hj]; rfl
      refine ⟨.ref a, rfl, .int j, rfl, a, _, _, _, rfl, rfl, hS, atI_nat hg, _, rfl, ?_⟩
      have c0 : 0 ≤ (if ns[j] < 0 then -ns[j] else ns[j]) := by split <;> omega
      generalize (if ns[j] < 0 then -ns[j] else ns[j]) = c at c0
      refine ⟨.int c, rfl, 10, 18, rfl, rfl, ⟨by decide, by decide, by decide⟩, c, 10 ^ 18, rfl, rfl, 0, c - 10 ^ 18, rfl, ?_⟩
      refine ⟨.int c, rfl, .inl ⟨c, rfl, c, 2147483549, rfl, rfl, (by show (0 : Int) < 2147483549; decide), c % 2147483549, 5, rfl, rfl, .inl ⟨_, rfl, ?_⟩⟩⟩
      have y0 : 0 ≤ c % 2147483549 := Int.emod_nonneg _ (by decide)
      have y1 : c % 2147483549 < 2147483549 := Int.emod_lt_of_pos _ (by decide)
      refine ⟨.int (j : Int), rfl, 2, (j : Int), rfl, rfl, .inl ⟨by decide, by decide⟩, _, 3, rfl, rfl, _, 3, rfl, rfl, ⟨by decide, by decide, by omega⟩, _, _, rfl, rfl, .inl ⟨by omega, by omega⟩, _, 2147483477, rfl, rfl, (by show (0 : Int) < 2147483477; decide), _, 1, rfl, rfl, (by show 2 ≤ sizeLine; decide), fun p hp => ?_⟩
      have z0 : 0 ≤ ((c % 2147483549 + 5) * (2 * (j : Int) + 3) ^ 3) % 2147483477 := Int.emod_nonneg _ (by decide)
      have z1 : ((c % 2147483549 + 5) * (2 * (j : Int) + 3) ^ 3) % 2147483477 < 2147483477 := Int.emod_lt_of_pos _ (by decide)
      exact q p _ hp ⟨if c - 10 ^ 18 > 0 then c - 10 ^ 18 else 0, ((c % 2147483549 + 5) * (2 * (j : Int) + 3) ^ 3) % 2147483477 + 1, upd_same, by split <;> omega, by omega, by omega⟩ (Same.new hp)
    · have c0 : 0 ≤ 31 * k + 17 := by omega
      refine ⟨.int (31 * k + 17), rfl, 10, 18, rfl, rfl, ⟨by decide, by decide, by decide⟩, (31 * k + 17), 10 ^ 18, rfl, rfl, 0, (31 * k + 17) - 10 ^ 18, rfl, ?_⟩
      refine ⟨.int (31 * k + 17), rfl, .inl ⟨31 * k + 17, rfl, (31 * k + 17), 2147483549, rfl, rfl, (by show (0 : Int) < 2147483549; decide), (31 * k + 17) % 2147483549, 5, rfl, rfl, .inl ⟨_, rfl, ?_⟩⟩⟩
      have y0 : 0 ≤ (31 * k + 17) % 2147483549 := Int.emod_nonneg _ (by decide)
      have y1 : (31 * k + 17) % 2147483549 < 2147483549 := Int.emod_lt_of_pos _ (by decide)
      refine ⟨.int k, rfl, 2, k, rfl, rfl, .inl ⟨by decide, by decide⟩, _, 3, rfl, rfl, _, 3, rfl, rfl, ⟨by decide, by decide, by omega⟩, _, _, rfl, rfl, .inl ⟨by omega, by omega⟩, _, 2147483477, rfl, rfl, (by show (0 : Int) < 2147483477; decide), _, 1, rfl, rfl, (by show 2 ≤ sizeLine; decide), fun p hp => ?_⟩
      have z0 : 0 ≤ (((31 * k + 17) % 2147483549 + 5) * (2 * k + 3) ^ 3) % 2147483477 := Int.emod_nonneg _ (by decide)
      have z1 : (((31 * k + 17) % 2147483549 + 5) * (2 * k + 3) ^ 3) % 2147483477 < 2147483477 := Int.emod_lt_of_pos _ (by decide)
      exact q p _ hp ⟨if (31 * k + 17) - 10 ^ 18 > 0 then (31 * k + 17) - 10 ^ 18 else 0, (((31 * k + 17) % 2147483549 + 5) * (2 * k + 3) ^ 3) % 2147483477 + 1, upd_same, by split <;> omega, by omega, by omega⟩ (Same.new hp)
end
end K52
end

section
set_option maxHeartbeats 4000000
/-! the law's own walk -/
namespace K52
open PySem PySem.Spec PyProof.Rows L2
theorem ints_flat (o : List Nat) : (intsV o).all flatV = true := by
  unfold intsV
  rw [List.all_map]
  exact List.all_eq_true.mpr fun x _ => rfl
theorem inV_ints (t : Nat) (o : List Nat) : inV (.int (t : Int)) (intsV o) = decide (t ∈ o) := by
  induction o with
  | nil => rfl
  | cons x o ih =>
    have e : inV (.int (t : Int)) (intsV (x :: o)) = (decide ((t : Int) = (x : Int)) || inV (.int (t : Int)) (intsV o)) := by
      show (eqV (.int (x : Int)) (.int (t : Int)) || inV (.int (t : Int)) (intsV o)) = _
      congr 1
      rw [Bool.eq_iff_iff, decide_eq_true_eq]
      simp only [eqV, beq_iff_eq, decide_eq_true_eq]
      exact ⟨fun z => z.symm, fun z => z.symm⟩
    rw [e, ih, Bool.eq_iff_iff]
    simp only [Bool.or_eq_true, decide_eq_true_eq, List.mem_cons]
    constructor
    · rintro (h | h)
      · exact .inl (by omega)
      · exact .inr h
    · rintro (h | h)
      · exact .inl (by omega)
      · exact .inr h
def spReached : Sp := fun vs H Q _ => ∃ (v : V) (c : Ch), vs = [v] ∧ Dx H v (chD c) ∧ WfC c ∧ c.length ≤ 1000 ∧ ∀ (l : Addr) (H' : Hp), Same H H' → H l = none → H' l = some (.lst (intsV (reached c))) → Q (.ref l) H'
section
variable {P : Program} {w : World} {K : PySem.W.Frag} {mg : Str → Option Value} {base : Heap} {ad : Str → Addr} {fd : Str → FuncData}
theorem scReached : FnScope ["_law_chart", "_law_found", "_law_at", "_law_piece", "_law_to"] ["_law_chart"] (defScope sReached) := ⟨rfl, rfl, rfl, by decide +kernel, rfl, by decide +kernel, by decide +kernel⟩
theorem ok_reached (X : Tx K mg ad fd) : FnOk P w K mg base CX0 1 (ad "_law_reached") (fd "_law_reached") ["_law_chart"] spReached := by
  refine X.F__law_reached.ok scReached (fun vs H Q E h => ?_) (fun cdv A outer s H vs Q E hr h => ?_)
  · obtain ⟨v, c, rfl, _⟩ := h
    rfl
  · obtain ⟨v, c, rfl, hc, wf, l1, k⟩ := h
    refine ⟨_, (pss_cons (ps_par (i := 1) (j := 2) rfl scReached.nd rfl rfl (by decide) rfl rfl (by exact (pa_cons (pe_lst (pa_cons pe_int pa_nil)) (pa_cons pe_int pa_nil))) (by rfl))
  (pss_cons (ps_while PassesOwn.never (pt_cmpR op_lt (pv 2) (pe_callB call_len (by rfl) X.m_len (by decide +kernel) (pa_cons (pv 1) pa_nil)) (nomark _))
  (pss_cons (ps_for PassesOwn.never rfl (pi_list (pe_ix ix_list (pv 0) (pe_ix ix_list (pv 1) (pv 2) (fun _ _ => rfl)) (fun _ _ => rfl))) (pg_tup rfl (pgs_cons (pg_name (i := 3) scReached.nd rfl (.inl rfl)) (pgs_cons (pg_name (i := 4) scReached.nd rfl (.inl rfl)) pgs_nil)))
  (pss_one (ps_if (pt_cmpR op_notIn_seq (pv 4) (pv 1) rfl)
  (pss_one (ps_expr (by exact (pe_bm PySem.F.plainAttrs_list PySem.F.slot_list_append PySem.F.type_list_append mt_append (pv 1) (pa_cons (pv 4) pa_nil)))))
  pss_nil)))
  (pss_one (ps_set (i := 2) scReached.nd rfl (.inl rfl) (by exact (pe_op op_add (pv 2) pe_int))))))
  (pss_one (ps_ret (by exact (pv 1)))))), ?_⟩
    obtain ⟨a, cv, ra, ea, all⟩ := hc.list
    subst ra
    refine ⟨(by show 1 ≤ sizeLine; decide), fun O hO => ⟨_, _, rfl, ?_⟩⟩
    refine ⟨fun m σ H' => ∃ (n : Nat) (o : List Nat) (r5 r6 : Option V), σ = [some (.ref a), some (.ref O), some (.int (n : Int)), r5, r6] ∧ m = c.length + 1 - n ∧ n ≤ o.length ∧ n ≤ c.length ∧ Same H H' ∧ H' O = some (.lst (intsV o)) ∧ o.Nodup ∧ (∀ x ∈ o, x < c.length) ∧
      goR c (c.length + 1 - n) n o = reached c, ⟨_, 0, [0], _, _, rfl, rfl, Nat.zero_le _, Nat.zero_le _, Same.new hO, upd_same, one_nodup, (fun x hx => by rw [List.mem_singleton.mp hx]; exact wf.1), rfl⟩, ?_⟩
    rintro m σ H1 ⟨n, o, r5, r6, rfl, rfl, hn, hn2, S1, eO, nd, lt, go⟩
    have lo : (intsV o).length = o.length := by unfold intsV; rw [List.length_map]
    refine ⟨.int (n : Int), rfl, .ref O, rfl, .ref O, _, rfl, .inl ⟨_, SqL.of eO, rfl⟩, _, _, rfl, rfl, _, rfl, ?_⟩
    rw [lo]
    by_cases hlt : n < o.length
    · rw [decide_eq_true (show (n : Int) < (o.length : Int) by omega)]
      have nlt : n < c.length := Nat.lt_of_lt_of_le hlt (nodup_len nd lt)
      refine iteT ⟨fun σ' H' => ∃ m', m' < c.length + 1 - n ∧ ∃ (n : Nat) (o : List Nat) (r5 r6 : Option V), σ' = [some (.ref a), some (.ref O), some (.int (n : Int)), r5, r6] ∧ m' = c.length + 1 - n ∧ n ≤ o.length ∧ n ≤ c.length ∧ Same H H' ∧ H' O = some (.lst (intsV o)) ∧ o.Nodup ∧ (∀ x ∈ o, x < c.length) ∧
        goR c (c.length + 1 - n) n o = reached c, fun _ _ z => z, ?_⟩
      obtain ⟨t, et⟩ : ∃ t, o[n]? = some t := ⟨_, List.getElem?_eq_getElem hlt⟩
      have tl := lt t (List.mem_of_getElem? et)
      have eot : (intsV o)[n]? = some (.int (t : Int)) := by unfold intsV; rw [List.getElem?_map, et]; rfl
      obtain ⟨a', vs, b, ea', ev, lv, hb, db⟩ := chD_row hc tl
      cases ea'
      obtain ⟨ws, ew0, lw, ents⟩ := rowD_ent db
      have ew := S1 _ _ ew0
      replace ev := S1 _ _ ev
      have nbO : b ≠ O := ne_of_none ew0 hO
      refine ⟨.ref a, rfl, .ref O, rfl, .int (n : Int), rfl, O, _, (n : Int), .int (t : Int), rfl, rfl, SqL.of eO, atI_nat eot, a, _, (t : Int), .ref b, rfl, rfl, SqL.of ev, atI_nat hb, b, rfl, ⟨_, SqL.of ew⟩, ?_⟩
      refine for_list (K := K) (a := b) (xs := ws) (fun j σ H' => ∃ r5 r6, σ = [some (.ref a), some (.ref O), some (.int (n : Int)), r5, r6] ∧ Same H H' ∧ H' b = some (.lst ws) ∧ H' O = some (.lst (intsV (addAll o ((rowC c t).take j))))) ⟨_, _, rfl, S1, ew, eO⟩ (fun j σ H' _ ⟨_, _, _, _, eb, _⟩ => SqL.of eb) ?_ ?_
      · rintro j x σ H2 hx ⟨r5, r6, rfl, S2, eb2, eO2⟩
        obtain ⟨tt, en, he, rfl, htt⟩ := ents j x hx
        have ht2 := S2 _ _ htt
        have tj : (rowC c t).take (j + 1) = (rowC c t).take j ++ [en] := by
          rw [List.take_add_one, he]; rfl
        have aj : addAll o ((rowC c t).take (j + 1)) = addN (addAll o ((rowC c t).take j)) en.2 := by
          rw [tj]
          unfold addAll
          rw [List.foldl_append]
          rfl
        rw [aj]
        have nd2 : (addAll o ((rowC c t).take j)).Nodup := nodup_addAll nd
        have lt2 : ∀ x ∈ addAll o ((rowC c t).take j), x < c.length := fun x hx => (mem_addAll.mp hx).elim (lt x) fun ⟨e, he, z⟩ => by rw [z]; exact rowC_lt wf (List.mem_of_mem_take he)
        have len2 := nodup_len nd2 lt2
        generalize addAll o ((rowC c t).take j) = o2 at eO2 nd2 lt2 len2 ⊢
        refine ⟨tt, [.str en.1, .int (en.2 : Int)], rfl, SqT.of ht2, rfl, .str en.1, _, rfl, .int (en.2 : Int), _, rfl, rfl, ?_⟩
        refine ⟨.int (en.2 : Int), rfl, .ref O, rfl, O, _, rfl, .inl (SqL.of eO2), rfl, ints_flat o2, _, rfl, ?_⟩
        rw [if_pos rfl, inV_ints]
        unfold addN
        by_cases hin : en.2 ∈ o2
        · rw [if_pos hin, decide_eq_true hin]
          exact iteF ⟨_, _, rfl, S2, eb2, eO2⟩
        · rw [if_neg hin, decide_eq_false hin]
          have lo2 : (intsV o2).length = o2.length := by unfold intsV; rw [List.length_map]
          refine iteT ⟨.ref O, rfl, .inl ⟨rfl, _, SqL.of eO2⟩, .int (en.2 : Int), rfl, O, _, _, rfl, rfl, eO2, by rw [lo2, sizeLine_eq]; omega, ?_⟩
          refine ⟨_, _, rfl, fun b' u eb' => ?_, (upd_ne nbO).trans eb2, ?_⟩
          · rw [upd_ne (ne_of_none eb' hO)]
            exact S2 _ _ eb'
          · rw [upd_same]
            unfold intsV
            rw [List.map_append]
            rfl
      · rintro σ H2 ⟨r5, r6, rfl, S2, eb2, eO2⟩
        have lj : ws.length = (rowC c t).length := lw
        rw [lj, List.take_length] at eO2
        refine ⟨.int (n : Int), rfl, (n : Int), 1, rfl, rfl, c.length + 1 - (n + 1), by omega, n + 1, addAll o (rowC c t), _, _, rfl, rfl, ?_, nlt, S2, eO2, nodup_addAll nd, fun x hx => (mem_addAll.mp hx).elim (lt x) fun ⟨e, he, z⟩ => by rw [z]; exact rowC_lt wf he, ?_⟩
        · obtain ⟨s', hs'⟩ := addAll_pre (r := rowC c t) o
          rw [hs', List.length_append]
          omega
        · rw [← go, show c.length + 1 - n = (c.length + 1 - (n + 1)) + 1 by omega]
          show _ = (match o[n]? with | some i => goR c (c.length + 1 - (n + 1)) (n + 1) (addAll o (rowC c i)) | none => o)
          rw [et]
    · rw [decide_eq_false (show ¬ (n : Int) < (o.length : Int) by omega)]
      refine iteF ?_
      have ro : reached c = o := by
        rw [← go, show c.length + 1 - n = (c.length - n) + 1 by omega]
        show (match o[n]? with | some i => goR c (c.length - n) (n + 1) (addAll o (rowC c i)) | none => o) = o
        rw [List.getElem?_eq_none (by omega)]
      exact ⟨.ref O, rfl, k O _ S1 hO (by rw [ro]; exact eO)⟩
end
end K52
end

section
set_option maxHeartbeats 4000000
/-! the law's own kept table -/
namespace K52
open PySem PySem.Spec PyProof.Rows L2
theorem mt_indexK {X : Cx} {K : PySem.W.Frag} (e : X.K = K) : MtR X "list.index" (rIndex K) := by
  subst e
  exact mt_index
theorem bmK {X : Cx} {K : PySem.W.Frag} {ex : Expr} {T : String} {r : V → List V → Hp → VK → Prop} {to : TE} {t : TA} (eK : X.K = K) (h : PE X ex (tBM X.K T r to t)) : PE X ex (tBM K T r to t) := by
  subst eK
  exact h
theorem idx_first {t : Nat} : ∀ {o : List Nat} {m : Nat}, m < o.idxOf t → o[m]? ≠ some t
  | [], m, h => fun z => by cases z
  | x :: o, m, h => by
    rw [List.idxOf_cons] at h
    by_cases e : x = t
    · rw [show (x == t) = true by simp [e]] at h
      exact absurd h (Nat.not_lt_zero m)
    · rw [show (x == t) = false from beq_eq_false_iff_ne.mpr e] at h
      cases m with
      | zero => exact fun z => e (Option.some.inj z)
      | succ m =>
        have h : m + 1 < o.idxOf t + 1 := h
        intro z
        exact idx_first (t := t) (o := o) (m := m) (Nat.lt_of_succ_lt_succ h) (by simpa using z)
theorem idx_at {o : List Nat} {t : Nat} (h : t ∈ o) : (intsV o)[o.idxOf t]? = some (.int (t : Int)) ∧ ∀ (m : Nat) (z' : V), m < o.idxOf t → (intsV o)[m]? = some z' → eqV z' (.int (t : Int)) = false := by
  have hl := List.idxOf_lt_length_of_mem h
  refine ⟨?_, fun m z' hm hz => ?_⟩
  · unfold intsV
    rw [List.getElem?_map, List.getElem?_eq_getElem hl, List.getElem_idxOf]
    rfl
  · unfold intsV at hz
    rw [List.getElem?_map, List.getElem?_eq_getElem (by omega)] at hz
    cases hz
    have ne : o[m] ≠ t := fun z => idx_first hm (by rw [List.getElem?_eq_getElem (by omega), z])
    show ((o[m] : Int) == (t : Int)) = false
    exact beq_eq_false_iff_ne.mpr fun z => ne (by omega)
section
variable {P : Program} {w : World} {K : PySem.W.Frag} {mg : Str → Option Value} {base : Heap} {ad : Str → Addr} {fd : Str → FuncData}
theorem scKept : FnScope ["_law_chart", "_law_spots", "_law_spot", "_law_piece", "_law_to"] ["_law_chart"] (defScope sKept) := ⟨rfl, rfl, rfl, by decide +kernel, rfl, by decide +kernel, by decide +kernel⟩
theorem ok_kept (X : Tx K mg ad fd) : FnOk P w K mg base CX0 2 (ad "_law_kept") (fd "_law_kept") ["_law_chart"] spKeptC := by
  have G__law_reached := ok_reached (P := P) (w := w) (base := base) X
  refine X.F__law_kept.ok scKept (fun vs H Q E h => ?_) (fun cdv A outer s H vs Q E hr h => ?_)
  · obtain ⟨v, c, rfl, _⟩ := h
    rfl
  · obtain ⟨v, c, rfl, hc, wf, l1, l2, k⟩ := h
    have HR__law_reached := hr
    refine ⟨_, (pss_cons (ps_set (i := 1) scKept.nd rfl (.inr rfl) (by exact (pe_call G__law_reached HR__law_reached (by rfl) X.g__law_reached X.F__law_reached.kp X.b__law_reached .nil pass0 (pa_cons (pv 0) pa_nil))))
  (pss_one (ps_ret (by exact (pe_lc (own := [("_law_spot", 2)]) (g := gName 2) rfl scKept.nd (pi_list (pv 1)) (blkOk_by (own := [("_law_spot", 2)]) (N := ["_law_chart", "_law_spots", "_law_spot", "_law_piece", "_law_to"]) (sc := defScope sKept) (by decide +kernel)) (fun _ _ _ _ _ => pg_name (i := 2) scKept.nd rfl (Or.inl rfl)) (fun _ _ _ _ _ => pts_nil) (fun _ _ _ _ _ => (pe_lc (own := [("_law_piece", 3), ("_law_to", 4)]) (g := gTup K 2 (gCons (gName 3) (gCons (gName 4) (gNil)))) rfl scKept.nd (pi_listK (K := K) rfl (pe_ix (ix_listK (K := K) rfl) (pv 0) (pv 2) (fun _ _ => rfl))) (blkOk_by (own := [("_law_piece", 3), ("_law_to", 4)]) (N := ["_law_chart", "_law_spots", "_law_spot", "_law_piece", "_law_to"]) (by kernel_rfl)) (fun _ _ _ _ _ => pg_tupK (K := K) rfl rfl (pgs_cons (pg_name (i := 3) scKept.nd rfl (Or.inl rfl)) (pgs_cons (pg_name (i := 4) scKept.nd rfl (Or.inl rfl)) (pgs_nil)))) (fun _ _ _ _ _ => pts_nil) (fun _ _ _ _ _ => (pe_tup (pa_cons (pv 3) (pa_cons (bmK (K := K) rfl (pe_bm PySem.F.plainAttrs_list PySem.F.slot_list_index PySem.F.type_list_index (mt_indexK (K := K) rfl) (pv 1) (pa_cons (pv 4) pa_nil))) pa_nil))))))))))), ?_⟩
    obtain ⟨a, cv, ra, ea, all⟩ := hc.list
    subst ra
    refine ⟨.ref a, rfl, .ref a, c, rfl, hc, wf, l1, fun O H1 S1 hO eO => ?_⟩
    have nd := (reached_ok wf).1
    have lt := (reached_ok wf).2.1
    have clo0 := (reached_ok wf).2.2.1
    obtain ⟨o, ro⟩ : ∃ o, reached c = o := ⟨_, rfl⟩
    rw [ro] at eO nd lt clo0
    have lo : (intsV o).length = o.length := by unfold intsV; rw [List.length_map]
    refine ⟨.ref O, rfl, O, rfl, ⟨_, SqL.of eO⟩, fun D hD => ?_⟩
    have nDO : D ≠ O := (ne_of_none eO hD).symm
    refine lc_it (w := walk_list (K := K) (a := O) (xs := intsV o)) (g := gName 2) (tt := tYes) (fun i H' => ∃ ls : List Addr, H' D = some (.lst (ls.map V.ref)) ∧ ls.length = i ∧ Same H1 H' ∧ ∀ (m : Nat) (l : Addr), ls[m]? = some l → l ≠ D ∧ ∃ t, o[m]? = some t ∧ RowAt H' l ((rowC c t).map fun e => (e.1, o.idxOf e.2)))
      ⟨[], upd_same, rfl, Same.new hD, fun m l z => by cases z⟩ (fun i H' hi ⟨_, _, _, s, _⟩ => SqL.of (s _ _ eO)) (fun i x H' H'' hi hP hy => ?_) (fun H' hP => ?_)
    · obtain ⟨ls, eD, ll, s1, rows⟩ := hP
      obtain ⟨rfl, hx⟩ := hy
      refine ⟨rfl, yes_of (iteT ?_)⟩
      obtain ⟨t, et, rfl⟩ : ∃ t, o[i]? = some t ∧ x = .int (t : Int) := by
        unfold intsV at hx
        rw [List.getElem?_map] at hx
        cases z : o[i]? with
        | none => rw [z] at hx; cases hx
        | some t => rw [z] at hx; cases hx; exact ⟨t, rfl, rfl⟩
      have tm := List.mem_of_getElem? et
      have tl := lt t tm
      obtain ⟨a', vs, b, ea', ev, lv, hb, db⟩ := chD_row hc tl
      cases ea'
      obtain ⟨ws, ew0, lw, ents⟩ := rowD_ent db
      have S2 := Same.trans S1 s1
      have clo : ∀ e ∈ rowC c t, e.2 ∈ o := by
        exact clo0 t tm
      have eO2 := s1 _ _ eO
      refine ⟨.ref a, rfl, .int (t : Int), rfl, a, _, (t : Int), .ref b, rfl, rfl, SqL.of (S2 _ _ ev), atI_nat hb, b, rfl, ⟨_, SqL.of (S2 _ _ ew0)⟩, fun D2 hD2 => ?_⟩
      refine lc_it (w := walk_list (K := K) (a := b) (xs := ws)) (g := gTup K 2 (gCons (gName 3) (gCons (gName 4) gNil))) (tt := tYes) (fun j G => ∃ ts : List Addr, G D2 = some (.lst (ts.map V.ref)) ∧ ts.length = j ∧ Same H'' G ∧ ∀ (m : Nat) (t' : Addr), ts[m]? = some t' → ∃ e, (rowC c t)[m]? = some e ∧ G t' = some (.tup [.str e.1, .int ((o.idxOf e.2 : Nat) : Int)]))
        ⟨[], upd_same, rfl, Same.new hD2, fun m l z => by cases z⟩ (fun j G hj ⟨_, _, _, s, _⟩ => SqL.of (s _ _ (S2 _ _ ew0))) (fun j y G G' hj hP2 hy => ?_) (fun G hP2 => ?_)
      · obtain ⟨ts, e2, lt2, s2, ok2⟩ := hP2
        obtain ⟨rfl, hy⟩ := hy
        obtain ⟨tt, en, he, rfl, htt⟩ := ents j y hy
        have hin := clo en (List.mem_of_getElem? he)
        obtain ⟨ix1, ix2⟩ := idx_at hin
        have ej : j < (rowC c t).length := (List.getElem?_eq_some_iff.mp he).1
        refine ⟨tt, [.str en.1, .int (en.2 : Int)], rfl, SqT.of (s2 _ _ (S2 _ _ htt)), rfl, .str en.1, _, rfl, .int (en.2 : Int), _, rfl, rfl, rfl, yes_of (iteT ?_)⟩
        have lrow : (rowC c t).length ≤ 1000 := by
          unfold rowC
          rw [List.getD_eq_getElem?_getD, List.getElem?_eq_getElem tl]
          exact l2 _ (List.getElem_mem tl)
        refine ⟨.str en.1, rfl, .ref O, rfl, .inl ⟨rfl, _, SqL.of (s2 _ _ eO2)⟩, .int (en.2 : Int), rfl, O, _, .int (en.2 : Int), o.idxOf en.2, _, rfl, rfl, SqL.of (s2 _ _ eO2), rfl, ints_flat o, ix1, by simp [eqV], ix2, (by show 2 ≤ sizeLine; decide), fun t2 ht2 => ?_⟩
        have n2 : D2 ≠ t2 := ne_of_none e2 ht2
        have St := Same.new ht2 (o := .tup [V.str en.1, .int ((o.idxOf en.2 : Nat) : Int)])
        refine ⟨_, St _ _ e2, by rw [List.length_map, lt2, sizeLine_eq]; omega, ts ++ [t2], by rw [upd_same, List.map_append]; rfl, by rw [List.length_append, lt2]; rfl, fun b' u eb' => ?_, fun m t' hm => ?_⟩
        · rw [upd_ne (ne_of_none eb' hD2)]
          exact St _ _ (s2 _ _ eb')
        · by_cases hlt2 : m < ts.length
          · rw [List.getElem?_append_left hlt2] at hm
            obtain ⟨e', h1, h2⟩ := ok2 m t' hm
            refine ⟨e', h1, ?_⟩
            rw [upd_ne (fun z => by rw [z, e2] at h2; cases h2)]
            exact St _ _ h2
          · rw [List.getElem?_append_right (by omega)] at hm
            have z : m - ts.length = 0 := by
              by_cases q : m - ts.length = 0
              · exact q
              · rw [List.getElem?_eq_none (by simp; omega)] at hm
                cases hm
            rw [z] at hm
            cases hm
            have mj : m = j := by omega
            subst mj
            exact ⟨en, he, by rw [upd_ne n2.symm]; exact upd_same⟩
      · obtain ⟨ts, e2, lt2, s2, ok2⟩ := hP2
        have eD4 := s2 _ _ eD
        have nDD : D2 ≠ D := (ne_of_none eD hD2).symm
        have row : RowAt G D2 ((rowC c t).map fun e => (e.1, o.idxOf e.2)) := ⟨ts, e2, by rw [List.length_map, lt2, lw], fun m t' hm => by
          obtain ⟨e', h1, h2⟩ := ok2 m t' hm
          exact ⟨_, by rw [List.getElem?_map, h1]; rfl, h2⟩⟩
        refine ⟨_, eD4, by rw [List.length_map, ll, sizeLine_eq]; have := nodup_len nd lt; omega, ls ++ [D2], by rw [upd_same, List.map_append]; rfl, by rw [List.length_append, ll]; rfl, fun b' u eb' => ?_, fun m l hm => ?_⟩
        · rw [upd_ne (ne_of_none eb' hD)]
          exact s2 _ _ (s1 _ _ eb')
        · by_cases hlt2 : m < ls.length
          · rw [List.getElem?_append_left hlt2] at hm
            obtain ⟨nl, t', h1, h2⟩ := rows m l hm
            exact ⟨nl, t', h1, h2.keep nl eD fun b' u nb eb' => by rw [upd_ne nb]; exact s2 _ _ eb'⟩
          · rw [List.getElem?_append_right (by omega)] at hm
            have z : m - ls.length = 0 := by
              by_cases q : m - ls.length = 0
              · exact q
              · rw [List.getElem?_eq_none (by simp; omega)] at hm
                cases hm
            rw [z] at hm
            cases hm
            have mj : m = i := by omega
            subst mj
            exact ⟨nDD, t, et, row.keep nDD eD4 fun b' u nb eb' => by rw [upd_ne nb]; exact eb'⟩
    · obtain ⟨ls, eD, ll, s1, rows⟩ := hP
      refine k D H' (Same.trans S1 s1) (none_of S1 hD) ?_
      refine .lst eD (dxAll_of (by rw [List.length_map, List.length_map, ll, lo, keptF_length, ro]) fun j v hv => ?_)
      rw [List.getElem?_map] at hv
      cases el : ls[j]? with
      | none => rw [el] at hv; cases hv
      | some l =>
        rw [el] at hv
        cases hv
        obtain ⟨_, t, et, ra⟩ := rows j l el
        refine ⟨_, ?_, ra.dx⟩
        unfold keptF
        rw [ro, List.getElem?_map, List.getElem?_map, et]
        rfl
end
end K52
end

section
set_option maxHeartbeats 4000000
/-! the same table turned, and with more behind -/
namespace K52
open PySem
def turnF (c : Ch) (sp : List Nat) : Ch := sp.map fun s => (rowC c s).map fun e => (e.1, sp.idxOf e.2)
theorem turnF_row {c : Ch} {sp : List Nat} {i : Nat} (h : i < sp.length) : rowC (turnF c sp) i = (rowC c sp[i]).map fun e => (e.1, sp.idxOf e.2) := by
  unfold rowC turnF
  rw [List.getD_eq_getElem?_getD, List.getElem?_map, List.getElem?_eq_getElem h]
  rfl
theorem turned_kept {c : Ch} {sp : List Nat} (w : WfC c) (nd : sp.Nodup) (mem : ∀ t, t ∈ sp ↔ t < c.length) (h0 : sp[0]? = some 0) : WfC (turnF c sp) ∧ keptF (turnF c sp) = keptF c := by
  have pos : 0 < sp.length := (List.getElem?_eq_some_iff.mp h0).1
  have tl : (turnF c sp).length = sp.length := by unfold turnF; rw [List.length_map]
  have row_lt : ∀ (i : Nat) (h : i < sp.length), ∀ e ∈ rowC c sp[i], e.2 ∈ sp := fun i h e he => (mem _).mpr (rowC_lt w he)
  have wf : WfC (turnF c sp) := by
    refine ⟨by rw [tl]; exact pos, fun r hr e he => ?_⟩
    unfold turnF at hr
    obtain ⟨s, hs, rfl⟩ := List.mem_map.mp hr
    obtain ⟨e', he', rfl⟩ := List.mem_map.mp he
    rw [tl]
    exact List.idxOf_lt_length_of_mem ((mem _).mpr (rowC_lt w he'))
  refine ⟨wf, ?_⟩
  have I : Iso c (turnF c sp) (fun i => sp.getD i 0) (fun i => i < sp.length) := {
    z := by rw [List.getD_eq_getElem?_getD, h0]; rfl
    d0 := pos
    row := fun i hi => by
      rw [turnF_row hi, List.map_map, List.getD_eq_getElem?_getD, List.getElem?_eq_getElem hi]
      refine (List.map_id (rowC c sp[i])).symm.trans (List.map_congr_left fun e he => ?_)
      have m := row_lt i hi e he
      show e = (e.1, sp.getD (sp.idxOf e.2) 0)
      rw [List.getD_eq_getElem?_getD, List.getElem?_eq_getElem (List.idxOf_lt_length_of_mem m), List.getElem_idxOf]
      rfl
    closed := fun i hi e he => by
      rw [turnF_row hi] at he
      obtain ⟨e', he', rfl⟩ := List.mem_map.mp he
      exact List.idxOf_lt_length_of_mem (row_lt i hi e' he')
    inj := fun x y hx hy e => by
      have e : sp.getD x 0 = sp.getD y 0 := e
      rw [List.getD_eq_getElem?_getD, List.getD_eq_getElem?_getD, List.getElem?_eq_getElem hx, List.getElem?_eq_getElem hy] at e
      exact (List.getElem_inj (h₀ := hx) (h₁ := hy) nd).mp e }
  exact (I.kept w wf).symm
theorem wider_kept {c x : Ch} (w : WfC c) (w' : WfC (c ++ x)) : keptF (c ++ x) = keptF c := by
  have I : Iso (c ++ x) c id (fun i => i < c.length) := {
    z := rfl
    d0 := w.1
    row := fun i hi => by
      show rowC (c ++ x) i = (rowC c i).map fun e => (e.1, e.2)
      rw [show (fun e : Str × Nat => (e.1, e.2)) = id from rfl, List.map_id]
      unfold rowC
      rw [List.getD_eq_getElem?_getD, List.getD_eq_getElem?_getD, List.getElem?_append_left hi]
    closed := fun i hi e he => rowC_lt w he
    inj := fun x y _ _ e => e }
  exact I.kept w' w
end K52
end

section
set_option maxHeartbeats 4000000
/-! what is told of a coder -/
namespace K52
open PySem PySem.Spec PyProof.Rows L2
/-- what is read off a Coder -/
structure CoderP (K : PySem.W.Frag) (mg : Str → Option Value) (ad : Str → Addr) (fd : Str → FuncData) : Prop where
  pr : PropOf K (ad "Coder") "rate" (ad "Coder.rate!") (ad "Coder.rate")
  pl : PropOf K (ad "Coder") "lead" (ad "Coder.lead!") (ad "Coder.lead")
  m_codes : Meth K (ad "Coder") "codes" (ad "Coder.codes")
def toldD (p q : Int) (lead : Str) (c : Ch) : PyData := .list [.str (strP p q), .str lead, chD c, .int (c.length : Int)]
def spTold (C R : Addr) : Sp := fun vs H Q _ => ∃ (a : Addr) (p q : Int) (c : Ch) (lead : Str), vs = [.ref a] ∧ CodO C R H a p q c lead ∧ fitP p q ∧ c.length ≤ 1000 ∧ ∀ (l : Addr) (H' : Hp), Same H H' → H l = none → Dx H' (.ref l) (toldD p q lead c) → Q (.ref l) H'
section
variable {P : Program} {w : World} {K : PySem.W.Frag} {mg : Str → Option Value} {base : Heap} {ad : Str → Addr} {fd : Str → FuncData}
theorem scTold : FnScope ["_law_made_here"] ["_law_made_here"] (defScope sTold) := ⟨rfl, rfl, rfl, by decide +kernel, rfl, by decide +kernel, by decide +kernel⟩
theorem ok_told (X : Tx K mg ad fd) (RC : RateC K mg ad fd) (CC : CoderC K mg ad fd) (CM : CoderM K mg ad fd) (CH : CoderW K mg ad fd) (CP : CoderP K mg ad fd) : FnOk P w K mg base CX0 4 (ad "_law_told") (fd "_law_told") ["_law_made_here"] (spTold (ad "Coder") (ad "Rate")) := by
  refine X.F__law_told.ok scTold (fun vs H Q E h => ?_) (fun cdv A outer s H vs Q E hr h => ?_)
  · obtain ⟨a, p, q, c, lead, rfl, _⟩ := h
    rfl
  · obtain ⟨a, p, q, c, lead, rfl, cod, fit, cl, k⟩ := h
    have HR3 : Room 3 _ := hr
    have HR2 : Room 2 _ := hr.mono (by decide)
    have HR1 : Room 1 _ := hr.mono (by decide)
    refine ⟨_, (pss_one (ps_ret (by exact (pe_lst (pa_cons (pe_callTy (call_strO (ok_str RC) HR3 RC.b_str RC.st RC.stf) (by rfl) X.m_str (by decide +kernel) (pa_cons (pe_prop (pv 0) CC.cl CP.pr (ok_crate CC CM) HR2 CM.b_rate .nil pass0 rfl) pa_nil)) (pa_cons (pe_prop (pv 0) CC.cl CP.pl (ok_clead CC CM) HR2 CM.b_lead .nil pass0 rfl) (pa_cons (pe_meth0 (pv 0) CC.cl CP.m_codes (ok_ccodes X CC CM) HR1 CM.b_codes .nil pass0) (pa_cons (pe_callB (call_lenO (ok_clen X CC CM) HR2 CM.b_len CH.ln CH.lnf) (by rfl) X.m_len (by decide +kernel) (pa_cons (pv 0) pa_nil)) pa_nil)))))))), ?_⟩
    obtain ⟨dx, r, l0, e, ho, hd⟩ := id cod
    refine ⟨.ref a, rfl, a, dx, _, rfl, e, a, p, q, c, lead, rfl, cod, fun r hr' => ?_⟩
    obtain ⟨dr, er⟩ := id hr'
    refine ⟨r, dr, _, rfl, er, r, p, q, rfl, hr', fit, _, rfl, .ref a, rfl, a, dx, _, rfl, e, a, p, q, c, lead, rfl, cod, .ref a, rfl, a, dx, _, rfl, e, rfl, a, p, q, c, lead, rfl, cod, cl, fun lc H1 s1 hn dc => ?_⟩
    refine ⟨.ref a, rfl, a, dx, _, rfl, s1 _ _ e, a, p, q, c, lead, rfl, cod.same s1, _, rfl, ⟨by omega, by omega⟩, (by show 4 ≤ sizeLine; decide), fun l hl => ?_⟩
    have Sl := Same.new hl (o := .lst [V.str (strP p q), .str lead, .ref lc, .int (c.length : Int)])
    exact k l _ (Same.trans s1 Sl) (none_of s1 hl) (.lst upd_same (.cons (.str _) (.cons (.str _) (.cons (dc.same Sl) (.cons (.int _) .nil)))))
end
end K52
end

section
set_option maxHeartbeats 4000000
/-! words drawn -/
namespace K52
open PySem PySem.Spec PyProof.Rows L2
theorem ix_tupK {X : Cx} {K : PySem.W.Frag} (e : X.K = K) : IxR X (rIxT K) := by
  subst e
  exact ix_tup
def spWords : Sp := fun vs H Q _ => ∃ (pt pc : Addr) (p q : Int) (n : Nat), vs = [.ref pt, .ref pc, .int (n : Int)] ∧ PotAt H pt ∧ H pc = some (.tup [.int p, .int q]) ∧ fitP p q ∧ n ≤ 200 ∧
  ∀ (l : Addr) (ws : List Nat) (H' : Hp), But pt H H' → PotAt H' pt → H l = none → H' l = some (.lst (intsV ws)) → ws.length = n → (∀ w ∈ ws, (w : Int) < 2 ^ p.toNat) → Q (.ref l) H'
section
variable {P : Program} {w : World} {K : PySem.W.Frag} {mg : Str → Option Value} {base : Heap} {ad : Str → Addr} {fd : Str → FuncData}
theorem scWords : FnScope ["_law_pot_here", "_law_pace", "_law_size", "_law_turn"] ["_law_pot_here", "_law_pace", "_law_size"] (defScope sWords) := ⟨rfl, rfl, rfl, by decide +kernel, rfl, by decide +kernel, by decide +kernel⟩
theorem ok_words (X : Tx K mg ad fd) : FnOk P w K mg base CX0 2 (ad "_law_words") (fd "_law_words") ["_law_pot_here", "_law_pace", "_law_size"] spWords := by
  have G__law_draw := ok_draw (P := P) (w := w) (base := base) X
  refine X.F__law_words.ok scWords (fun vs H Q E h => ?_) (fun cdv A outer s H vs Q E hr h => ?_)
  · obtain ⟨pt, pc, p, q, n, rfl, _⟩ := h
    rfl
  · obtain ⟨pt, pc, p, q, n, rfl, hp, epc, fit, hn, k⟩ := h
    have HR__law_draw := hr
    refine ⟨_, (pss_one (ps_ret (by exact (pe_lc (own := [("_law_turn", 3)]) (g := gName 3) rfl scWords.nd (pi_range1 (by rfl) X.m_range (pa_cons (pv 2) pa_nil)) (blkOk_by (own := [("_law_turn", 3)]) (N := ["_law_pot_here", "_law_pace", "_law_size", "_law_turn"]) (sc := defScope sWords) (by decide +kernel)) (fun _ _ _ _ _ => pg_name (i := 3) scWords.nd rfl (Or.inl rfl)) (fun _ _ _ _ _ => pts_nil) (fun _ _ _ _ _ => (pe_call G__law_draw HR__law_draw (by rfl) X.g__law_draw X.F__law_draw.kp X.b__law_draw .nil pass0 (pa_cons (pv 0) (pa_cons (pe_op op_shl pe_int (pe_ix (ix_tupK (K := K) rfl) (pv 1) pe_int (fun _ _ => rfl))) pa_nil)))))))), ?_⟩
    refine ⟨.int (n : Int), rfl, (n : Int), rfl, by omega, by omega, fun D hD => ?_⟩
    have nDp : D ≠ pt := hp.ne hD
    have npc : pc ≠ pt := fun z => by
      obtain ⟨x, y, ep, _⟩ := hp
      rw [z, ep] at epc; cases epc
    have pw : (1 : Int) ≤ 2 ^ p.toNat := by
      have : 0 < (2 : Int) ^ p.toNat := Int.pow_pos (by decide)
      omega
    have pw2 : (2 : Int) ^ p.toNat ≤ 64 := by
      have h2 : ∀ k : Nat, k ≤ 6 → (2 : Int) ^ k ≤ 64 := by decide
      exact h2 _ (by have := fit.2.1; omega)
    refine lc_range (lo := 0) (n := (n : Int).toNat) (fun i H' => But pt H H' ∧ PotAt H' pt ∧ ∃ ws : List Nat, H' D = some (.lst (intsV ws)) ∧ ws.length = i ∧ ∀ w ∈ ws, (w : Int) < 2 ^ p.toNat)
      ⟨But.same (Same.new hD), hp.same (Same.new hD), [], upd_same, rfl, fun w hw => by cases hw⟩ (fun i H' hi hP => ?_) (fun H' hP => ?_)
    · obtain ⟨b1, hp1, ws, eD, lw, wl⟩ := hP
      refine ⟨rfl, yes_of (iteT ?_)⟩
      refine ⟨.ref pt, rfl, .ref pc, rfl, pc, _, 0, .int p, rfl, rfl, SqT.of (b1 _ _ npc epc), atI_nat (j := 0) rfl, 1, p, rfl, rfl, (by have h1 := fit.1; have h2 := fit.2.1; refine ⟨?_, ?_, ?_⟩ <;> first | omega | decide), pt, 1 * 2 ^ p.toNat, rfl, hp1, by omega, log_small (by omega) (by omega), fun d H2 d0 d1 hp2 b2 => ?_⟩
      obtain ⟨w, rfl⟩ := Int.eq_ofNat_of_zero_le d0
      have eD2 := b2 _ _ nDp eD
      refine ⟨_, eD2, by unfold intsV; rw [List.length_map, lw, sizeLine_eq]; omega, fun b o nb eb => ?_, ?_, ws ++ [w], ?_, by rw [List.length_append, lw]; rfl, fun x hx => ?_⟩
      · rw [upd_ne (ne_of_none eb hD)]
        exact b2 _ _ nb (b1 _ _ nb eb)
      · obtain ⟨x, y, ep, kp⟩ := hp2
        exact ⟨x, y, (upd_ne nDp.symm).trans ep, kp⟩
      · rw [upd_same]
        unfold intsV
        rw [List.map_append]
        rfl
      · rcases List.mem_append.mp hx with hx | hx
        · exact wl x hx
        · rw [List.mem_singleton.mp hx]
          omega
    · obtain ⟨b1, hp1, ws, eD, lw, wl⟩ := hP
      exact k D ws H' b1 hp1 hD eD (by omega) wl
end
end K52
end

section
set_option maxHeartbeats 4000000
/-! a coder is made -/
namespace K52
open PySem PySem.Spec PyProof.Rows L2
theorem made_at {C N : Addr} {H : Hp} {a b : V} {d e : PyData} {E : XK} (ha : Dx H a d) (hb : Dx H b e) (ta : Tame d) (tb : Tame e) (q1 : rateD d = false → Err N E H a) (q2 : rateD d = true → rateD e = false → Err N E H b) {x dx : Addr} (hx : H x = none) (hd : H dx = none) (ne : dx ≠ x) {φ : Hp → Prop}
    (q3 : ∀ p q, d = .int p → e = .int q → fitP p q → ∀ (H' : Hp), Same H H' → RatO C H' x p q → φ H') : spInit C N ([.ref x, a, b] ++ []) (upd (upd H dx (.own x)) x (.ins C dx [])) (fun v H2 => v = .non ∧ φ H2) E := by
  obtain ⟨x', dx', a', b', d', e', y, h1, h2, h3, h4, h5, h6, h7, h8⟩ := made (Q := fun v H' => v = .ref x → φ H') ha hb ta tb q1 q2 (fun p q ed ee f H' r s hr ho er => by
    obtain rfl : r = x := V.ref.inj er
    exact q3 p q ed ee f H' s ho) x dx hx hd ne
  exact ⟨x', dx', a', b', d', e', y, h1, h2, h3, h4, h5, h6, h7, fun p q i j k l H' m n => ⟨rfl, (h8 p q i j k l H' m n).2 rfl⟩⟩
theorem passes_no {X : Cx} : Passes (L2.CX X.prog X.w) X E0 := fun _ _ _ _ _ _ _ ⟨_, _, _, _, _, _, _, _, _, _, _, _, z⟩ => z.elim
theorem rate_six {i : Int} (h1 : 1 ≤ i) (h2 : i ≤ 6) : rateD (.int i) = true := by
  show (decide (1 ≤ i) && decide (i ≤ 6)) = true
  rw [decide_eq_true h1, decide_eq_true h2]; rfl
def spMadeC (C R : Addr) : Sp := fun vs H Q _ => ∃ (pc : Addr) (v : V) (p q : Int) (c : Ch) (lead : Str), vs = [.ref pc, v, .str lead] ∧ H pc = some (.tup [.int p, .int q]) ∧ fitP p q ∧ Dx H v (chD c) ∧ okCh p q c ∧ okRow lead ∧
  ∀ (a : Addr) (H' : Hp), Same H H' → H a = none → CodO C R H' a p q (keptF c) lead → Q (.ref a) H'
section
variable {P : Program} {w : World} {K : PySem.W.Frag} {mg : Str → Option Value} {base : Heap} {ad : Str → Addr} {fd : Str → FuncData}
theorem scMade : FnScope ["_law_pace", "_law_chart", "_law_start"] ["_law_pace", "_law_chart", "_law_start"] (defScope sMade) := ⟨rfl, rfl, rfl, by decide +kernel, rfl, by decide +kernel, by decide +kernel⟩
theorem ok_made (X : Tx K mg ad fd) (RC : RateC K mg ad fd) {N fN : Addr} (LN : ErrV K mg "InvalidNumber" N fN) (CC : CoderC K mg ad fd) : FnOk P w K mg base CX0 7 (ad "_law_made") (fd "_law_made") ["_law_pace", "_law_chart", "_law_start"] (spMadeC (ad "Coder") (ad "Rate")) := by
  have G_init := ok_init (P := P) (w := w) (base := base) X RC LN
  have G_cinit := ok_cinit (P := P) (w := w) (base := base) X RC CC
  refine X.F__law_made.ok scMade (fun vs H Q E h => ?_) (fun cdv A outer s H vs Q E hr h => ?_)
  · obtain ⟨pc, v, p, q, c, lead, rfl, _⟩ := h
    rfl
  · obtain ⟨pc, v, p, q, c, lead, rfl, epc, fit, hd, oc, ol, k⟩ := h
    have HR_cinit : Room (5 + 1) _ := hr
    have HR_init : Room (4 + 1) _ := hr.mono (by decide)
    have PASS := passes_no (X := (cxOf CX0 P w K mg base ["_law_pace", "_law_chart", "_law_start"] "_law_made" (defScope sMade) (ad "_law_made") cdv A outer s H E).nox)
    refine ⟨_, (pss_one (ps_ret (by exact (pe_make CC.mks G_cinit HR_cinit (by rfl) CC.G CC.b_init .nil pass0 (pa_cons (pe_make RC.mks G_init HR_init (by rfl) RC.G RC.b_init .nil PASS (pa_cons (pe_ix ix_tup (pv 0) pe_int (fun _ _ => rfl)) (pa_cons (pe_ix ix_tup (pv 0) pe_int (fun _ _ => rfl)) pa_nil))) (pa_cons (pv 1) (pa_cons (pv 2) pa_nil))))))), ?_⟩
    have rp := rate_six fit.1 fit.2.1
    have rq := rate_six fit.2.2.1 fit.2.2.2
    refine ⟨.ref pc, rfl, pc, _, 0, .int p, rfl, rfl, SqT.of epc, atI_nat (j := 0) rfl, .ref pc, rfl, pc, _, 1, .int q, rfl, rfl, SqT.of epc, atI_nat (j := 1) rfl, fun x dx hx hdx ne => ?_⟩
    refine made_at (.int p) (.int q) (tame_int (by have := fit.1; have := fit.2.1; omega)) (tame_int (by have := fit.2.2.1; have := fit.2.2.2; omega)) (fun z => absurd (z.symm.trans rp) (by decide)) (fun _ z => absurd (z.symm.trans rq) (by decide)) hx hdx ne fun p' q' e e' f' H1 s1 ho => ?_
    cases e
    cases e'
    refine ⟨v, rfl, .str lead, rfl, fun y dy hy hdy ney => ?_⟩
    have S2 : Same H1 (upd (upd H1 dy (.own y)) y (.ins (ad "Coder") dy [])) := fun b o eb => by
      rw [upd_ne (ne_of_none eb hy), upd_ne (ne_of_none eb hdy)]
      exact eb
    refine ⟨y, dy, x, v, c, lead, p, q, rfl, upd_same, ho.same S2, fit, (hd.same s1).same S2, oc, ol, fun H3 l b3 e3 h3 d3 => ⟨rfl, ?_⟩⟩
    refine k y H3 (fun b o eb => b3 _ _ (ne_of_none (s1 _ _ eb) hy) (S2 _ _ (s1 _ _ eb))) (none_of s1 hy) ⟨dy, x, l, e3, h3, d3⟩
end
end K52
end

section
set_option maxHeartbeats 4000000
/-! mixed -/
namespace K52
open PySem PySem.Spec PyProof.Rows L2
def spMixed : Sp := fun vs H Q _ => ∃ (pt l : Addr) (os : List Nat), vs = [.ref pt, .ref l] ∧ PotAt H pt ∧ H l = some (.lst (intsV os)) ∧ os.length ≤ 1000 ∧
  ∀ (m : Addr) (ms : List Nat) (H' : Hp), But pt H H' → PotAt H' pt → H m = none → H' m = some (.lst (intsV ms)) → ms.Perm os → Q (.ref m) H'
theorem erase_map {α β : Type} (f : α → β) : ∀ (l : List α) (k : Nat), (l.map f).eraseIdx k = (l.eraseIdx k).map f
  | [], _ => rfl
  | _ :: _, 0 => rfl
  | x :: l, k + 1 => congrArg (f x :: ·) (erase_map f l k)
theorem seq_at {j n : Nat} (h : j < n) : seqIndex? (j : Int) n = some j := by
  unfold seqIndex?
  have h0 : ¬ (j : Int) < 0 := by omega
  simp only [h0, if_false]
  rw [if_pos (by simp; omega)]
  simp
theorem perm_at : ∀ {ls : List Nat} {k : Nat} (h : k < ls.length), (ls[k] :: ls.eraseIdx k).Perm ls
  | [], _, h => absurd h (Nat.not_lt_zero _)
  | x :: r, 0, h => List.Perm.refl _
  | x :: r, k + 1, h => (List.Perm.swap x (r[k]'(Nat.lt_of_succ_lt_succ h)) (r.eraseIdx k)).trans ((perm_at (ls := r) (k := k) (Nat.lt_of_succ_lt_succ h)).cons x)
theorem perm_pop {fs ls : List Nat} {k : Nat} (h : k < ls.length) : ((fs ++ [ls[k]]) ++ ls.eraseIdx k).Perm (fs ++ ls) := by
  rw [List.append_assoc]
  refine List.Perm.append_left fs ?_
  show (ls[k] :: ls.eraseIdx k).Perm ls
  exact perm_at h
section
variable {P : Program} {w : World} {K : PySem.W.Frag} {mg : Str → Option Value} {base : Heap} {ad : Str → Addr} {fd : Str → FuncData}
theorem scMixed : FnScope ["_law_pot_here", "_law_some", "_law_left", "_law_found", "_law_turn"] ["_law_pot_here", "_law_some"] (defScope sMixed) := ⟨rfl, rfl, rfl, by decide +kernel, rfl, by decide +kernel, by decide +kernel⟩
theorem ok_mixed (X : Tx K mg ad fd) : FnOk P w K mg base CX0 2 (ad "_law_mixed") (fd "_law_mixed") ["_law_pot_here", "_law_some"] spMixed := by
  have G__law_draw := ok_draw (P := P) (w := w) (base := base) X
  refine X.F__law_mixed.ok scMixed (fun vs H Q E h => ?_) (fun cdv A outer s H vs Q E hr h => ?_)
  · obtain ⟨pt, l, os, rfl, _⟩ := h
    rfl
  · obtain ⟨pt, l, os, rfl, hp, el, lo, k⟩ := h
    have HR__law_draw := hr
    refine ⟨_, (pss_cons (ps_par (i := 2) (j := 3) rfl scMixed.nd rfl rfl (by decide) rfl rfl (by exact (pa_cons (pe_callTy call_list_of (by rfl) X.m_list (by decide +kernel) (pa_cons (pv 1) pa_nil)) (pa_cons (pe_lst pa_nil) pa_nil))) (by rfl))
  (pss_cons (ps_for PassesOwn.never rfl (pi_range1 (by rfl) X.m_range (pa_cons (pe_callB call_len (by rfl) X.m_len (by decide +kernel) (pa_cons (pv 2) pa_nil)) pa_nil)) (pg_name (i := 4) scMixed.nd rfl (.inl rfl))
  (pss_one (ps_expr (by exact (pe_bm PySem.F.plainAttrs_list PySem.F.slot_list_append PySem.F.type_list_append mt_append (pv 3) (pa_cons (pe_bm PySem.F.plainAttrs_list PySem.F.slot_list_pop PySem.F.type_list_pop mt_popAt (pv 2) (pa_cons (pe_call G__law_draw HR__law_draw (by rfl) X.g__law_draw X.F__law_draw.kp X.b__law_draw .nil pass0 (pa_cons (pv 0) (pa_cons (pe_callB call_len (by rfl) X.m_len (by decide +kernel) (pa_cons (pv 2) pa_nil)) pa_nil))) pa_nil)) pa_nil))))))
  (pss_one (ps_ret (by exact (pv 3)))))), ?_⟩
    refine ⟨.ref l, rfl, l, _, rfl, .inl (SqL.of el), fun L hL => ⟨Nat.zero_le _, fun F hF => ⟨_, _, rfl, ?_⟩⟩⟩
    have nLF : L ≠ F := ne_of_none upd_same hF
    have SL := Same.new hL (o := .lst (intsV os))
    have SF := Same.new hF (o := .lst [])
    have nLp : L ≠ pt := hp.ne hL
    have nFp : F ≠ pt := (hp.same SL).ne hF
    have eL := SF _ _ (upd_same (H := H) (a := L) (o := .lst (intsV os)))
    have eF := upd_same (H := upd H L (.lst (intsV os))) (a := F) (o := .lst [])
    have hFH : H F = none := none_of SL hF
    have li : (intsV os).length = os.length := by unfold intsV; rw [List.length_map]
    refine ⟨.ref L, rfl, .ref L, _, rfl, .inl ⟨_, SqL.of eL, rfl⟩, _, rfl, by rw [li]; omega, by rw [li]; omega, ?_⟩
    have S0 := Same.trans SL SF
    have hp0 := hp.same S0
    generalize (upd (upd H L (.lst (intsV os))) F (.lst [])) = H0 at eL eF S0 hp0 ⊢
    refine for_range (lo := 0) (n := ((intsV os).length : Int).toNat) (fun i σ H' => ∃ (r4 : Option V) (fs ls : List Nat), σ = [some (.ref pt), some (.ref l), some (.ref L), some (.ref F), r4] ∧ But pt H H' ∧ PotAt H' pt ∧ H' L = some (.lst (intsV ls)) ∧ H' F = some (.lst (intsV fs)) ∧ (fs ++ ls).Perm os ∧ fs.length = i)
      ⟨_, [], os, rfl, But.same S0, hp0, eL, eF, List.Perm.refl _, rfl⟩ ?_ ?_
    · rintro i σ H1 hi ⟨r4, fs, ls, rfl, b1, hp1, eL1, eF1, pm, lf⟩
      have ll : (intsV ls).length = ls.length := by unfold intsV; rw [List.length_map]
      have lp := pm.length_eq
      rw [List.length_append] at lp
      have lpos : 0 < ls.length := by omega
      refine ⟨.ref F, rfl, .inl ⟨rfl, _, SqL.of eF1⟩, .ref L, rfl, .inl ⟨rfl, _, SqL.of eL1⟩, .ref pt, rfl, .ref L, rfl, .ref L, _, rfl, .inl ⟨_, SqL.of eL1, rfl⟩, pt, _, rfl, hp1, by rw [ll]; omega, log_small (by omega) (by rw [ll]; omega), fun d H2 d0 d1 hp2 b2 => ?_⟩
      obtain ⟨j, rfl⟩ := Int.eq_ofNat_of_zero_le d0
      rw [ll] at d1
      have hj : j < ls.length := by omega
      have eL2 := b2 _ _ nLp eL1
      have eF2 := b2 _ _ nFp eF1
      have sj : seqIndex? (j : Int) (intsV ls).length = some j := seq_at (by rw [ll]; exact hj)
      have gj : (intsV ls)[j]? = some (.int (ls[j] : Int)) := by
        unfold intsV
        rw [List.getElem?_map, List.getElem?_eq_getElem hj]
        rfl
      refine ⟨L, _, (j : Int), j, _, rfl, rfl, eL2, by omega, by omega, sj, gj, ?_⟩
      have eF3 : (upd H2 L (.lst ((intsV ls).eraseIdx j))) F = some (.lst (intsV fs)) := (upd_ne nLF.symm).trans eF2
      have lff : (intsV fs).length = fs.length := by unfold intsV; rw [List.length_map]
      refine ⟨F, _, _, rfl, rfl, eF3, by rw [lff, sizeLine_eq]; omega, ?_⟩
      refine ⟨_, fs ++ [ls[j]], ls.eraseIdx j, rfl, fun b o nb eb => ?_, ?_, ?_, ?_, (perm_pop hj).trans pm, by rw [List.length_append, lf]; rfl⟩
      · rw [upd_ne (ne_of_none eb hFH), upd_ne (ne_of_none eb hL)]
        exact b2 _ _ nb (b1 _ _ nb eb)
      · obtain ⟨x, y, ep, kp⟩ := hp2
        exact ⟨x, y, (upd_ne nFp.symm).trans ((upd_ne nLp.symm).trans ep), kp⟩
      · rw [upd_ne nLF, upd_same]
        unfold intsV
        rw [erase_map]
      · rw [upd_same]
        unfold intsV
        rw [List.map_append]
        rfl
    · rintro σ H1 ⟨r4, fs, ls, rfl, b1, hp1, eL1, eF1, pm, lf⟩
      have lp := pm.length_eq
      rw [List.length_append] at lp
      have l0 : ls = [] := List.length_eq_zero_iff.mp (by omega)
      subst l0
      rw [List.append_nil] at pm
      exact ⟨.ref F, rfl, k F fs H1 b1 hp1 hFH eF1 pm⟩
end
end K52
end

section
set_option maxHeartbeats 4000000
/-! charts on the heap -/
namespace K52
open PySem PySem.Spec PyProof.Rows L2
theorem ref_inj {a b : List Addr} (h : a.map V.ref = b.map V.ref) : a = b := by
  induction a generalizing b with
  | nil => cases b with
    | nil => rfl
    | cons y b => cases h
  | cons x a ih => cases b with
    | nil => cases h
    | cons y b =>
      rw [List.map_cons, List.map_cons] at h
      obtain ⟨h1, h2⟩ := List.cons.inj h
      rw [V.ref.inj h1, ih h2]
theorem refs_not_pot {H : Hp} {pt a : Addr} {ls : List Addr} (hp : PotAt H pt) (e : H a = some (.lst (ls.map V.ref))) : a ≠ pt := fun z => by
  obtain ⟨x, y, ep, _⟩ := hp
  rw [z, ep] at e
  match ls, e with
  | [], e => cases e
  | _ :: _, e => cases e
theorem tup_not_pot {H : Hp} {pt a : Addr} {xs : List V} (hp : PotAt H pt) (e : H a = some (.tup xs)) : a ≠ pt := fun z => by
  obtain ⟨x, y, ep, _⟩ := hp
  rw [z, ep] at e
  cases e
/-- the entries stand at ts -/
def EntsAt (H : Hp) (ts : List Addr) (r : List (Str × Nat)) : Prop := ts.length = r.length ∧ ∀ (j : Nat) (t : Addr), ts[j]? = some t → ∃ e, r[j]? = some e ∧ H t = some (.tup [.str e.1, .int e.2])
theorem EntsAt.nil {H : Hp} : EntsAt H [] [] := ⟨rfl, fun j t z => by cases z⟩
theorem EntsAt.mono {H H' : Hp} {ts : List Addr} {r : List (Str × Nat)} (h : EntsAt H ts r) (s : ∀ a xs, H a = some (.tup xs) → H' a = some (.tup xs)) : EntsAt H' ts r :=
  ⟨h.1, fun j t z => let ⟨e, h1, h2⟩ := h.2 j t z; ⟨e, h1, s _ _ h2⟩⟩
theorem at_snoc {α β : Type} {as : List α} {bs : List β} (l : as.length = bs.length) {a : α} {b : β} {j : Nat} {x : α} (h : (as ++ [a])[j]? = some x) : (as[j]? = some x ∧ ∀ y, bs[j]? = some y → (bs ++ [b])[j]? = some y) ∨ (x = a ∧ (bs ++ [b])[j]? = some b) := by
  by_cases q : j < as.length
  · rw [List.getElem?_append_left q] at h
    exact .inl ⟨h, fun y hy => by rw [List.getElem?_append_left (by omega)]; exact hy⟩
  · rw [List.getElem?_append_right (by omega)] at h
    have z : j - as.length = 0 := by
      by_cases q : j - as.length = 0
      · exact q
      · rw [List.getElem?_eq_none (by simp; omega)] at h
        cases h
    rw [z] at h
    cases h
    have : j = bs.length := by omega
    subst this
    exact .inr ⟨rfl, by simp⟩
theorem EntsAt.snoc {H : Hp} {ts : List Addr} {r : List (Str × Nat)} (h : EntsAt H ts r) {t : Addr} {e : Str × Nat} (ht : H t = some (.tup [.str e.1, .int e.2])) : EntsAt H (ts ++ [t]) (r ++ [e]) := by
  refine ⟨by rw [List.length_append, List.length_append, h.1]; rfl, fun j x hx => ?_⟩
  rcases at_snoc (b := e) h.1 hx with ⟨h1, h2⟩ | ⟨rfl, h2⟩
  · obtain ⟨e', h3, h4⟩ := h.2 j x h1
    exact ⟨e', h2 _ h3, h4⟩
  · exact ⟨e, h2, ht⟩
theorem RowAt.ents {H : Hp} {l : Addr} {ts : List Addr} {r : List (Str × Nat)} (e : H l = some (.lst (ts.map V.ref))) (h : EntsAt H ts r) : RowAt H l r := ⟨ts, e, h.1, h.2⟩
theorem RowAt.mono {H H' : Hp} {l : Addr} {r : List (Str × Nat)} (h : RowAt H l r) (s : ∀ a xs, H a = some (.tup xs) → H' a = some (.tup xs)) (s' : ∀ ls : List Addr, H l = some (.lst (ls.map V.ref)) → H' l = some (.lst (ls.map V.ref))) : RowAt H' l r := by
  obtain ⟨ts, e, hl, k⟩ := h
  exact ⟨ts, s' _ e, hl, fun j t z => let ⟨e, h1, h2⟩ := k j t z; ⟨e, h1, s _ _ h2⟩⟩
theorem RowAt.but {H H' : Hp} {pt l : Addr} {r : List (Str × Nat)} (h : RowAt H l r) (hp : PotAt H pt) (b : But pt H H') : RowAt H' l r :=
  h.mono (fun a xs e => b _ _ (tup_not_pot hp e) e) fun ls e => b _ _ (refs_not_pot hp e) e
theorem RowAt.same {H H' : Hp} {l : Addr} {r : List (Str × Nat)} (h : RowAt H l r) (s : Same H H') : RowAt H' l r :=
  h.mono (fun a xs e => s _ _ e) fun ls e => s _ _ e
/-- a row of rows stands at F, its rows at ls -/
structure ChL (H : Hp) (F : Addr) (ls : List Addr) (c : Ch) : Prop where
  e : H F = some (.lst (ls.map V.ref))
  l : ls.length = c.length
  k : ∀ (m : Nat) (l' : Addr), ls[m]? = some l' → ∃ r, c[m]? = some r ∧ RowAt H l' r
theorem ChL.dx {H : Hp} {F : Addr} {ls : List Addr} {c : Ch} (h : ChL H F ls c) : Dx H (.ref F) (chD c) := chD_of h.e h.l h.k
theorem ChL.of {H : Hp} {v : V} {c : Ch} (h : Dx H v (chD c)) : ∃ F ls, v = .ref F ∧ ChL H F ls c := by
  obtain ⟨a, xs, ra, ea, all⟩ := h.list
  have lx : xs.length = c.length := by rw [all.length, List.length_map]
  have row : ∀ (j : Nat) (x : V), xs[j]? = some x → ∃ b r, x = .ref b ∧ c[j]? = some r ∧ RowAt H b r := fun j x hx => by
    obtain ⟨d, hd, dx⟩ := all.from_ hx
    rw [List.getElem?_map] at hd
    cases e : c[j]? with
    | none => rw [e] at hd; cases hd
    | some r =>
      rw [e] at hd
      cases hd
      obtain ⟨b, ws, rfl, eb, _⟩ := id dx.list
      exact ⟨b, r, rfl, rfl, rowAt_of dx⟩
  obtain ⟨ls, rfl⟩ := refs_of fun j x hx => let ⟨b, _, z, _⟩ := row j x hx; ⟨b, z⟩
  refine ⟨a, ls, ra, ea, by rw [← lx, List.length_map], fun m l' hl => ?_⟩
  obtain ⟨b, r, h1, h2, h3⟩ := row m (.ref l') (by rw [List.getElem?_map, hl]; rfl)
  cases h1
  exact ⟨r, h2, h3⟩
theorem ChL.but {H H' : Hp} {pt F : Addr} {ls : List Addr} {c : Ch} (h : ChL H F ls c) (hp : PotAt H pt) (b : But pt H H') : ChL H' F ls c :=
  ⟨b _ _ (refs_not_pot hp h.e) h.e, h.l, fun m l' z => let ⟨r, h1, h2⟩ := h.k m l' z; ⟨r, h1, h2.but hp b⟩⟩
theorem ChL.same {H H' : Hp} {F : Addr} {ls : List Addr} {c : Ch} (h : ChL H F ls c) (s : Same H H') : ChL H' F ls c :=
  ⟨s _ _ h.e, h.l, fun m l' z => let ⟨r, h1, h2⟩ := h.k m l' z; ⟨r, h1, h2.same s⟩⟩
theorem ChL.ne {H : Hp} {F : Addr} {ls : List Addr} {c : Ch} (h : ChL H F ls c) {m : Nat} {l' : Addr} (z : ls[m]? = some l') : l' ≠ F := fun q => by
  obtain ⟨r, h1, ts, e, hl, k⟩ := h.k m l' z
  rw [q, h.e] at e
  have : ls = ts := ref_inj (HO.lst.inj (Option.some.inj e))
  subst this
  obtain ⟨en, _, h2⟩ := k m l' z
  rw [q, h.e] at h2
  cases h2
theorem ChL.nil {H : Hp} {F : Addr} (e : H F = some (.lst [])) : ChL H F [] [] := ⟨e, rfl, fun m l z => by cases z⟩
/-- one more row -/
theorem ChL.snoc {H : Hp} {F L : Addr} {ls : List Addr} {c : Ch} {r : List (Str × Nat)} (h : ChL H F ls c) (hr : RowAt H L r) (n : L ≠ F) : ChL (upd H F (.lst (ls.map V.ref ++ [V.ref L]))) F (ls ++ [L]) (c ++ [r]) := by
  have tp : ∀ a xs, H a = some (.tup xs) → (upd H F (.lst (ls.map V.ref ++ [V.ref L]))) a = some (.tup xs) := fun a xs e => by
    rw [upd_ne (fun z => by rw [z, h.e] at e; cases e)]
    exact e
  refine ⟨by rw [upd_same, List.map_append]; rfl, by rw [List.length_append, List.length_append, h.l]; rfl, fun m l' hm => ?_⟩
  rcases at_snoc (b := r) h.l hm with ⟨h1, h2⟩ | ⟨rfl, h2⟩
  · obtain ⟨r', h3, h4⟩ := h.k m l' h1
    exact ⟨r', h2 _ h3, h4.mono tp fun ls' e => by rw [upd_ne (h.ne h1)]; exact e⟩
  · exact ⟨r, h2, hr.mono tp fun ls' e => by rw [upd_ne n]; exact e⟩
theorem ChL.notin {H : Hp} {F L : Addr} {ls : List Addr} {c : Ch} (h : ChL H F ls c) (z : H L = none) : L ∉ ls := fun m => by
  obtain ⟨j, hj, e⟩ := List.mem_iff_getElem.mp m
  obtain ⟨r, _, ts, e1, _⟩ := h.k j L (by rw [List.getElem?_eq_getElem hj, e])
  rw [z] at e1
  cases e1
theorem ChL.keep {H : Hp} {F L : Addr} {ls : List Addr} {c : Ch} {o : HO} {xs : List V} (h : ChL H F ls c) (n : L ≠ F) (no : L ∉ ls) (e : H L = some (.lst xs)) : ChL (upd H L o) F ls c := by
  refine ⟨by rw [upd_ne n.symm]; exact h.e, h.l, fun m l' z => ?_⟩
  obtain ⟨r, h1, h2⟩ := h.k m l' z
  have nl : l' ≠ L := fun q => no (q ▸ List.mem_of_getElem? z)
  exact ⟨r, h1, h2.mono (fun a ys ea => by rw [upd_ne (fun q => by rw [q, e] at ea; cases ea)]; exact ea) fun ls' ea => by rw [upd_ne nl]; exact ea⟩
theorem none_but {H H' : Hp} {pt L : Addr} (b : But pt H H') (n : L ≠ pt) (z : H' L = none) : H L = none := by
  cases e : H L with
  | none => rfl
  | some o => rw [b _ _ n e] at z; cases z
theorem chD_but {H H' : Hp} {pt : Addr} {v : V} {c : Ch} (h : Dx H v (chD c)) (hp : PotAt H pt) (b : But pt H H') : Dx H' v (chD c) := by
  obtain ⟨F, ls, rfl, k⟩ := ChL.of h
  exact (k.but hp b).dx
/-! ### a Coder shown -/
section
variable {X : Cx} {k : Nat} {f C : Addr} {fd : FuncData} {ps : List Str} {sp : Sp}
def tFmtO (C : Addr) (sp : Sp) (te : TE) : TE := fun σ H Q => te σ H fun x H1 => rOwnS C sp [x] H1 Q
theorem pe_fmtO {e : Expr} {te : TE} {pos : Pos} (F : FnOk X.prog X.w X.K X.mg X.base CX0 k f fd ps sp) (hr : Room (k + 1) X.A) (hb : Binds X.K fd ps []) (hfm : PySem.W.findIn X.K (.ref C) "__format__" = some (some (.builtin "object.__format__")))
    (hm : PySem.W.mroIn X.K C (.type "object") = some true) (hs : PySem.W.findIn X.K (.ref C) "__str__" = some (some (.ref f))) (hf : PySem.W.isFn X.K (.ref f) = true) (he : PE X e te) : PE X (.FormattedValue e (-1) none pos) (tFmtO C sp te) := by
  refine ⟨fun pins s σ H Q I h => ?_⟩
  refine wpAny_FormattedValue_plain (thn (he.run pins s σ H _ I h) fun v s1 hv => ?_)
  obtain ⟨x, H1, I1, r1, a, dx, fs, ex, ha, q⟩ := hv
  cases ex
  obtain rfl : v = Value.ref a := r1
  obtain ⟨od, J⟩ := ins_inst I1 ha
  refine PySem.W.kfo_fieldS hr.in1.units0 I1.kIn J hfm hm hs hf (wpAny_mono (run_at F hr.in1 rfl hb pass0 (I1.tok (s1.toks + 1)) (.cons (show RelV (.ref a) (.ref a) from rfl) .nil) q) (fun r s' z => ?_) fun _ _ z => z)
  obtain ⟨v', H', I', rv, c, rfl, q'⟩ := z
  exact strBack ⟨c, H', I', rv, q'⟩
end
structure CoderR (K : PySem.W.Frag) (mg : Str → Option Value) (ad : Str → Addr) (fd : Str → FuncData) : Prop where
  F_repr : Fun K "__repr__" "Coder.__repr__" sC_repr (ad "Coder.__repr__") (fd "Coder.__repr__")
  b_repr : Binds K (fd "Coder.__repr__") ["self"] []
  rp : PySem.W.findIn K (.ref (ad "Coder")) "__repr__" = some (some (.ref (ad "Coder.__repr__")))
  rpf : PySem.W.isFn K (.ref (ad "Coder.__repr__")) = true
  fm : PySem.W.findIn K (.ref (ad "Rate")) "__format__" = some (some (.builtin "object.__format__"))
theorem len_app (a b : Str) : (a ++ b).length = a.length + b.length := by
  show (a.cps ++ b.cps).size = a.cps.size + b.cps.size
  exact Array.size_append
theorem len_small : ∀ n : Nat, n ≤ 1000 → ((toString (n : Int) : Str)).length ≤ 8 := by decide +kernel
theorem strP_len {p q : Int} (f : fitP p q) : (strP p q).length = 3 := by
  obtain ⟨h1, h2, h3, h4⟩ := f
  have a : p = 1 ∨ p = 2 ∨ p = 3 ∨ p = 4 ∨ p = 5 ∨ p = 6 := by omega
  have b : q = 1 ∨ q = 2 ∨ q = 3 ∨ q = 4 ∨ q = 5 ∨ q = 6 := by omega
  rcases a with rfl | rfl | rfl | rfl | rfl | rfl <;> rcases b with rfl | rfl | rfl | rfl | rfl | rfl <;> decide +kernel
def spCRepr (C R : Addr) : Sp := fun vs H Q _ => ∃ (a : Addr) (p q : Int) (c : Ch) (lead : Str), vs = [.ref a] ∧ CodO C R H a p q c lead ∧ fitP p q ∧ c.length ≤ 1000 ∧ ∀ z : Str, Q (.str z) H
section
variable {P : Program} {w : World} {K : PySem.W.Frag} {mg : Str → Option Value} {base : Heap} {ad : Str → Addr} {fd : Str → FuncData}
theorem scC_repr : FnScope ["self"] ["self"] (defScope sC_repr) := ⟨rfl, rfl, rfl, by decide +kernel, rfl, by decide +kernel, by decide +kernel⟩
theorem ok_crepr (X : Tx K mg ad fd) (RC : RateC K mg ad fd) (CC : CoderC K mg ad fd) (CM : CoderM K mg ad fd) (CH : CoderW K mg ad fd) (CR : CoderR K mg ad fd) : FnOk P w K mg base CX0 3 (ad "Coder.__repr__") (fd "Coder.__repr__") ["self"] (spCRepr (ad "Coder") (ad "Rate")) := by
  have G_str := ok_str (P := P) (w := w) (base := base) RC
  have G_len := ok_clen (P := P) (w := w) (base := base) X CC CM
  refine CR.F_repr.ok scC_repr (fun vs H Q E h => ?_) (fun cdv A outer s H vs Q E hr h => ?_)
  · obtain ⟨a, p, q, c, lead, rfl, _⟩ := h
    rfl
  · obtain ⟨a, p, q, c, lead, rfl, cod, fit, cl, k⟩ := h
    have HR2 : Room 2 _ := hr
    refine ⟨_, (pss_one (ps_ret (by exact (pe_joined (.cons pe_str (.cons (pe_fmtO G_str HR2 RC.b_str CR.fm RC.ob RC.st RC.stf (pe_fld (pv 0) rfl)) (.cons pe_str (.cons (pe_fmt (pe_callB (call_lenO G_len HR2 CM.b_len CH.ln CH.lnf) (by rfl) X.m_len (by decide +kernel) (pa_cons (pv 0) pa_nil))) (.cons pe_str .nil))))))))), ?_⟩
    obtain ⟨dx, r, l, e, ho, hd⟩ := id cod
    obtain ⟨dr, er⟩ := id ho
    have l3 := strP_len fit
    have l8 := len_small c.length cl
    have a0 : Str.empty.length = 0 := rfl
    have a1 : (PySem.Str.ofString "Coder(").length = 6 := by decide +kernel
    have a2 : (PySem.Str.ofString ", ").length = 2 := by decide +kernel
    have a3 : (PySem.Str.ofString ")").length = 1 := by decide +kernel
    refine ⟨_, rfl, ?_, .ref a, rfl, a, _, dx, _, _, rfl, e, CC.cl, CC.nr, rfl, r, dr, _, rfl, er, r, p, q, rfl, ho, fit, _, rfl, _, rfl, ?_, _, rfl, ?_, .ref a, rfl, a, dx, _, rfl, e, a, p, q, c, lead, rfl, cod, _, rfl, ⟨by omega, by omega⟩, .inr ⟨_, rfl, ?_, _, rfl, ?_, _, rfl, ?_, k _⟩⟩
    all_goals first
      | (repeat rw [len_app]); rw [sizeLine_eq]; omega
      | (have h2 : c.length < 2 ^ 64 := by omega
         by_cases hn : c.length = 0
         · rw [hn]; decide
         · have := (Nat.log2_lt (n := c.length) (k := 64) (by omega)).mpr h2
           show (c.length : Int).natAbs.log2 < 1920
           rw [Int.natAbs_natCast]; omega)
end
end K52
end

section
set_option maxHeartbeats 4000000
/-! codes drawn -/
namespace K52
open PySem PySem.Spec PySem.Builtin PySem.Builtin.Str PyProof PyProof.Rows L2
def okRs (p q n : Int) (c : Ch) : Prop := ∀ r ∈ c, (r.length : Int) = 2 ^ p.toNat ∧ ∀ e ∈ r, (wordD (.str e.1) = true ∧ (e.1.length : Int) = q) ∧ (e.2 : Int) < n
theorem okRs.snoc {p q n : Int} {c : Ch} {r : List (Str × Nat)} (h : okRs p q n c) (k : (r.length : Int) = 2 ^ p.toNat ∧ ∀ e ∈ r, (wordD (.str e.1) = true ∧ (e.1.length : Int) = q) ∧ (e.2 : Int) < n) : okRs p q n (c ++ [r]) := fun x hx => by
  rcases List.mem_append.mp hx with hx | hx
  · exact h x hx
  · rw [List.mem_singleton.mp hx]
    exact k
theorem okRs.ch {p q n : Int} {c : Ch} (h : okRs p q n c) (l : (c.length : Int) = n) (pos : 0 < c.length) (most : (c.length : Int) * 2 ^ p.toNat ≤ 2000) : okCh p q c :=
  ⟨⟨pos, fun r hr e he => by have := ((h r hr).2 e he).2; omega⟩, fun r hr => (h r hr).1, fun r hr e he => ((h r hr).2 e he).1, most⟩
theorem join_sig (l : List Nat) (h : ∀ c ∈ l, c ∈ (PySem.Str.ofString "abcd").cps.toList) : wordD (.str (Txt.join (PySem.Str.ofString "") (l.map fun c => (⟨#[c]⟩ : Str)))) = true ∧ (Txt.join (PySem.Str.ofString "") (l.map fun c => (⟨#[c]⟩ : Str))).length = l.length := by
  have e : Txt.join (PySem.Str.ofString "") (l.map fun c => (⟨#[c]⟩ : Str)) = glued (PySem.Str.ofString "") (l.map fun c => (⟨#[c]⟩ : Str)) := rfl
  constructor
  · rw [e, StrLaws.glued_eq_join]
    refine List.all_eq_true.mpr fun c hc => decide_eq_true ?_
    rcases (mem_join _ _ _).mp hc with ⟨t, ht, hc⟩ | ⟨_, hc⟩
    · obtain ⟨x, hx, rfl⟩ := List.mem_map.mp ht
      have : c = x := by simpa using hc
      rw [this]
      exact h x hx
    · rw [show (PySem.Str.ofString "").cps.toList = [] by decide +kernel] at hc
      cases hc
  · rw [e, size_glued]
    rw [show (PySem.Str.ofString "").length = 0 from rfl, Nat.mul_zero, Nat.add_zero, List.map_map]
    clear e h
    induction l with
    | nil => rfl
    | cons x l ih =>
      rw [List.map_cons, List.sum_cons, ih, List.length_cons]
      show 1 + l.length = _
      omega
def spLoose : Sp := fun vs H Q _ => ∃ (pt pc : Addr) (p q most : Int), vs = [.ref pt, .ref pc, .int most, .str "abcd"] ∧ PotAt H pt ∧ H pc = some (.tup [.int p, .int q]) ∧ fitP p q ∧ 1 ≤ most ∧ most ≤ 20 ∧
  ∀ (F : Addr) (c : Ch) (H' : Hp), But pt H H' → PotAt H' pt → H F = none → Dx H' (.ref F) (chD c) → (c.length : Int) ≤ most → okCh p q c → Q (.ref F) H'
theorem pow_b {p q : Int} (f : fitP p q) : (1 : Int) ≤ 2 ^ p.toNat ∧ (2 : Int) ^ p.toNat ≤ 64 := by
  have h1 : ∀ k : Nat, k ≤ 6 → (1 : Int) ≤ 2 ^ k ∧ (2 : Int) ^ k ≤ 64 := by decide
  exact h1 _ (by have := f.2.1; omega)
section
variable {P : Program} {w : World} {K : PySem.W.Frag} {mg : Str → Option Value} {base : Heap} {ad : Str → Addr} {fd : Str → FuncData}
theorem scLooseCodes : FnScope ["_law_pot_here", "_law_pace", "_law_most", "_law_letters", "_law_found", "_law_size", "_law_spot", "_law_line", "_law_word_now", "_law_piece", "_law_turn"] ["_law_pot_here", "_law_pace", "_law_most", "_law_letters"] (defScope sLooseCodes) := ⟨rfl, rfl, rfl, by decide +kernel, rfl, by decide +kernel, by decide +kernel⟩
theorem ok_loose (X : Tx K mg ad fd) : FnOk P w K mg base CX0 3 (ad "_law_loose_codes") (fd "_law_loose_codes") ["_law_pot_here", "_law_pace", "_law_most", "_law_letters"] spLoose := by
  have G__law_draw := ok_draw (P := P) (w := w) (base := base) X
  have G__law_pick := ok_pick (P := P) (w := w) (base := base) X
  refine X.F__law_loose_codes.ok scLooseCodes (fun vs H Q E h => ?_) (fun cdv A outer s H vs Q E hr h => ?_)
  · obtain ⟨pt, pc, p, q, most, rfl, _⟩ := h
    rfl
  · obtain ⟨pt, pc, p, q, most, rfl, hp, epc, fit, m1, m2, k⟩ := h
    have HR__law_pick := hr
    have HR__law_draw : Room 1 _ := hr.mono (by decide)
    refine ⟨_, (pss_cons (ps_par (i := 4) (j := 5) rfl scLooseCodes.nd rfl rfl (by decide) rfl rfl (by exact (pa_cons (pe_lst pa_nil) (pa_cons (pe_op op_add pe_int (pe_call G__law_draw HR__law_draw (by rfl) X.g__law_draw X.F__law_draw.kp X.b__law_draw .nil pass0 (pa_cons (pv 0) (pa_cons (pv 2) pa_nil)))) pa_nil))) (by rfl))
  (pss_cons (ps_for PassesOwn.never rfl (pi_range1 (by rfl) X.m_range (pa_cons (pv 5) pa_nil)) (pg_name (i := 6) scLooseCodes.nd rfl (.inl rfl))
  (pss_cons (ps_set (i := 7) scLooseCodes.nd rfl (.inl rfl) (by exact (pe_lst pa_nil)))
  (pss_cons (ps_for PassesOwn.never rfl (pi_range1 (by rfl) X.m_range (pa_cons (pe_op op_shl pe_int (pe_ix ix_tup (pv 1) pe_int (fun _ _ => rfl))) pa_nil)) (pg_name (i := 8) scLooseCodes.nd rfl (.inl rfl))
  (pss_cons (ps_set (i := 9) scLooseCodes.nd rfl (.inl rfl) (by exact (pe_join pe_str (pe_lc (own := [("_law_turn", 10)]) (g := gName 10) rfl scLooseCodes.nd (pi_range1 (by rfl) X.m_range (pa_cons (pe_ix (ix_tupK (K := K) rfl) (pv 1) pe_int (fun _ _ => rfl)) pa_nil)) (blkOk_by (own := [("_law_turn", 10)]) (N := ["_law_pot_here", "_law_pace", "_law_most", "_law_letters", "_law_found", "_law_size", "_law_spot", "_law_line", "_law_word_now", "_law_piece", "_law_turn"]) (sc := defScope sLooseCodes) (by decide +kernel)) (fun _ _ _ _ _ => pg_name (i := 10) scLooseCodes.nd rfl (Or.inl rfl)) (fun _ _ _ _ _ => pts_nil) (fun _ _ _ _ _ => (pe_call G__law_pick HR__law_pick (by rfl) X.g__law_pick X.F__law_pick.kp X.b__law_pick .nil pass0 (pa_cons (pv 0) (pa_cons (pv 3) pa_nil))))))))
  (pss_one (ps_expr (by exact (pe_bm PySem.F.plainAttrs_list PySem.F.slot_list_append PySem.F.type_list_append mt_append (pv 7) (pa_cons (pe_tup (pa_cons (pv 9) (pa_cons (pe_call G__law_draw HR__law_draw (by rfl) X.g__law_draw X.F__law_draw.kp X.b__law_draw .nil pass0 (pa_cons (pv 0) (pa_cons (pv 5) pa_nil))) pa_nil))) pa_nil)))))))
  (pss_one (ps_expr (by exact (pe_bm PySem.F.plainAttrs_list PySem.F.slot_list_append PySem.F.type_list_append mt_append (pv 4) (pa_cons (pv 7) pa_nil))))))))
  (pss_one (ps_ret (by exact (pv 4)))))), ?_⟩
    obtain ⟨pw1, pw2⟩ := pow_b fit
    obtain ⟨h1, h2, h3, h4⟩ := id fit
    have npc : pc ≠ pt := tup_not_pot hp epc
    refine ⟨Nat.zero_le _, fun F hF => ?_⟩
    have nFp : F ≠ pt := hp.ne hF
    refine ⟨.ref pt, rfl, .int most, rfl, pt, most, rfl, hp.same (Same.new hF), m1, log_small (by omega) (by omega), fun d H1 d0 d1 hp1 b1 => ⟨1, d, rfl, rfl, _, _, rfl, ?_⟩⟩
    have b1' : But pt H H1 := (But.same (Same.new hF)).trans b1
    have eF1 : H1 F = some (.lst []) := b1 _ _ nFp upd_same
    refine ⟨.int (1 + d), rfl, 1 + d, rfl, by omega, by omega, ?_⟩
    refine for_range (lo := 0) (n := (1 + d).toNat) (fun i σ H' => ∃ (r6 r7 r8 r9 r10 : Option V) (ls : List Addr) (c : Ch), σ = [some (.ref pt), some (.ref pc), some (.int most), some (.str "abcd"), some (.ref F), some (.int (1 + d)), r6, r7, r8, r9, r10] ∧ But pt H H' ∧ PotAt H' pt ∧ ChL H' F ls c ∧ c.length = i ∧ okRs p q (1 + d) c)
      ⟨_, _, _, _, _, [], [], rfl, b1', hp1, ChL.nil eF1, rfl, fun r hr => by cases hr⟩ ?_ ?_
    · rintro i σ H2 hi ⟨r6, r7, r8, r9, r10, ls, c, rfl, b2, hp2, ch2, lc2, ok2⟩
      refine ⟨Nat.zero_le _, fun L hL => ?_⟩
      have nLp : L ≠ pt := hp2.ne hL
      have nLF : L ≠ F := fun z => by rw [z, ch2.e] at hL; cases hL
      have hLH := none_but b2 nLp hL
      have noL := ch2.notin hL
      have SL := Same.new hL (o := .lst [])
      have b3 := b2.trans (But.same SL)
      refine ⟨.ref pc, rfl, pc, _, 0, .int p, rfl, rfl, SqT.of (b3 _ _ npc epc), atI_nat (j := 0) rfl, 1, p, rfl, rfl, (by refine ⟨?_, ?_, ?_⟩ <;> first | omega | decide), _, rfl, by omega, by omega, ?_⟩
      refine for_range (lo := 0) (n := (1 * 2 ^ p.toNat : Int).toNat) (fun j σ H' => ∃ (r8 r9 r10 : Option V) (ts : List Addr) (r : List (Str × Nat)), σ = [some (.ref pt), some (.ref pc), some (.int most), some (.str "abcd"), some (.ref F), some (.int (1 + d)), some (.int (0 + (i : Int))), some (.ref L), r8, r9, r10] ∧ But pt H H' ∧ PotAt H' pt ∧ ChL H' F ls c ∧ H' L = some (.lst (ts.map V.ref)) ∧ EntsAt H' ts r ∧ r.length = j ∧ ∀ e ∈ r, (wordD (.str e.1) = true ∧ (e.1.length : Int) = q) ∧ (e.2 : Int) < 1 + d)
        ⟨_, _, _, [], [], rfl, b3, hp2.same SL, ch2.same SL, upd_same, EntsAt.nil, rfl, fun e he => by cases he⟩ ?_ ?_
      · rintro j σ H3 hj ⟨r8, r9, r10, ts, r, rfl, b3, hp3, ch3, eL3, en3, lr, ok3⟩
        refine ⟨⟨_, rfl⟩, .ref pc, rfl, pc, _, 1, .int q, rfl, rfl, SqT.of (b3 _ _ npc epc), atI_nat (j := 1) rfl, q, rfl, by omega, by omega, fun D hD => ?_⟩
        have nDp : D ≠ pt := hp3.ne hD
        have SD := Same.new hD (o := .lst [])
        refine lc_range (lo := 0) (n := q.toNat) (fun m H' => But pt H3 H' ∧ PotAt H' pt ∧ ∃ cs : List Nat, H' D = some (.lst ((cs.map fun c => (⟨#[c]⟩ : Str)).map V.str)) ∧ cs.length = m ∧ ∀ c ∈ cs, c ∈ (PySem.Str.ofString "abcd").cps.toList)
          ⟨But.same SD, hp3.same SD, [], upd_same, rfl, fun c hc => by cases hc⟩ (fun m H' hm hP => ?_) (fun H' hP => ?_)
        · obtain ⟨b4, hp4, cs, eD, lcs, ab⟩ := hP
          refine ⟨rfl, yes_of (iteT ?_)⟩
          refine ⟨.ref pt, rfl, .str "abcd", rfl, pt, .str "abcd", rfl, hp4, .inl ⟨_, rfl, by decide +kernel, by decide +kernel, fun x H5 hx hp5 b5 => ?_⟩⟩
          have eD5 := b5 _ _ nDp eD
          refine ⟨_, eD5, by rw [List.length_map, List.length_map, lcs, sizeLine_eq]; omega, fun b o nb eb => ?_, ?_, cs ++ [x], ?_, by rw [List.length_append, lcs]; rfl, fun y hy => ?_⟩
          · rw [upd_ne (ne_of_none eb hD)]
            exact b5 _ _ nb (b4 _ _ nb eb)
          · obtain ⟨u, v, ep, kp⟩ := hp5
            exact ⟨u, v, (upd_ne nDp.symm).trans ep, kp⟩
          · rw [upd_same, List.map_append, List.map_append]
            rfl
          · rcases List.mem_append.mp hy with hy | hy
            · exact ab y hy
            · rw [List.mem_singleton.mp hy]
              exact hx
        · obtain ⟨b4, hp4, cs, eD, lcs, ab⟩ := hP
          obtain ⟨jw, jl⟩ := join_sig cs ab
          have sm : ((cs.map fun c => (⟨#[c]⟩ : Str)).map fun x => x.length).sum = cs.length := by
            rw [List.map_map]
            clear eD lcs ab jw jl
            induction cs with
            | nil => rfl
            | cons x l ih =>
              rw [List.map_cons, List.sum_cons, ih, List.length_cons]
              show 1 + l.length = _
              omega
          refine ⟨_, D, _, rfl, rfl, .inl (SqL.of eD), by rw [show (PySem.Str.ofString "").length = 0 from rfl]; omega, ?_⟩
          have eL4 := b4 _ _ nLp eL3
          refine ⟨.ref L, rfl, .inl ⟨rfl, _, SqL.of eL4⟩, _, rfl, .ref pt, rfl, .int (1 + d), rfl, pt, 1 + d, rfl, hp4, by omega, log_small (by omega) (by omega), fun x H5 x0 x1 hp5 b5 => ?_⟩
          obtain ⟨n, rfl⟩ := Int.eq_ofNat_of_zero_le x0
          have b35 := b4.trans b5
          have eL5 := b5 _ _ nLp eL4
          refine ⟨(by show 2 ≤ sizeLine; decide), fun T hT => ?_⟩
          have ST := Same.new hT (o := .tup [V.str (Txt.join (PySem.Str.ofString "") (cs.map fun c => (⟨#[c]⟩ : Str))), .int (n : Int)])
          refine ⟨L, _, .ref T, rfl, rfl, ST _ _ eL5, by rw [List.length_map, en3.1, lr, sizeLine_eq]; omega, ?_⟩
          have nLT : L ≠ T := ne_of_none eL5 hT
          have ch6 := ((ch3.but hp3 b35).same ST)
          refine ⟨_, _, _, ts ++ [T], r ++ [(Txt.join (PySem.Str.ofString "") (cs.map fun c => (⟨#[c]⟩ : Str)), n)], rfl, fun b o nb eb => ?_, ?_, ?_, by rw [upd_same, List.map_append]; rfl, ?_, by rw [List.length_append, lr]; rfl, fun e he => ?_⟩
          · rw [upd_ne (fun z => by rw [z, hLH] at eb; cases eb)]
            exact ST _ _ (b35 _ _ nb (b3 _ _ nb eb))
          · obtain ⟨u, v, ep, kp⟩ := hp5.same ST
            exact ⟨u, v, (upd_ne nLp.symm).trans ep, kp⟩
          · exact ch6.keep nLF noL (ST _ _ eL5)
          · refine ((en3.mono fun a xs e => ?_).snoc (e := (_, n)) ?_)
            · rw [upd_ne (fun z => by rw [z, eL3] at e; cases e)]
              exact ST _ _ (b35 _ _ (tup_not_pot hp3 e) e)
            · rw [upd_ne nLT.symm]
              exact upd_same
          · rcases List.mem_append.mp he with he | he
            · exact ok3 e he
            · rw [List.mem_singleton.mp he]
              exact ⟨⟨jw, by rw [jl, lcs]; omega⟩, by omega⟩
      · rintro σ H3 ⟨r8, r9, r10, ts, r, rfl, b3, hp3, ch3, eL3, en3, lr, ok3⟩
        refine ⟨.ref F, rfl, .inl ⟨rfl, _, SqL.of ch3.e⟩, .ref L, rfl, F, _, .ref L, rfl, rfl, ch3.e, by rw [List.length_map, ch3.l, lc2, sizeLine_eq]; omega, ?_⟩
        have nFH : ∀ b o, b ≠ pt → H b = some o → b ≠ F := fun b o _ eb => ne_of_none eb hF
        refine ⟨_, _, _, _, _, _, _, rfl, fun b o nb eb => ?_, ?_, ch3.snoc (RowAt.ents eL3 en3) nLF, by rw [List.length_append, lc2]; rfl, ok2.snoc ⟨by rw [lr]; omega, ok3⟩⟩
        · rw [upd_ne (nFH b o nb eb)]
          exact b3 _ _ nb eb
        · obtain ⟨u, v, ep, kp⟩ := hp3
          exact ⟨u, v, (upd_ne nFp.symm).trans ep, kp⟩
    · rintro σ H2 ⟨r6, r7, r8, r9, r10, ls, c, rfl, b2, hp2, ch2, lc2, ok2⟩
      refine ⟨.ref F, rfl, k F c H2 b2 hp2 hF ch2.dx (by omega) (ok2.ch (by omega) (by omega) ?_)⟩
      have e1 : (c.length : Int) * 2 ^ p.toNat ≤ (c.length : Int) * 64 := Int.mul_le_mul_of_nonneg_left pw2 (by omega)
      omega
end
end K52
end

section
set_option maxHeartbeats 4000000
/-! the same table turned -/
namespace K52
open PySem PySem.Spec PyProof.Rows L2
def spTurned : Sp := fun vs H Q _ => ∃ (pt : Addr) (v : V) (c : Ch), vs = [.ref pt, v] ∧ PotAt H pt ∧ Dx H v (chD c) ∧ WfC c ∧ c.length ≤ 500 ∧ (∀ r ∈ c, r.length ≤ 1000) ∧
  ∀ (F : Addr) (sp : List Nat) (H' : Hp), But pt H H' → PotAt H' pt → H F = none → Dx H' (.ref F) (chD (turnF c sp)) → sp.Nodup → (∀ t, t ∈ sp ↔ t < c.length) → sp[0]? = some 0 → Q (.ref F) H'
theorem rg_ints (n : Nat) : rgV 1 (n : Int) = intsV ((List.range (n - 1)).map (· + 1)) := by
  unfold rgV intsV
  rw [List.map_map, show ((n : Int) - 1).toNat = n - 1 by omega]
  refine List.map_congr_left fun i _ => ?_
  show V.int (1 + (i : Int)) = V.int (((i + 1 : Nat)) : Int)
  congr 1
  omega
section
variable {P : Program} {w : World} {K : PySem.W.Frag} {mg : Str → Option Value} {base : Heap} {ad : Str → Addr} {fd : Str → FuncData}
theorem scTurned : FnScope ["_law_pot_here", "_law_chart", "_law_spots", "_law_spot", "_law_piece", "_law_to"] ["_law_pot_here", "_law_chart"] (defScope sTurned) := ⟨rfl, rfl, rfl, by decide +kernel, rfl, by decide +kernel, by decide +kernel⟩
theorem ok_turned (X : Tx K mg ad fd) : FnOk P w K mg base CX0 3 (ad "_law_turned") (fd "_law_turned") ["_law_pot_here", "_law_chart"] spTurned := by
  have G__law_mixed := ok_mixed (P := P) (w := w) (base := base) X
  refine X.F__law_turned.ok scTurned (fun vs H Q E h => ?_) (fun cdv A outer s H vs Q E hr h => ?_)
  · obtain ⟨pt, v, c, rfl, _⟩ := h
    rfl
  · obtain ⟨pt, v, c, rfl, hp, hc0, wf, l1, l2, k⟩ := h
    have HR__law_mixed := hr
    refine ⟨_, (pss_cons (ps_set (i := 2) scTurned.nd rfl (.inr rfl) (by exact (pe_op op_cat (pe_lst (pa_cons pe_int pa_nil)) (pe_call G__law_mixed HR__law_mixed (by rfl) X.g__law_mixed X.F__law_mixed.kp X.b__law_mixed .nil pass0 (pa_cons (pv 0) (pa_cons (pe_listRg rfl (by rfl) X.m_list (prg_2 (by rfl) X.m_range pe_int (pe_callB call_len (by rfl) X.m_len (by decide +kernel) (pa_cons (pv 1) pa_nil)))) pa_nil))))))
  (pss_one (ps_ret (by exact (pe_lc (own := [("_law_spot", 3)]) (g := gName 3) rfl scTurned.nd (pi_list (pv 2)) (blkOk_by (own := [("_law_spot", 3)]) (N := ["_law_pot_here", "_law_chart", "_law_spots", "_law_spot", "_law_piece", "_law_to"]) (sc := defScope sTurned) (by decide +kernel)) (fun _ _ _ _ _ => pg_name (i := 3) scTurned.nd rfl (Or.inl rfl)) (fun _ _ _ _ _ => pts_nil) (fun _ _ _ _ _ => (pe_lc (own := [("_law_piece", 4), ("_law_to", 5)]) (g := gTup K 2 (gCons (gName 4) (gCons (gName 5) (gNil)))) rfl scTurned.nd (pi_listK (K := K) rfl (pe_ix (ix_listK (K := K) rfl) (pv 1) (pv 3) (fun _ _ => rfl))) (blkOk_by (own := [("_law_piece", 4), ("_law_to", 5)]) (N := ["_law_pot_here", "_law_chart", "_law_spots", "_law_spot", "_law_piece", "_law_to"]) (by kernel_rfl)) (fun _ _ _ _ _ => pg_tupK (K := K) rfl rfl (pgs_cons (pg_name (i := 4) scTurned.nd rfl (Or.inl rfl)) (pgs_cons (pg_name (i := 5) scTurned.nd rfl (Or.inl rfl)) (pgs_nil)))) (fun _ _ _ _ _ => pts_nil) (fun _ _ _ _ _ => (pe_tup (pa_cons (pv 4) (pa_cons (bmK (K := K) rfl (pe_bm PySem.F.plainAttrs_list PySem.F.slot_list_index PySem.F.type_list_index (mt_indexK (K := K) rfl) (pv 2) (pa_cons (pv 5) pa_nil))) pa_nil))))))))))), ?_⟩
    obtain ⟨a, cv0, ra, ea0, all0⟩ := hc0.list
    have lx : cv0.length = c.length := by rw [all0.length, List.length_map]
    subst ra
    refine ⟨(by show 1 ≤ sizeLine; decide), fun Z hZ => ?_⟩
    have nZp : Z ≠ pt := hp.ne hZ
    have SZ := Same.new hZ (o := .lst [V.int 0])
    have eZ : (upd H Z (.lst [V.int 0])) Z = some (.lst [V.int 0]) := upd_same
    refine ⟨.ref pt, rfl, .ref a, rfl, .ref a, _, rfl, .inl ⟨_, SqL.of (SZ _ _ ea0), rfl⟩, _, _, rfl, rfl, RgOk.of_le (by omega) (by omega) (by omega) (by omega), fun R hR => ?_⟩
    rw [lx, rg_ints]
    have SR := Same.new hR (o := .lst (intsV ((List.range (c.length - 1)).map (· + 1))))
    have S0 := Same.trans SZ SR
    refine ⟨pt, R, _, rfl, hp.same S0, upd_same, by rw [List.length_map, List.length_range]; omega, fun M ms H5 b5 hp5 hM eM pm => ?_⟩
    have bH5 := (But.same S0).trans b5
    have eZ5 := b5 _ _ nZp (SR _ _ eZ)
    have lms := pm.length_eq
    rw [List.length_map, List.length_range] at lms
    have lim : (intsV ms).length = ms.length := by unfold intsV; rw [List.length_map]
    refine ⟨Z, M, _, _, rfl, rfl, eZ5, eM, by rw [lim, sizeLine_eq]; show 1 + _ ≤ _; omega, fun O hO => ?_⟩
    have SO := Same.new hO (o := .lst ([V.int 0] ++ intsV ms))
    have mem : ∀ t, t ∈ (0 :: ms) ↔ t < c.length := fun t => by
      have p0 := wf.1
      rw [List.mem_cons, pm.mem_iff, List.mem_map]
      constructor
      · rintro (h | ⟨i, hi, h⟩)
        · omega
        · have := List.mem_range.mp hi
          omega
      · intro h
        by_cases z : t = 0
        · exact .inl z
        · exact .inr ⟨t - 1, List.mem_range.mpr (by omega), by omega⟩
    have nd : (0 :: ms).Nodup := by
      refine List.nodup_cons.mpr ⟨fun h => ?_, pm.nodup_iff.mpr ?_⟩
      · obtain ⟨i, _, h⟩ := List.mem_map.mp (pm.mem_iff.mp h)
        omega
      · exact List.Pairwise.map (· + 1) (fun i j (h : i ≠ j) => by show i + 1 ≠ j + 1; omega) (List.nodup_range (n := c.length - 1))
    have h00 : (0 :: ms)[0]? = some 0 := rfl
    have hc := (chD_but (chD_but hc0 hp bH5) hp5 (But.same SO))
    have hp6 := hp5.same SO
    have b6 := bH5.trans (But.same SO)
    have eO : (upd H5 O (.lst ([V.int 0] ++ intsV ms))) O = some (.lst (intsV (0 :: ms))) := upd_same
    have l0 : (0 :: ms).length ≤ 1000 := by rw [List.length_cons]; omega
    generalize (upd H5 O (.lst ([V.int 0] ++ intsV ms))) = H1 at hc hp6 b6 eO ⊢
    obtain ⟨o, ro⟩ : ∃ o, (0 :: ms) = o := ⟨_, rfl⟩
    rw [ro] at eO mem nd h00 l0
    clear ro pm lms lim eM eZ5 SO hO ea0 all0 lx
    obtain ⟨a', cv, ra, ea, all⟩ := hc.list
    cases ra
    have lt : ∀ x ∈ o, x < c.length := fun x hx => (mem x).mp hx
    have clo0 : ∀ t ∈ o, ∀ e ∈ rowC c t, e.2 ∈ o := fun t _ e he => (mem _).mpr (rowC_lt wf he)
    have S1 : Same H1 H1 := Same.refl
    have lo : (intsV o).length = o.length := by unfold intsV; rw [List.length_map]
    refine ⟨.ref O, rfl, O, rfl, ⟨_, SqL.of eO⟩, fun D hD => ?_⟩
    have nDO : D ≠ O := (ne_of_none eO hD).symm
    refine lc_it (w := walk_list (K := K) (a := O) (xs := intsV o)) (g := gName 3) (tt := tYes) (fun i H' => ∃ ls : List Addr, H' D = some (.lst (ls.map V.ref)) ∧ ls.length = i ∧ Same H1 H' ∧ ∀ (m : Nat) (l : Addr), ls[m]? = some l → l ≠ D ∧ ∃ t, o[m]? = some t ∧ RowAt H' l ((rowC c t).map fun e => (e.1, o.idxOf e.2)))
      ⟨[], upd_same, rfl, Same.new hD, fun m l z => by cases z⟩ (fun i H' hi ⟨_, _, _, s, _⟩ => SqL.of (s _ _ eO)) (fun i x H' H'' hi hP hy => ?_) (fun H' hP => ?_)
    · obtain ⟨ls, eD, ll, s1, rows⟩ := hP
      obtain ⟨rfl, hx⟩ := hy
      refine ⟨rfl, yes_of (iteT ?_)⟩
      obtain ⟨t, et, rfl⟩ : ∃ t, o[i]? = some t ∧ x = .int (t : Int) := by
        unfold intsV at hx
        rw [List.getElem?_map] at hx
        cases z : o[i]? with
        | none => rw [z] at hx; cases hx
        | some t => rw [z] at hx; cases hx; exact ⟨t, rfl, rfl⟩
      have tm := List.mem_of_getElem? et
      have tl := lt t tm
      obtain ⟨a', vs, b, ea', ev, lv, hb, db⟩ := chD_row hc tl
      cases ea'
      obtain ⟨ws, ew0, lw, ents⟩ := rowD_ent db
      have S2 := Same.trans S1 s1
      have clo : ∀ e ∈ rowC c t, e.2 ∈ o := by
        exact clo0 t tm
      have eO2 := s1 _ _ eO
      refine ⟨.ref a, rfl, .int (t : Int), rfl, a, _, (t : Int), .ref b, rfl, rfl, SqL.of (S2 _ _ ev), atI_nat hb, b, rfl, ⟨_, SqL.of (S2 _ _ ew0)⟩, fun D2 hD2 => ?_⟩
      refine lc_it (w := walk_list (K := K) (a := b) (xs := ws)) (g := gTup K 2 (gCons (gName 4) (gCons (gName 5) gNil))) (tt := tYes) (fun j G => ∃ ts : List Addr, G D2 = some (.lst (ts.map V.ref)) ∧ ts.length = j ∧ Same H'' G ∧ ∀ (m : Nat) (t' : Addr), ts[m]? = some t' → ∃ e, (rowC c t)[m]? = some e ∧ G t' = some (.tup [.str e.1, .int ((o.idxOf e.2 : Nat) : Int)]))
        ⟨[], upd_same, rfl, Same.new hD2, fun m l z => by cases z⟩ (fun j G hj ⟨_, _, _, s, _⟩ => SqL.of (s _ _ (S2 _ _ ew0))) (fun j y G G' hj hP2 hy => ?_) (fun G hP2 => ?_)
      · obtain ⟨ts, e2, lt2, s2, ok2⟩ := hP2
        obtain ⟨rfl, hy⟩ := hy
        obtain ⟨tt, en, he, rfl, htt⟩ := ents j y hy
        have hin := clo en (List.mem_of_getElem? he)
        obtain ⟨ix1, ix2⟩ := idx_at hin
        have ej : j < (rowC c t).length := (List.getElem?_eq_some_iff.mp he).1
        refine ⟨tt, [.str en.1, .int (en.2 : Int)], rfl, SqT.of (s2 _ _ (S2 _ _ htt)), rfl, .str en.1, _, rfl, .int (en.2 : Int), _, rfl, rfl, rfl, yes_of (iteT ?_)⟩
        have lrow : (rowC c t).length ≤ 1000 := by
          unfold rowC
          rw [List.getD_eq_getElem?_getD, List.getElem?_eq_getElem tl]
          exact l2 _ (List.getElem_mem tl)
        refine ⟨.str en.1, rfl, .ref O, rfl, .inl ⟨rfl, _, SqL.of (s2 _ _ eO2)⟩, .int (en.2 : Int), rfl, O, _, .int (en.2 : Int), o.idxOf en.2, _, rfl, rfl, SqL.of (s2 _ _ eO2), rfl, ints_flat o, ix1, by simp [eqV], ix2, (by show 2 ≤ sizeLine; decide), fun t2 ht2 => ?_⟩
        have n2 : D2 ≠ t2 := ne_of_none e2 ht2
        have St := Same.new ht2 (o := .tup [V.str en.1, .int ((o.idxOf en.2 : Nat) : Int)])
        refine ⟨_, St _ _ e2, by rw [List.length_map, lt2, sizeLine_eq]; omega, ts ++ [t2], by rw [upd_same, List.map_append]; rfl, by rw [List.length_append, lt2]; rfl, fun b' u eb' => ?_, fun m t' hm => ?_⟩
        · rw [upd_ne (ne_of_none eb' hD2)]
          exact St _ _ (s2 _ _ eb')
        · by_cases hlt2 : m < ts.length
          · rw [List.getElem?_append_left hlt2] at hm
            obtain ⟨e', h1, h2⟩ := ok2 m t' hm
            refine ⟨e', h1, ?_⟩
            rw [upd_ne (fun z => by rw [z, e2] at h2; cases h2)]
            exact St _ _ h2
          · rw [List.getElem?_append_right (by omega)] at hm
            have z : m - ts.length = 0 := by
              by_cases q : m - ts.length = 0
              · exact q
              · rw [List.getElem?_eq_none (by simp; omega)] at hm
                cases hm
            rw [z] at hm
            cases hm
            have mj : m = j := by omega
            subst mj
            exact ⟨en, he, by rw [upd_ne n2.symm]; exact upd_same⟩
      · obtain ⟨ts, e2, lt2, s2, ok2⟩ := hP2
        have eD4 := s2 _ _ eD
        have nDD : D2 ≠ D := (ne_of_none eD hD2).symm
        have row : RowAt G D2 ((rowC c t).map fun e => (e.1, o.idxOf e.2)) := ⟨ts, e2, by rw [List.length_map, lt2, lw], fun m t' hm => by
          obtain ⟨e', h1, h2⟩ := ok2 m t' hm
          exact ⟨_, by rw [List.getElem?_map, h1]; rfl, h2⟩⟩
        refine ⟨_, eD4, by rw [List.length_map, ll, sizeLine_eq]; have := nodup_len nd lt; omega, ls ++ [D2], by rw [upd_same, List.map_append]; rfl, by rw [List.length_append, ll]; rfl, fun b' u eb' => ?_, fun m l hm => ?_⟩
        · rw [upd_ne (ne_of_none eb' hD)]
          exact s2 _ _ (s1 _ _ eb')
        · by_cases hlt2 : m < ls.length
          · rw [List.getElem?_append_left hlt2] at hm
            obtain ⟨nl, t', h1, h2⟩ := rows m l hm
            exact ⟨nl, t', h1, h2.keep nl eD fun b' u nb eb' => by rw [upd_ne nb]; exact s2 _ _ eb'⟩
          · rw [List.getElem?_append_right (by omega)] at hm
            have z : m - ls.length = 0 := by
              by_cases q : m - ls.length = 0
              · exact q
              · rw [List.getElem?_eq_none (by simp; omega)] at hm
                cases hm
            rw [z] at hm
            cases hm
            have mj : m = i := by omega
            subst mj
            exact ⟨nDD, t, et, row.keep nDD eD4 fun b' u nb eb' => by rw [upd_ne nb]; exact eb'⟩
    · obtain ⟨ls, eD, ll, s1, rows⟩ := hP
      refine k D o H' (b6.trans (But.same s1)) (hp6.same s1) (none_but b6 (hp6.ne hD) hD) ?_ nd mem h00
      refine .lst eD (dxAll_of (by rw [List.length_map, List.length_map, ll, lo]; unfold turnF; rw [List.length_map]) fun j v hv => ?_)
      rw [List.getElem?_map] at hv
      cases el : ls[j]? with
      | none => rw [el] at hv; cases hv
      | some l =>
        rw [el] at hv
        cases hv
        obtain ⟨_, t, et, ra⟩ := rows j l el
        refine ⟨_, ?_, ra.dx⟩
        unfold turnF
        rw [List.getElem?_map, List.getElem?_map, et]
        rfl
end
end K52
end

section
set_option maxHeartbeats 4000000
/-! a wider table -/
namespace K52
open PySem PySem.Spec PyProof.Rows L2
theorem op_mul_str {X : Cx} : OpR X (binaryOp .Mult) (fun x y H Q => ∃ i n, x = .str i ∧ y = .int n ∧ MulOk i n ∧ Q (.str (Txt.mul i n)) H) := by
  intro pins s σ H x y v u Q I rx ry h
  obtain ⟨i, n, rfl, rfl, hz, q⟩ := h
  obtain ⟨t, rfl⟩ := rx
  obtain ⟨t', rfl⟩ := ry
  exact PySem.SB.mul hz (fun t' tk => ⟨.str (Txt.mul i n), H, I.tok _, ⟨_, rfl⟩, q⟩)
theorem mul_c {q : Int} (h1 : 1 ≤ q) (h2 : q ≤ 6) : MulOk (PySem.Str.ofString "c") q ∧ wordD (.str (Txt.mul (PySem.Str.ofString "c") q)) = true ∧ ((Txt.mul (PySem.Str.ofString "c") q).length : Int) = q := by
  have b : q = 1 ∨ q = 2 ∨ q = 3 ∨ q = 4 ∨ q = 5 ∨ q = 6 := by omega
  rcases b with rfl | rfl | rfl | rfl | rfl | rfl <;> exact ⟨⟨by decide, fun _ _ => by decide +kernel, fun _ _ => by decide +kernel⟩, by decide +kernel, by decide +kernel⟩
/-- a comprehension that copies the rows of a table -/
theorem lc_copy {K : PySem.W.Frag} {a : Addr} {xs : List V} {j : Nat} {te : TE} {vs : List Nat} {σ : L2.St} {H1 : Hp} {D : Addr} {Qd : Hp → Prop} {c : Ch} (hn : H1 D = none) (hd : Dx H1 (.ref a) (chD c)) (hl : H1 a = some (.lst xs)) (hsz : c.length ≤ 1000)
    (hw : ∀ x, wipe ((wipe σ vs).set j (some x)) vs = wipe σ vs)
    (hstep : ∀ (b : Addr) (ts : List Addr) (H' : Hp), Same H1 H' → H' b = some (.lst (ts.map V.ref)) → ∀ Q : VK, (∀ n, H' n = none → Q (.ref n) (upd H' n (.lst (ts.map V.ref)))) → te ((wipe σ vs).set j (some (.ref b))) H' Q)
    (hend : ∀ (H' : Hp) (ls : List Addr), Same H1 H' → ChL H' D ls c → ls.Nodup → (∀ l ∈ ls, H1 l = none) → Qd H') :
    ∃ W : Nat → Nat → Hp → Prop, (∃ m, W 0 m (upd H1 D (.lst []))) ∧ ∀ i m H, W i m H →
      ((Itl K a).stop i H ∧ Qd H) ∨ ((Itl K a).go i H ∧ ∃ Nx : Hp → Prop, (∀ H', Nx H' → ∃ m', m' < m ∧ W (i + 1) m' H') ∧ ∀ x H', (Itl K a).yld i H x H' → gName j x (wipe σ vs) H' fun σ2 H2 => wipe σ2 vs = wipe σ vs ∧ tYes σ2 H2 fun b H3 =>
        if b = true then te σ2 H3 fun y H4 => ∃ acc, H4 D = some (.lst acc) ∧ acc.length < sizeLine ∧ Nx (upd H4 D (.lst (acc ++ [y]))) else Nx H3) := by
  obtain ⟨a', xs', ra, ea, all⟩ := hd.list
  cases ra
  rw [hl] at ea
  cases ea
  have lx : xs.length = c.length := by rw [all.length, List.length_map]
  refine lc_it (w := walk_list (K := K) (a := a) (xs := xs)) (g := gName j) (tt := tYes) (fun i H' => ∃ ls, ChL H' D ls (c.take i) ∧ Same H1 H' ∧ ls.Nodup ∧ ∀ l ∈ ls, H1 l = none)
    ⟨[], ChL.nil upd_same, Same.new hn, List.nodup_nil, fun l z => by cases z⟩ (fun i H hi ⟨_, _, s, _⟩ => SqL.of (s _ _ hl)) (fun i x H' H2 hi hP hy => ?_) (fun H' hP => ?_)
  · obtain ⟨ls, ch, s1, nd, fr⟩ := hP
    obtain ⟨rfl, hx⟩ := hy
    obtain ⟨d, hd2, dx2⟩ := all.from_ hx
    rw [List.getElem?_map] at hd2
    cases ew : c[i]? with
    | none => rw [ew] at hd2; cases hd2
    | some r' =>
      rw [ew] at hd2
      cases hd2
      obtain ⟨b, ws, rfl, eb, _⟩ := id dx2.list
      obtain ⟨ts, et, lt, kt⟩ := (rowAt_of dx2)
      refine ⟨hw _, ?_⟩
      show te _ _ _
      refine hstep b ts _ s1 (s1 _ _ et) _ fun n hn2 => ?_
      have Sn := Same.new hn2 (o := .lst (ts.map V.ref))
      have row : RowAt (upd H2 n (.lst (ts.map V.ref))) n r' := ⟨ts, upd_same, lt, fun j t ht => by
        obtain ⟨en, h1, h2⟩ := kt j t ht
        exact ⟨en, h1, Sn _ _ (s1 _ _ h2)⟩⟩
      have ch2 := ch.same Sn
      have nD : n ≠ D := (ne_of_none ch.e hn2).symm
      refine ⟨_, ch2.e, by rw [List.length_map, ch2.l, List.length_take, sizeLine_eq]; omega, ls ++ [n], by rw [take_snoc ew]; exact ch2.snoc row nD, fun b' u eb' => ?_, List.nodup_append.mpr ⟨nd, by simp, fun x hx y hy => ?_⟩, fun l hl' => ?_⟩
      · rw [upd_ne (ne_of_none eb' hn)]
        exact Sn _ _ (s1 _ _ eb')
      · rw [List.mem_singleton.mp hy]
        exact fun z => ch.notin hn2 (z ▸ hx)
      · rcases List.mem_append.mp hl' with hl' | hl'
        · exact fr l hl'
        · rw [List.mem_singleton.mp hl']
          exact none_of s1 hn2
  · obtain ⟨ls, ch, s1, nd, fr⟩ := hP
    rw [lx, List.take_length] at ch
    exact hend H' ls s1 ch nd fr
def spWider : Sp := fun vs H Q _ => ∃ (pt pc : Addr) (v : V) (p q : Int) (c : Ch), vs = [.ref pt, .ref pc, v] ∧ PotAt H pt ∧ H pc = some (.tup [.int p, .int q]) ∧ fitP p q ∧ Dx H v (chD c) ∧ okCh p q c ∧ c.length ≤ 20 ∧
  ∀ (F : Addr) (x : Ch) (H' : Hp), But pt H H' → PotAt H' pt → H F = none → Dx H' (.ref F) (chD (c ++ x)) → x.length ≤ 3 → okCh p q (c ++ x) → Q (.ref F) H'
section
variable {P : Program} {w : World} {K : PySem.W.Frag} {mg : Str → Option Value} {base : Heap} {ad : Str → Addr} {fd : Str → FuncData}
theorem scWider : FnScope ["_law_pot_here", "_law_pace", "_law_chart", "_law_size", "_law_found", "_law_turn", "_law_line", "_law_word_now"] ["_law_pot_here", "_law_pace", "_law_chart"] (defScope sWider) := ⟨rfl, rfl, rfl, by decide +kernel, rfl, by decide +kernel, by decide +kernel⟩
theorem ok_wider (X : Tx K mg ad fd) : FnOk P w K mg base CX0 2 (ad "_law_wider") (fd "_law_wider") ["_law_pot_here", "_law_pace", "_law_chart"] spWider := by
  have G__law_draw := ok_draw (P := P) (w := w) (base := base) X
  refine X.F__law_wider.ok scWider (fun vs H Q E h => ?_) (fun cdv A outer s H vs Q E hr h => ?_)
  · obtain ⟨pt, pc, v, p, q, c, rfl, _⟩ := h
    rfl
  · obtain ⟨pt, pc, v, p, q, c, rfl, hp, epc, fit, hd, oc, cl, k⟩ := h
    have HR__law_draw := hr
    refine ⟨_, (pss_cons (ps_asg (by exact (pe_tup (pa_cons (pe_op op_add pe_int (pe_call G__law_draw HR__law_draw (by rfl) X.g__law_draw X.F__law_draw.kp X.b__law_draw .nil pass0 (pa_cons (pv 0) (pa_cons pe_int pa_nil)))) (pa_cons (pe_lc (own := [("_law_line", 6)]) (g := gName 6) rfl scWider.nd (pi_list (pv 2)) (blkOk_by (own := [("_law_line", 6)]) (N := ["_law_pot_here", "_law_pace", "_law_chart", "_law_size", "_law_found", "_law_turn", "_law_line", "_law_word_now"]) (sc := defScope sWider) (by decide +kernel)) (fun _ _ _ _ _ => pg_name (i := 6) scWider.nd rfl (Or.inl rfl)) (fun _ _ _ _ _ => pts_nil) (fun _ _ _ _ _ => (pe_callTy (call_list_ofK (K := K) rfl) (by rfl) X.m_list (by decide +kernel) (pa_cons (pv 6) pa_nil)))) pa_nil)))) (pg_tup rfl (pgs_cons (pg_name (i := 3) scWider.nd rfl (.inr rfl)) (pgs_cons (pg_name (i := 4) scWider.nd rfl (.inl rfl)) pgs_nil))))
  (pss_cons (ps_for PassesOwn.never rfl (pi_range1 (by rfl) X.m_range (pa_cons (pv 3) pa_nil)) (pg_name (i := 5) scWider.nd rfl (.inl rfl))
  (pss_cons (ps_setLc (i := 6) (own := [("_law_word_now", 7)]) (g := gName 7) rfl scWider.nd rfl rfl (by rfl) (pi_range1 (by rfl) X.m_range (pa_cons (pe_op op_shl pe_int (pe_ix ix_tup (pv 1) pe_int (fun _ _ => rfl))) pa_nil)) (blkOk_by (own := [("_law_word_now", 7)]) (N := ["_law_pot_here", "_law_pace", "_law_chart", "_law_size", "_law_found", "_law_turn", "_law_line", "_law_word_now"]) (sc := defScope sWider) (by decide +kernel)) (fun _ _ _ _ _ => pg_name (i := 7) scWider.nd rfl (Or.inl rfl)) (fun _ _ _ _ _ => pts_nil) (fun _ _ _ _ _ => (pe_tup (pa_cons (pe_op op_mul_str pe_str (pe_ix (ix_tupK (K := K) rfl) (pv 1) pe_int (fun _ _ => rfl))) (pa_cons (pe_call G__law_draw HR__law_draw (by rfl) X.g__law_draw X.F__law_draw.kp X.b__law_draw .nil pass0 (pa_cons (pv 0) (pa_cons (pe_op op_add (pe_callB (call_lenK (K := K) rfl) (by rfl) X.m_len (by decide +kernel) (pa_cons (pv 2) pa_nil)) (pv 3)) pa_nil))) pa_nil)))))
  (pss_one (ps_expr (by exact (pe_bm PySem.F.plainAttrs_list PySem.F.slot_list_append PySem.F.type_list_append mt_append (pv 4) (pa_cons (pv 6) pa_nil)))))))
  (pss_one (ps_ret (by exact (pv 4)))))), ?_⟩
    obtain ⟨pw1, pw2⟩ := pow_b fit
    obtain ⟨h1, h2, h3, h4⟩ := id fit
    have npc : pc ≠ pt := tup_not_pot hp epc
    obtain ⟨mo, mw, ml⟩ := mul_c h3 h4
    refine ⟨.ref pt, rfl, pt, 3, rfl, hp, by omega, by decide, fun d H1 d0 d1 hp1 b1 => ⟨1, d, rfl, rfl, ?_⟩⟩
    have hd1 := chD_but hd hp b1
    obtain ⟨a, xs, ra, ea, all⟩ := hd1.list
    have lx : xs.length = c.length := by rw [all.length, List.length_map]
    subst ra
    refine ⟨.ref a, rfl, a, rfl, ⟨_, SqL.of ea⟩, fun F hF => ?_⟩
    have nFp : F ≠ pt := hp1.ne hF
    have hFH := none_but b1 nFp hF
    refine lc_copy hF hd1 ea (by omega) (fun _ => rfl) (fun b ts H' s1 eb Q' q' => ⟨.ref b, rfl, b, _, rfl, .inl (SqL.of eb), q'⟩) (fun H2 ls s2 ch2 nd fr => ?_)
    refine ⟨(by show 2 ≤ sizeLine; decide), fun T0 hT0 => ?_⟩
    have ST0 := Same.new hT0 (o := .tup [V.int (1 + d), .ref F])
    refine ⟨T0, _, rfl, SqT.of upd_same, rfl, _, _, rfl, _, _, rfl, rfl, .int (1 + d), rfl, 1 + d, rfl, by omega, by omega, ?_⟩
    replace ch2 := ch2.same ST0
    replace s2 := Same.trans s2 ST0
    have b2 : But pt H1 _ := But.same s2
    have epc1 := b1 _ _ npc epc
    have hp2 := hp1.same s2
    have n0 : (0 : Int) ≤ c.length := by omega
    refine for_range (lo := 0) (n := (1 + d).toNat) (fun i σ H' => ∃ (r5 r6 r7 : Option V) (ls : List Addr) (x : Ch), σ = [some (.ref pt), some (.ref pc), some (.ref a), some (.int (1 + d)), some (.ref F), r5, r6, r7] ∧ But pt H1 H' ∧ PotAt H' pt ∧ ChL H' F ls (c ++ x) ∧ x.length = i ∧ okRs p q (c.length + (1 + d)) x)
      ⟨_, _, _, ls, [], rfl, b2, hp2, by rw [List.append_nil]; exact ch2, rfl, fun r hr => by cases hr⟩ ?_ ?_
    · rintro i σ H3 hi ⟨r5, r6, r7, ls, x, rfl, b3, hp3, ch3, lxx, ok3⟩
      refine ⟨.ref pc, rfl, pc, _, 0, .int p, rfl, rfl, SqT.of (b3 _ _ npc epc1), atI_nat (j := 0) rfl, 1, p, rfl, rfl, (by refine ⟨?_, ?_, ?_⟩ <;> first | omega | decide), _, rfl, by omega, by omega, fun L hL => ?_⟩
      have hd3 := chD_but hd1 hp1 b3
      have nLp : L ≠ pt := hp3.ne hL
      have nLF : L ≠ F := fun z => by rw [z, ch3.e] at hL; cases hL
      refine lc_range (lo := 0) (n := (1 * 2 ^ p.toNat : Int).toNat) (fun m H' => But pt H3 H' ∧ PotAt H' pt ∧ ∃ (ts : List Addr) (r : List (Str × Nat)), H' L = some (.lst (ts.map V.ref)) ∧ EntsAt H' ts r ∧ r.length = m ∧ ∀ e ∈ r, (wordD (.str e.1) = true ∧ (e.1.length : Int) = q) ∧ (e.2 : Int) < c.length + (1 + d))
        ⟨But.same (Same.new hL), hp3.same (Same.new hL), [], [], upd_same, EntsAt.nil, rfl, fun e he => by cases he⟩ (fun m H' hm hP => ?_) (fun H' hP => ?_)
      · obtain ⟨b4, hp4, ts, r, eL4, en4, lr, ok4⟩ := hP
        refine ⟨rfl, yes_of (iteT ?_)⟩
        obtain ⟨a', xs4, ra4, ea4, all4⟩ := (chD_but hd3 hp3 b4).list
        cases ra4
        have lx4 : xs4.length = c.length := by rw [all4.length, List.length_map]
        refine ⟨.ref pc, rfl, pc, _, 1, .int q, rfl, rfl, SqT.of (b4 _ _ npc (b3 _ _ npc epc1)), atI_nat (j := 1) rfl, _, q, rfl, rfl, mo, .ref pt, rfl, .ref a, rfl, .ref a, _, rfl, .inl ⟨_, SqL.of ea4, rfl⟩, .int (1 + d), rfl, _, _, rfl, rfl, pt, _, rfl, hp4, by omega, log_small (by omega) (by omega), fun y H5 y0 y1 hp5 b5 => ?_⟩
        obtain ⟨n, rfl⟩ := Int.eq_ofNat_of_zero_le y0
        have eL5 := b5 _ _ nLp eL4
        refine ⟨(by show 2 ≤ sizeLine; decide), fun T hT => ?_⟩
        have ST := Same.new hT (o := .tup [V.str (Txt.mul (PySem.Str.ofString "c") q), .int (n : Int)])
        have nLT : L ≠ T := ne_of_none eL5 hT
        refine ⟨_, ST _ _ eL5, by rw [List.length_map, en4.1, lr, sizeLine_eq]; omega, fun b o nb eb => ?_, ?_, ts ++ [T], r ++ [(Txt.mul (PySem.Str.ofString "c") q, n)], by rw [upd_same, List.map_append]; rfl, ?_, by rw [List.length_append, lr]; rfl, fun e he => ?_⟩
        · rw [upd_ne (ne_of_none eb hL)]
          exact ST _ _ (b5 _ _ nb (b4 _ _ nb eb))
        · obtain ⟨u, v, ep, kp⟩ := hp5.same ST
          exact ⟨u, v, (upd_ne nLp.symm).trans ep, kp⟩
        · refine ((en4.mono fun a' ys e => ?_).snoc (e := (_, n)) ?_)
          · rw [upd_ne (fun z => by rw [z, eL4] at e; cases e)]
            exact ST _ _ (b5 _ _ (tup_not_pot hp4 e) e)
          · rw [upd_ne nLT.symm]
            exact upd_same
        · rcases List.mem_append.mp he with he | he
          · exact ok4 e he
          · rw [List.mem_singleton.mp he]
            exact ⟨⟨mw, ml⟩, by rw [lx4] at y1; exact y1⟩
      · obtain ⟨b4, hp4, ts, r, eL4, en4, lr, ok4⟩ := hP
        have ch4 := ch3.but hp3 b4
        have lc4 := ch4.l
        rw [List.length_append] at lc4
        refine ⟨.ref F, rfl, .inl ⟨rfl, _, SqL.of ch4.e⟩, .ref L, rfl, F, _, .ref L, rfl, rfl, ch4.e, by rw [List.length_map, lc4, sizeLine_eq]; omega, ?_⟩
        have chn := ch4.snoc (RowAt.ents eL4 en4) nLF
        refine ⟨_, _, _, _, x ++ [r], rfl, fun b o nb eb => ?_, ?_, by rw [← List.append_assoc]; exact chn, by rw [List.length_append, lxx]; rfl, ok3.snoc ⟨by rw [lr]; omega, ok4⟩⟩
        · rw [upd_ne (ne_of_none eb hF)]
          exact b4 _ _ nb (b3 _ _ nb eb)
        · obtain ⟨u, v, ep, kp⟩ := hp4
          exact ⟨u, v, (upd_ne nFp.symm).trans ep, kp⟩
    · rintro σ H3 ⟨r5, r6, r7, ls, x, rfl, b3, hp3, ch3, lxx, ok3⟩
      refine ⟨.ref F, rfl, k F x H3 (b1.trans b3) hp3 hFH ch3.dx (by omega) ⟨⟨by rw [List.length_append]; have := oc.wf.1; omega, fun r hr e he => ?_⟩, fun r hr => ?_, fun r hr e he => ?_, ?_⟩⟩
      · rw [List.length_append]
        rcases List.mem_append.mp hr with hr | hr
        · have := oc.wf.2 r hr e he
          omega
        · have := ((ok3 r hr).2 e he).2
          omega
      · rcases List.mem_append.mp hr with hr | hr
        · exact oc.rows r hr
        · exact (ok3 r hr).1
      · rcases List.mem_append.mp hr with hr | hr
        · exact oc.blocks r hr e he
        · exact ((ok3 r hr).2 e he).1
      · have e1 : ((c ++ x).length : Int) * 2 ^ p.toNat ≤ ((c ++ x).length : Int) * 64 := Int.mul_le_mul_of_nonneg_left pw2 (by omega)
        rw [List.length_append] at e1 ⊢
        omega
end
end K52
end

section
set_option maxHeartbeats 4000000
/-! a doubled table -/
namespace K52
open PySem PySem.Spec PyProof.Rows L2
def spDoubled : Sp := fun vs H Q _ => ∃ (pt : Addr) (v : V) (p q : Int) (c : Ch), vs = [.ref pt, v] ∧ PotAt H pt ∧ fitP p q ∧ Dx H v (chD c) ∧ okCh p q c ∧ c.length ≤ 12 ∧
  ∀ (F : Addr) (x : Ch) (H' : Hp), But pt H H' → PotAt H' pt → H F = none → Dx H' (.ref F) (chD x) → okCh p q x → x.length ≤ 24 → Q (.ref F) H'
section
variable {P : Program} {w : World} {K : PySem.W.Frag} {mg : Str → Option Value} {base : Heap} {ad : Str → Addr} {fd : Str → FuncData}
theorem scDoubled : FnScope ["_law_pot_here", "_law_chart", "_law_found", "_law_turn", "_law_line", "_law_piece", "_law_to"] ["_law_pot_here", "_law_chart"] (defScope sDoubled) := ⟨rfl, rfl, rfl, by decide +kernel, rfl, by decide +kernel, by decide +kernel⟩
theorem ok_doubled (X : Tx K mg ad fd) : FnOk P w K mg base CX0 2 (ad "_law_doubled") (fd "_law_doubled") ["_law_pot_here", "_law_chart"] spDoubled := by
  have G__law_draw := ok_draw (P := P) (w := w) (base := base) X
  refine X.F__law_doubled.ok scDoubled (fun vs H Q E h => ?_) (fun cdv A outer s H vs Q E hr h => ?_)
  · obtain ⟨pt, v, p, q, c, rfl, _⟩ := h
    rfl
  · obtain ⟨pt, v, p, q, c, rfl, hp, fit, hd, oc, cl, k⟩ := h
    have HR__law_draw := hr
    refine ⟨_, (pss_cons (ps_set (i := 2) scDoubled.nd rfl (.inl rfl) (by exact (pe_lst pa_nil)))
  (pss_cons (ps_for PassesOwn.never rfl (pi_range1 (by rfl) X.m_range (pa_cons pe_int pa_nil)) (pg_name (i := 3) scDoubled.nd rfl (.inl rfl))
  (pss_one (ps_for PassesOwn.never rfl (pi_list (pv 1)) (pg_name (i := 4) scDoubled.nd rfl (.inl rfl))
  (pss_one (ps_expr (by exact (pe_bm PySem.F.plainAttrs_list PySem.F.slot_list_append PySem.F.type_list_append mt_append (pv 2) (pa_cons (pe_lc (own := [("_law_piece", 5), ("_law_to", 6)]) (g := gTup K 2 (gCons (gName 5) (gCons (gName 6) (gNil)))) rfl scDoubled.nd (pi_list (pv 4)) (blkOk_by (own := [("_law_piece", 5), ("_law_to", 6)]) (N := ["_law_pot_here", "_law_chart", "_law_found", "_law_turn", "_law_line", "_law_piece", "_law_to"]) (sc := defScope sDoubled) (by decide +kernel)) (fun _ _ _ _ _ => pg_tupK (K := K) rfl rfl (pgs_cons (pg_name (i := 5) scDoubled.nd rfl (Or.inl rfl)) (pgs_cons (pg_name (i := 6) scDoubled.nd rfl (Or.inl rfl)) (pgs_nil)))) (fun _ _ _ _ _ => pts_nil) (fun _ _ _ _ _ => (pe_tup (pa_cons (pv 5) (pa_cons (pe_op op_add (pv 6) (pe_op op_mul (pe_callB (call_lenK (K := K) rfl) (by rfl) X.m_len (by decide +kernel) (pa_cons (pv 1) pa_nil)) (pe_call G__law_draw HR__law_draw (by rfl) X.g__law_draw X.F__law_draw.kp X.b__law_draw .nil pass0 (pa_cons (pv 0) (pa_cons pe_int pa_nil))))) pa_nil))))) pa_nil))))))))
  (pss_one (ps_ret (by exact (pv 2)))))), ?_⟩
    obtain ⟨pw1, pw2⟩ := pow_b fit
    obtain ⟨a, xs, ra, ea, all⟩ := id hd.list
    have lx : xs.length = c.length := by rw [all.length, List.length_map]
    subst ra
    have nap : a ≠ pt := by
      obtain ⟨F, ls, e1, ch⟩ := ChL.of hd
      cases e1
      exact refs_not_pot hp ch.e
    refine ⟨Nat.zero_le _, fun F hF => ?_⟩
    have nFp : F ≠ pt := hp.ne hF
    have b0 : But pt H (upd H F (.lst [])) := But.same (Same.new hF)
    refine ⟨2, rfl, by omega, by omega, ?_⟩
    refine for_range (lo := 0) (n := (2 : Int).toNat) (fun i σ H' => ∃ (r3 r4 r5 r6 : Option V) (ls : List Addr) (x : Ch), σ = [some (.ref pt), some (.ref a), some (.ref F), r3, r4, r5, r6] ∧ But pt H H' ∧ PotAt H' pt ∧ ChL H' F ls x ∧ x.length = c.length * i ∧ okRs p q (2 * c.length) x)
      ⟨_, _, _, _, [], [], rfl, b0, hp.same (Same.new hF), ChL.nil upd_same, rfl, fun r hr => by cases hr⟩ ?_ ?_
    · rintro i σ H2 hi ⟨r3, r4, r5, r6, ls, x, rfl, b2, hp2, ch2, lx2, ok2⟩
      refine ⟨.ref a, rfl, a, rfl, ⟨_, SqL.of (b2 _ _ nap ea)⟩, ?_⟩
      refine for_list (K := K) (a := a) (xs := xs) (fun m σ H' => ∃ (r4 r5 r6 : Option V) (ls : List Addr) (x : Ch), σ = [some (.ref pt), some (.ref a), some (.ref F), some (.int (0 + (i : Int))), r4, r5, r6] ∧ But pt H H' ∧ PotAt H' pt ∧ ChL H' F ls x ∧ x.length = c.length * i + m ∧ okRs p q (2 * c.length) x)
        ⟨_, _, _, ls, x, rfl, b2, hp2, ch2, lx2, ok2⟩ (fun m σ H' _ ⟨_, _, _, _, _, _, b, _⟩ => SqL.of (b _ _ nap ea)) ?_ ?_
      · rintro m y σ H3 hy ⟨r4, r5, r6, ls, x, rfl, b3, hp3, ch3, lx3, ok3⟩
        have hd3 := chD_but hd hp b3
        obtain ⟨a', xs', ra', ea', all'⟩ := id hd3.list
        cases ra'
        rw [b3 _ _ nap ea] at ea'
        cases ea'
        obtain ⟨d, hdd, dx⟩ := all'.from_ hy
        rw [List.getElem?_map] at hdd
        cases ew : c[m]? with
        | none => rw [ew] at hdd; cases hdd
        | some r0 =>
          rw [ew] at hdd
          cases hdd
          have rm := List.mem_of_getElem? ew
          have ml := (List.getElem?_eq_some_iff.mp ew).1
          obtain ⟨b, ws, rfl, eb, _⟩ := id dx.list
          obtain ⟨ws', eb', lw, ents⟩ := rowD_ent dx
          rw [eb] at eb'
          cases eb'
          have nbp : b ≠ pt := by
            obtain ⟨ts, e, _⟩ := rowAt_of dx
            exact refs_not_pot hp3 e
          refine ⟨.ref F, rfl, .inl ⟨rfl, _, SqL.of ch3.e⟩, .ref b, rfl, b, rfl, ⟨_, SqL.of eb⟩, fun L hL => ?_⟩
          have nLp : L ≠ pt := hp3.ne hL
          have nLF : L ≠ F := fun z => by rw [z, ch3.e] at hL; cases hL
          refine lc_it (w := walk_list (K := K) (a := b) (xs := ws)) (g := gTup K 2 (gCons (gName 5) (gCons (gName 6) gNil))) (tt := tYes) (fun j G => But pt H3 G ∧ PotAt G pt ∧ ∃ (ts : List Addr) (r : List (Str × Nat)), G L = some (.lst (ts.map V.ref)) ∧ EntsAt G ts r ∧ r.length = j ∧ ∀ e ∈ r, (wordD (.str e.1) = true ∧ (e.1.length : Int) = q) ∧ (e.2 : Int) < 2 * c.length)
            ⟨But.same (Same.new hL), hp3.same (Same.new hL), [], [], upd_same, EntsAt.nil, rfl, fun e he => by cases he⟩ (fun j G hj ⟨bb, _⟩ => SqL.of (bb _ _ nbp eb)) (fun j y G G' hj hP hy => ?_) (fun G hP => ?_)
          · obtain ⟨b4, hp4, ts, r, eL4, en4, lr, ok4⟩ := hP
            obtain ⟨rfl, hy⟩ := hy
            obtain ⟨tt, en, he, rfl, htt⟩ := ents j y hy
            have em := List.mem_of_getElem? he
            have e2 := oc.wf.2 r0 rm en em
            refine ⟨tt, [.str en.1, .int (en.2 : Int)], rfl, SqT.of (b4 _ _ (tup_not_pot hp3 htt) htt), rfl, .str en.1, _, rfl, .int (en.2 : Int), _, rfl, rfl, rfl, yes_of (iteT ?_)⟩
            refine ⟨.str en.1, rfl, .int (en.2 : Int), rfl, .ref a, rfl, .ref a, _, rfl, .inl ⟨_, SqL.of (b4 _ _ nap (b3 _ _ nap ea)), rfl⟩, .ref pt, rfl, pt, 2, rfl, hp4, by omega, by decide, fun y H5 y0 y1 hp5 b5 => ?_⟩
            obtain ⟨n, rfl⟩ := Int.eq_ofNat_of_zero_le y0
            have eL5 := b5 _ _ nLp eL4
            have bound : (en.2 : Int) + (xs.length : Int) * (n : Int) = ((en.2 + xs.length * n : Nat) : Int) := by push_cast; rfl
            have lt2 : en.2 + xs.length * n < 2 * c.length := by
              rw [lx]
              have n2 : n = 0 ∨ n = 1 := by omega
              rcases n2 with rfl | rfl
              · rw [Nat.mul_zero]; omega
              · rw [Nat.mul_one]; omega
            refine ⟨_, _, rfl, rfl, .inl ⟨by omega, by omega⟩, _, _, rfl, rfl, (by show 2 ≤ sizeLine; decide), fun T hT => ?_⟩
            have ST := Same.new hT (o := .tup [V.str en.1, .int ((en.2 : Int) + (xs.length : Int) * (n : Int))])
            have nLT : L ≠ T := ne_of_none eL5 hT
            have jl : j < r0.length := (List.getElem?_eq_some_iff.mp he).1
            have rl := oc.rows r0 rm
            refine ⟨_, ST _ _ eL5, by rw [List.length_map, en4.1, lr, sizeLine_eq]; omega, fun b' o nb eb' => ?_, ?_, ts ++ [T], r ++ [(en.1, en.2 + xs.length * n)], by rw [upd_same, List.map_append]; rfl, ?_, by rw [List.length_append, lr]; rfl, fun e he' => ?_⟩
            · rw [upd_ne (ne_of_none eb' hL)]
              exact ST _ _ (b5 _ _ nb (b4 _ _ nb eb'))
            · obtain ⟨u, v, ep, kp⟩ := hp5.same ST
              exact ⟨u, v, (upd_ne nLp.symm).trans ep, kp⟩
            · refine ((en4.mono fun a' ys e => ?_).snoc (e := (en.1, en.2 + xs.length * n)) ?_)
              · rw [upd_ne (fun z => by rw [z, eL4] at e; cases e)]
                exact ST _ _ (b5 _ _ (tup_not_pot hp4 e) e)
              · rw [upd_ne nLT.symm]
                show _ = some (HO.tup [V.str en.1, V.int ((en.2 + xs.length * n : Nat) : Int)])
                rw [← bound]
                exact upd_same
            · rcases List.mem_append.mp he' with he' | he'
              · exact ok4 e he'
              · rw [List.mem_singleton.mp he']
                exact ⟨oc.blocks r0 rm en em, by show ((en.2 + xs.length * n : Nat) : Int) < _; omega⟩
          · obtain ⟨b4, hp4, ts, r, eL4, en4, lr, ok4⟩ := hP
            have ch4 := ch3.but hp3 b4
            have lc4 := ch4.l
            have lm : c.length * i ≤ c.length * 1 := Nat.mul_le_mul_left _ (by omega)
            refine ⟨F, _, .ref L, rfl, rfl, ch4.e, by rw [List.length_map, lc4, lx3, sizeLine_eq]; omega, ?_⟩
            have rl := oc.rows r0 rm
            refine ⟨_, _, _, _, x ++ [r], rfl, fun b' o nb eb' => ?_, ?_, ch4.snoc (RowAt.ents eL4 en4) nLF, by rw [List.length_append, lx3]; rfl, ok3.snoc ⟨by rw [lr, lw]; exact rl, ok4⟩⟩
            · rw [upd_ne (ne_of_none eb' hF)]
              exact b4 _ _ nb (b3 _ _ nb eb')
            · obtain ⟨u, v, ep, kp⟩ := hp4
              exact ⟨u, v, (upd_ne nFp.symm).trans ep, kp⟩
      · rintro σ H3 ⟨r4, r5, r6, ls, x, rfl, b3, hp3, ch3, lx3, ok3⟩
        exact ⟨_, _, _, _, ls, x, rfl, b3, hp3, ch3, by rw [lx3, lx, Nat.mul_succ], ok3⟩
    · rintro σ H2 ⟨r3, r4, r5, r6, ls, x, rfl, b2, hp2, ch2, lx2, ok2⟩
      have l2 : x.length = 2 * c.length := by
        rw [lx2, show (2 : Int).toNat = 2 from rfl]
        omega
      have e1 : (x.length : Int) * 2 ^ p.toNat ≤ (x.length : Int) * 64 := Int.mul_le_mul_of_nonneg_left pw2 (by omega)
      have c0 := oc.wf.1
      exact ⟨.ref F, rfl, k F x H2 b2 hp2 hF ch2.dx (ok2.ch (by omega) (by omega) (by omega)) (by omega)⟩
end
end K52
end

section
set_option maxHeartbeats 4000000
/-! a table with one entry otherwise -/
namespace K52
open PySem PySem.Spec PyProof.Rows L2
theorem ixN_at {n j : Nat} (hj : j < n) : ixN n (j : Int) = some j := by
  unfold ixN
  rw [if_pos (by omega), if_pos (by omega), Int.toNat_natCast]
theorem EntsAt.set {H : Hp} {ts : List Addr} {r : List (Str × Nat)} (h : EntsAt H ts r) {j : Nat} {T : Addr} {e : Str × Nat} (hj : j < r.length) (ht : H T = some (.tup [.str e.1, .int e.2])) : EntsAt H (ts.set j T) (r.set j e) := by
  refine ⟨by rw [List.length_set, List.length_set, h.1], fun m t hm => ?_⟩
  rw [List.getElem?_set] at hm ⊢
  by_cases q : j = m
  · subst q
    rw [if_pos rfl, if_pos (by rw [h.1]; exact hj)] at hm
    cases hm
    exact ⟨e, by rw [if_pos rfl, if_pos hj], ht⟩
  · rw [if_neg q] at hm
    rw [if_neg q]
    exact h.2 m t hm
theorem ChL.set {H : Hp} {F l : Addr} {ls : List Addr} {c : Ch} {i : Nat} {ts ts' : List Addr} {r' : List (Str × Nat)} (h : ChL H F ls c) (nd : ls.Nodup) (hl : ls[i]? = some l) (el : H l = some (.lst (ts.map V.ref))) (en : EntsAt H ts' r') : ChL (upd H l (.lst (ts'.map V.ref))) F ls (c.set i r') := by
  have tp : ∀ a xs, H a = some (.tup xs) → (upd H l (.lst (ts'.map V.ref))) a = some (.tup xs) := fun a xs e => by
    rw [upd_ne (fun z => by rw [z, el] at e; cases e)]
    exact e
  have hi := (List.getElem?_eq_some_iff.mp hl).1
  refine ⟨by rw [upd_ne (h.ne hl).symm]; exact h.e, by rw [List.length_set, h.l], fun m l' hm => ?_⟩
  rw [List.getElem?_set]
  by_cases q : i = m
  · subst q
    rw [hl] at hm
    cases hm
    exact ⟨r', by rw [if_pos rfl, if_pos (by rw [← h.l]; exact hi)], RowAt.ents upd_same (en.mono tp)⟩
  · rw [if_neg q]
    obtain ⟨r, h1, h2⟩ := h.k m l' hm
    have hm' := (List.getElem?_eq_some_iff.mp hm).1
    have nl : l' ≠ l := fun z => q ((List.getElem_inj (h₀ := hi) (h₁ := hm') nd).mp (by
      have e1 := (List.getElem?_eq_some_iff.mp hl).2
      have e2 := (List.getElem?_eq_some_iff.mp hm).2
      rw [e1, e2, z]))
    exact ⟨r, h1, h2.mono tp fun ls' e => by rw [upd_ne nl]; exact e⟩
theorem okCh.set {p q : Int} {c : Ch} (h : okCh p q c) {i j : Nat} {r : List (Str × Nat)} {e : Str × Nat} (hr : c[i]? = some r) (he : (wordD (.str e.1) = true ∧ (e.1.length : Int) = q)) (hn : e.2 < c.length) : okCh p q (c.set i (r.set j e)) := by
  have m : ∀ r' ∈ c.set i (r.set j e), r' ∈ c ∨ r' = r.set j e := fun r' hr' => List.mem_or_eq_of_mem_set hr'
  have rm := List.mem_of_getElem? hr
  have me : ∀ e' ∈ r.set j e, e' ∈ r ∨ e' = e := fun e' he' => List.mem_or_eq_of_mem_set he'
  refine ⟨⟨by rw [List.length_set]; exact h.wf.1, fun r' hr' e' he' => ?_⟩, fun r' hr' => ?_, fun r' hr' e' he' => ?_, by rw [List.length_set]; exact h.most⟩
  · rw [List.length_set]
    rcases m r' hr' with hr' | rfl
    · exact h.wf.2 r' hr' e' he'
    · rcases me e' he' with he' | rfl
      · exact h.wf.2 r rm e' he'
      · exact hn
  · rcases m r' hr' with hr' | rfl
    · exact h.rows r' hr'
    · rw [List.length_set]
      exact h.rows r rm
  · rcases m r' hr' with hr' | rfl
    · exact h.blocks r' hr' e' he'
    · rcases me e' he' with he' | rfl
      · exact h.blocks r rm e' he'
      · exact he
theorem cut_one {z : Str} {k : Nat} {c : Nat} (hk : k < z.length) (hz : wordD (.str z) = true) (hc : c ∈ (PySem.Str.ofString "abcd").cps.toList) :
    wordD (.str (cutS z none (some (k : Int)) ++ ⟨#[c]⟩ ++ cutS z (some ((k : Int) + 1)) none)) = true ∧ (cutS z none (some (k : Int)) ++ ⟨#[c]⟩ ++ cutS z (some ((k : Int) + 1)) none).length = z.length := by
  have ezl : z.cps.toList.length = z.length := by simp [Str.length]
  have e1 : (cutS z none (some (k : Int))).cps.toList = z.cps.toList.take k := by
    unfold cutS
    rw [HT.sIx_none, HT.sIx_nat, Nat.min_eq_left (by omega)]
    simp
  have e2 : (cutS z (some ((k : Int) + 1)) none).cps.toList = z.cps.toList.drop (k + 1) := by
    unfold cutS
    rw [HT.sIx_none, show ((k : Int) + 1) = ((k + 1 : Nat) : Int) by omega, HT.sIx_nat, Nat.min_eq_left (by omega)]
    show (List.take (z.length - (k + 1)) (List.drop (k + 1) z.cps.toList)) = _
    exact List.take_of_length_le (by rw [List.length_drop, ezl]; omega)
  have ap : ∀ a b : Str, (a ++ b).cps.toList = a.cps.toList ++ b.cps.toList := fun a b => by
    show (a.cps ++ b.cps).toList = _
    exact Array.toList_append
  have ee : (cutS z none (some (k : Int)) ++ ⟨#[c]⟩ ++ cutS z (some ((k : Int) + 1)) none).cps.toList = z.cps.toList.take k ++ [c] ++ z.cps.toList.drop (k + 1) := by
    rw [ap, ap, e1, e2]
  constructor
  · show (cutS z none (some (k : Int)) ++ ⟨#[c]⟩ ++ cutS z (some ((k : Int) + 1)) none).cps.toList.all sgn = true
    rw [ee]
    refine List.all_eq_true.mpr fun x hx => ?_
    have hz' := List.all_eq_true.mp (show z.cps.toList.all sgn = true from hz)
    rcases List.mem_append.mp hx with hx | hx
    · rcases List.mem_append.mp hx with hx | hx
      · exact hz' x (List.mem_of_mem_take hx)
      · rw [List.mem_singleton.mp hx]
        exact decide_eq_true hc
    · exact hz' x (List.mem_of_mem_drop hx)
  · have el : ∀ s : Str, s.length = s.cps.toList.length := fun s => by simp [Str.length]
    rw [el, ee, List.length_append, List.length_append, List.length_take, List.length_drop, ezl]
    show min k z.length + 1 + _ = _
    omega
def spOther : Sp := fun vs H Q _ => ∃ (pt : Addr) (v : V) (p q : Int) (c : Ch), vs = [.ref pt, v] ∧ PotAt H pt ∧ fitP p q ∧ Dx H v (chD c) ∧ okCh p q c ∧ c.length ≤ 12 ∧
  ∀ (F : Addr) (x : Ch) (H' : Hp), But pt H H' → PotAt H' pt → H F = none → Dx H' (.ref F) (chD x) → okCh p q x → x.length ≤ 24 → Q (.ref F) H'
section
variable {P : Program} {w : World} {K : PySem.W.Frag} {mg : Str → Option Value} {base : Heap} {ad : Str → Addr} {fd : Str → FuncData}
theorem scOther : FnScope ["_law_pot_here", "_law_chart", "_law_found", "_law_at", "_law_spot_now", "_law_piece", "_law_to", "_law_place", "_law_line"] ["_law_pot_here", "_law_chart"] (defScope sOther) := ⟨rfl, rfl, rfl, by decide +kernel, rfl, by decide +kernel, by decide +kernel⟩
theorem ok_other (X : Tx K mg ad fd) : FnOk P w K mg base CX0 3 (ad "_law_other") (fd "_law_other") ["_law_pot_here", "_law_chart"] spOther := by
  have G__law_draw := ok_draw (P := P) (w := w) (base := base) X
  have G__law_pick := ok_pick (P := P) (w := w) (base := base) X
  refine X.F__law_other.ok scOther (fun vs H Q E h => ?_) (fun cdv A outer s H vs Q E hr h => ?_)
  · obtain ⟨pt, v, p, q, c, rfl, _⟩ := h
    rfl
  · obtain ⟨pt, v, p, q, c, rfl, hp, fit, hd, oc, cl, k⟩ := h
    have HR__law_pick := hr
    have HR__law_draw : Room 1 _ := hr.mono (by decide)
    refine ⟨_, (pss_cons (ps_setLc (i := 2) (own := [("_law_line", 8)]) (g := gName 8) rfl scOther.nd rfl rfl (by rfl) (pi_list (pv 1)) (blkOk_by (own := [("_law_line", 8)]) (N := ["_law_pot_here", "_law_chart", "_law_found", "_law_at", "_law_spot_now", "_law_piece", "_law_to", "_law_place", "_law_line"]) (sc := defScope sOther) (by decide +kernel)) (fun _ _ _ _ _ => pg_name (i := 8) scOther.nd rfl (Or.inl rfl)) (fun _ _ _ _ _ => pts_nil) (fun _ _ _ _ _ => (pe_callTy (call_list_ofK (K := K) rfl) (by rfl) X.m_list (by decide +kernel) (pa_cons (pv 8) pa_nil))))
  (pss_cons (ps_set (i := 3) scOther.nd rfl (.inl rfl) (by exact (pe_call G__law_draw HR__law_draw (by rfl) X.g__law_draw X.F__law_draw.kp X.b__law_draw .nil pass0 (pa_cons (pv 0) (pa_cons (pe_callB call_len (by rfl) X.m_len (by decide +kernel) (pa_cons (pv 2) pa_nil)) pa_nil)))))
  (pss_cons (ps_set (i := 4) scOther.nd rfl (.inl rfl) (by exact (pe_call G__law_draw HR__law_draw (by rfl) X.g__law_draw X.F__law_draw.kp X.b__law_draw .nil pass0 (pa_cons (pv 0) (pa_cons (pe_callB call_len (by rfl) X.m_len (by decide +kernel) (pa_cons (pe_ix ix_list (pv 2) (pv 3) (fun _ _ => rfl)) pa_nil)) pa_nil)))))
  (pss_cons (ps_asg (by exact (pe_ix ix_list (pe_ix ix_list (pv 2) (pv 3) (fun _ _ => rfl)) (pv 4) (fun _ _ => rfl))) (pg_tup rfl (pgs_cons (pg_name (i := 5) scOther.nd rfl (.inl rfl)) (pgs_cons (pg_name (i := 6) scOther.nd rfl (.inl rfl)) pgs_nil))))
  (pss_cons (ps_if (pt_cmpR op_eq (pe_call G__law_draw HR__law_draw (by rfl) X.g__law_draw X.F__law_draw.kp X.b__law_draw .nil pass0 (pa_cons (pv 0) (pa_cons pe_int pa_nil))) pe_int (nomark _))
  (pss_one (ps_asg (by exact (pe_tup (pa_cons (pv 5) (pa_cons (pe_op op_mod (pe_op op_add (pv 6) pe_int) (pe_callB call_len (by rfl) X.m_len (by decide +kernel) (pa_cons (pv 2) pa_nil))) pa_nil)))) (pg_sub (pe_ix ix_list (pv 2) (pv 3) (fun _ _ => rfl)) (pv 4) set_list)))
  (pss_cons (ps_set (i := 7) scOther.nd rfl (.inl rfl) (by exact (pe_call G__law_draw HR__law_draw (by rfl) X.g__law_draw X.F__law_draw.kp X.b__law_draw .nil pass0 (pa_cons (pv 0) (pa_cons (pe_callB call_len (by rfl) X.m_len (by decide +kernel) (pa_cons (pv 5) pa_nil)) pa_nil)))))
  (pss_one (ps_asg (by exact (pe_tup (pa_cons (pe_op op_add_str (pe_op op_add_str (pe_slice sl_str (pv 5) po_none (po_some (pv 7))) (pe_call G__law_pick HR__law_pick (by rfl) X.g__law_pick X.F__law_pick.kp X.b__law_pick .nil pass0 (pa_cons (pv 0) (pa_cons pe_str pa_nil)))) (pe_slice sl_str (pv 5) (po_some (pe_op op_add (pv 7) pe_int)) po_none)) (pa_cons (pv 6) pa_nil)))) (pg_sub (pe_ix ix_list (pv 2) (pv 3) (fun _ _ => rfl)) (pv 4) set_list)))))
  (pss_one (ps_ret (by exact (pv 2))))))))), ?_⟩
    obtain ⟨pw1, pw2⟩ := pow_b fit
    obtain ⟨a, xs, ra, ea, all⟩ := id hd.list
    have lx : xs.length = c.length := by rw [all.length, List.length_map]
    subst ra
    refine ⟨.ref a, rfl, a, rfl, ⟨_, SqL.of ea⟩, fun F hF => ?_⟩
    have nFp : F ≠ pt := hp.ne hF
    refine lc_copy hF hd ea (by omega) (fun _ => rfl) (fun b ts H' s1 eb Q' q' => ⟨.ref b, rfl, b, _, rfl, .inl (SqL.of eb), q'⟩) (fun H2 ls s2 ch2 nd fr => ?_)
    have hp2 := hp.same s2
    have c0 := oc.wf.1
    refine ⟨.ref pt, rfl, .ref F, rfl, .ref F, _, rfl, .inl ⟨_, SqL.of ch2.e, rfl⟩, pt, _, rfl, hp2, by rw [List.length_map, ch2.l]; omega, log_small (by omega) (by rw [List.length_map, ch2.l]; omega), fun y H3 y0 y1 hp3 b3 => ?_⟩
    obtain ⟨i, rfl⟩ := Int.eq_ofNat_of_zero_le y0
    rw [List.length_map, ch2.l] at y1
    have ch3 := ch2.but hp2 b3
    have il : i < ls.length := by rw [ch2.l]; omega
    obtain ⟨l, hl⟩ : ∃ l, ls[i]? = some l := ⟨_, List.getElem?_eq_getElem il⟩
    obtain ⟨r, hr0, ts, el3, lt3, en3⟩ := ch3.k i l hl
    have rm := List.mem_of_getElem? hr0
    have rl := oc.rows r rm
    have atF : ∀ {H' : Hp}, atI (ls.map V.ref) (i : Int) = some (V.ref l) := fun {H'} => atI_nat (by rw [List.getElem?_map, hl]; rfl)
    refine ⟨.ref pt, rfl, .ref F, rfl, .int (i : Int), rfl, F, _, (i : Int), .ref l, rfl, rfl, SqL.of ch3.e, atF (H' := H3), .ref l, _, rfl, .inl ⟨_, SqL.of el3, rfl⟩, pt, _, rfl, hp3, by rw [List.length_map, lt3]; omega, log_small (by omega) (by rw [List.length_map, lt3]; omega), fun y H4 z0 z1 hp4 b4 => ?_⟩
    obtain ⟨j, rfl⟩ := Int.eq_ofNat_of_zero_le z0
    rw [List.length_map, lt3] at z1
    have ch4 := ch3.but hp3 b4
    have el4 := b4 _ _ (refs_not_pot hp3 el3) el3
    have en4 : EntsAt H4 ts r := ⟨lt3, fun j t z => let ⟨e, h1, h2⟩ := en3 j t z; ⟨e, h1, b4 _ _ (tup_not_pot hp3 h2) h2⟩⟩
    have jl : j < r.length := by omega
    obtain ⟨t, ht⟩ : ∃ t, ts[j]? = some t := ⟨_, List.getElem?_eq_getElem (by rw [lt3]; exact jl)⟩
    obtain ⟨e, he, et⟩ := en4.2 j t ht
    have em := List.mem_of_getElem? he
    have bl := oc.blocks r rm e em
    have e2 := oc.wf.2 r rm e em
    have atL : atI (ts.map V.ref) (j : Int) = some (V.ref t) := atI_nat (by rw [List.getElem?_map, ht]; rfl)
    have b24 := b3.trans b4
    have bH4 : But pt H H4 := (But.same s2).trans b24
    have lnF : F ≠ l := (ch4.ne hl).symm
    have lfr : H l = none := fr l (List.mem_of_getElem? hl)
    obtain ⟨h1, h2, h3, h4⟩ := id fit
    refine ⟨.ref F, rfl, .int (i : Int), rfl, F, _, (i : Int), .ref l, rfl, rfl, SqL.of ch4.e, atF (H' := H4), .int (j : Int), rfl, l, _, (j : Int), .ref t, rfl, rfl, SqL.of el4, atL, t, _, rfl, SqT.of et, rfl, .str e.1, _, rfl, .int (e.2 : Int), _, rfl, rfl, ?_⟩
    have done : ∀ (H5 : Hp) (T : Addr) (e' : Str × Nat), But pt H H5 → PotAt H5 pt → ChL H5 F ls c → H5 l = some (.lst (ts.map V.ref)) → EntsAt H5 ts r → H5 T = none → (wordD (.str e'.1) = true ∧ (e'.1.length : Int) = q) → e'.2 < c.length →
        Q (.ref F) (upd (upd H5 T (.tup [.str e'.1, .int (e'.2 : Int)])) l (.lst ((ts.map V.ref).set j (V.ref T)))) := fun H5 T e' b5 hp5 ch5 el5 en5 hT he' hn' => by
      have ST := Same.new hT (o := .tup [V.str e'.1, .int (e'.2 : Int)])
      have nl : l ≠ pt := refs_not_pot hp5 el5
      rw [show (ts.map V.ref).set j (V.ref T) = (ts.set j T).map V.ref from (List.map_set ..).symm]
      have ch6 := (ch5.same ST).set nd hl (ST _ _ el5) (EntsAt.set (en5.mono fun a xs e => ST _ _ e) jl (e := e') upd_same)
      refine k F _ _ (fun b o nb eb => ?_) ?_ hF ch6.dx (oc.set hr0 he' hn') (by rw [List.length_set]; omega)
      · rw [upd_ne (ne_of_none eb lfr)]
        exact ST _ _ (b5 _ _ nb eb)
      · obtain ⟨u, v, ep, kp⟩ := hp5.same ST
        exact ⟨u, v, (upd_ne nl.symm).trans ep, kp⟩
    refine ⟨.ref pt, rfl, pt, 2, rfl, hp4, by omega, by decide, fun y H5 w0 w1 hp5 b5 => ?_⟩
    have ch5 := ch4.but hp4 b5
    have el5 := b5 _ _ (refs_not_pot hp4 el4) el4
    have en5 := en4.mono fun a xs e => b5 _ _ (tup_not_pot hp4 e) e
    have bH5 := bH4.trans b5
    have ixj : ixN (ts.map V.ref).length (j : Int) = some j := ixN_at (by rw [List.length_map, lt3]; exact jl)
    refine ⟨rfl, _, rfl, ?_⟩
    by_cases hy : y = 0
    · rw [decide_eq_true (show V.int y = V.int 0 by rw [hy])]
      have lsl : ((ls.map V.ref).length : Int) = (c.length : Int) := by rw [List.length_map, ch2.l]
      refine iteT ⟨.str e.1, rfl, .int (e.2 : Int), rfl, _, 1, rfl, rfl, .ref F, rfl, .ref F, _, rfl, .inl ⟨_, SqL.of ch5.e, rfl⟩, _, _, rfl, rfl, by rw [lsl]; omega, (by show 2 ≤ sizeLine; decide), fun T hT => ?_⟩
      have nT : F ≠ T := ne_of_none ch5.e hT
      have ST := Same.new hT (o := .tup [V.str e.1, .int (((e.2 : Int) + 1) % ((ls.map V.ref).length : Int))])
      have ev : ((e.2 : Int) + 1) % ((ls.map V.ref).length : Int) = (((e.2 + 1) % c.length : Nat) : Int) := by rw [lsl]; push_cast; rfl
      refine ⟨.ref F, rfl, .int (i : Int), rfl, F, _, (i : Int), .ref l, rfl, rfl, SqL.of (ST _ _ ch5.e), atF (H' := H5), .int (j : Int), rfl, l, _, (j : Int), j, rfl, rfl, ST _ _ el5, ixj, .ref F, rfl, ?_⟩
      have := done H5 T (e.1, (e.2 + 1) % c.length) bH5 hp5 ch5 el5 en5 hT bl (Nat.mod_lt _ c0)
      rw [← ev] at this
      exact this
    · rw [decide_eq_false (show ¬ V.int y = V.int 0 from fun z => hy (V.int.inj z))]
      refine iteF ?_
      have el1 : e.1.length ≤ sizeLine := by rw [sizeLine_eq]; omega
      refine ⟨.ref pt, rfl, .str e.1, rfl, .str e.1, e.1.length, rfl, ⟨el1, rfl⟩, pt, _, rfl, hp5, by omega, log_small (by omega) (by omega), fun y2 H6 u0 u1 hp6 b6 => ?_⟩
      obtain ⟨k2, rfl⟩ := Int.eq_ofNat_of_zero_le u0
      have ch6 := ch5.but hp5 b6
      have el6 := b6 _ _ (refs_not_pot hp5 el5) el5
      have en6 := en5.mono fun a xs e => b6 _ _ (tup_not_pot hp5 e) e
      have bH6 := bH5.trans b6
      refine ⟨.str e.1, rfl, .int (k2 : Int), rfl, (k2 : Int), rfl, e.1, rfl, el1, .ref pt, rfl, pt, .str "abcd", rfl, hp6, .inl ⟨_, rfl, by decide +kernel, by decide +kernel, fun x H7 hx hp7 b7 => ?_⟩⟩
      have ch7 := ch6.but hp6 b7
      have el7 := b7 _ _ (refs_not_pot hp6 el6) el6
      have en7 := en6.mono fun a xs e => b7 _ _ (tup_not_pot hp6 e) e
      have bH7 := bH6.trans b7
      obtain ⟨cw, cn⟩ := cut_one (k := k2) (by omega) bl.1 hx
      have c1 := cutS_length e.1 none (some (k2 : Int))
      have c2 := cutS_length e.1 (some ((k2 : Int) + 1)) none
      have s1 : (⟨#[x]⟩ : Str).length = 1 := rfl
      have se := sizeLine_eq
      refine ⟨_, _, rfl, rfl, by rw [s1]; omega, .str e.1, rfl, .int (k2 : Int), rfl, (k2 : Int), 1, rfl, rfl, _, rfl, e.1, rfl, el1, _, _, rfl, rfl, by rw [len_app, s1]; omega, .int (e.2 : Int), rfl, (by show 2 ≤ sizeLine; decide), fun T hT => ?_⟩
      have ST := Same.new hT (o := .tup [V.str (cutS e.1 none (some (k2 : Int)) ++ ⟨#[x]⟩ ++ cutS e.1 (some ((k2 : Int) + 1)) none), .int (e.2 : Int)])
      refine ⟨.ref F, rfl, .int (i : Int), rfl, F, _, (i : Int), .ref l, rfl, rfl, SqL.of (ST _ _ ch7.e), atF (H' := H7), .int (j : Int), rfl, l, _, (j : Int), j, rfl, rfl, ST _ _ el7, ixj, .ref F, rfl, ?_⟩
      exact done H7 T (cutS e.1 none (some (k2 : Int)) ++ ⟨#[x]⟩ ++ cutS e.1 (some ((k2 : Int) + 1)) none, e.2) bH7 hp7 ch7 el7 en7 hT ⟨cw, by rw [cn]; exact bl.2⟩ e2
end
end K52
end

section
set_option maxHeartbeats 4000000
/-! what is told, shown; coders where the pot changes -/
namespace K52
open PySem PySem.Spec PyProof PyProof.Rows L2
theorem weight_map {α : Type} {f : α → PyData} {n : Nat} : ∀ {l : List α}, (∀ x ∈ l, PyData.weight (f x) ≤ n) → PyData.weightAll (l.map f) ≤ (n + 1) * l.length
  | [], _ => by simp [PyData.weightAll]
  | x :: l, h => by
    have h1 := h x (List.mem_cons_self ..)
    have h2 := weight_map (l := l) fun y hy => h y (List.mem_cons_of_mem _ hy)
    rw [List.map_cons, List.length_cons, Nat.mul_succ]
    simp only [PyData.weightAll]
    omega
theorem showable_map {α : Type} {f : α → PyData} : ∀ {l : List α}, (∀ x ∈ l, PyData.showable (f x) = true) → PyData.showableAll (l.map f) = true
  | [], _ => by simp [PyData.showableAll]
  | x :: l, h => by
    rw [List.map_cons]
    simp only [PyData.showableAll, Bool.and_eq_true]
    exact ⟨h x (List.mem_cons_self ..), showable_map fun y hy => h y (List.mem_cons_of_mem _ hy)⟩
theorem short_map {α : Type} {f : α → PyData} : ∀ {l : List α}, (∀ x ∈ l, PyData.intsShort 13 (f x) = true) → PyData.intsShortAll 13 (l.map f) = true
  | [], _ => by simp [PyData.intsShortAll]
  | x :: l, h => by
    rw [List.map_cons]
    simp only [PyData.intsShortAll, Bool.and_eq_true]
    exact ⟨h x (List.mem_cons_self ..), short_map fun y hy => h y (List.mem_cons_of_mem _ hy)⟩
theorem log_le {n : Nat} (h : n ≤ 1000) : (n : Int).natAbs.log2 < 11 := by
  show ((n : Int).natAbs).log2 < 11
  rw [Int.natAbs_natCast]
  by_cases z : n = 0
  · rw [z]; decide
  · exact (Nat.log2_lt z).mpr (by omega)
theorem int_short {n : Nat} (h : n ≤ 1000) : PyData.intsShort 13 (.int (n : Int)) = true := by
  simp only [PyData.intsShort]
  refine decide_eq_true ?_
  show ((toString (n : Int) : Str)).length ≤ 13
  have := len_small n h
  omega
theorem int_showable {n : Nat} (h : n ≤ 1000) : PyData.showable (.int (n : Int)) = true := by
  simp only [PyData.showable]
  exact decide_eq_true (by have := log_le h; omega)
theorem int_weight {n : Nat} (h : n ≤ 1000) : PyData.weight (.int (n : Int)) ≤ 11 := by
  simp only [PyData.weight]
  have := log_le h
  split <;> omega
/-- a table of few rows -/
structure okK (p q : Int) (c : Ch) : Prop where
  ok : okCh p q c
  few : c.length ≤ 24
theorem okK.rows {p q : Int} {c : Ch} (h : okK p q c) (f : fitP p q) : ∀ r ∈ c, r.length ≤ 64 := fun r hr => by
  have := h.ok.rows r hr
  have := (pow_b f).2
  omega
theorem okK.blocks {p q : Int} {c : Ch} (h : okK p q c) (f : fitP p q) : ∀ r ∈ c, ∀ e ∈ r, e.1.length ≤ 6 := fun r hr e he => by
  have := (h.ok.blocks r hr e he).2
  have := f.2.2.2
  omega
theorem okK.words {p q : Int} {c : Ch} (h : okK p q c) : okBlocks c := fun r hr e he => (h.ok.blocks r hr e he).1
theorem okK.nums {p q : Int} {c : Ch} (h : okK p q c) : ∀ r ∈ c, ∀ e ∈ r, e.2 ≤ 1000 := fun r hr e he => by
  have := h.ok.wf.2 r hr e he
  have := h.few
  omega
theorem chD_weight {p q : Int} {c : Ch} (h : okK p q c) (f : fitP p q) : PyData.weight (chD c) ≤ 40000 := by
  show PyData.weight (.list (c.map rowD)) ≤ _
  simp only [PyData.weight]
  have h1 : PyData.weightAll (c.map rowD) ≤ (1300 + 1) * c.length := weight_map fun r hr => by
    show PyData.weight (.list (r.map entD)) ≤ _
    simp only [PyData.weight]
    have h2 : PyData.weightAll (r.map entD) ≤ (19 + 1) * r.length := weight_map fun e he => by
      have l1 := h.blocks f r hr e he
      have l2 := int_weight (h.nums r hr e he)
      show PyData.weight (.tuple [.str e.1, .int (e.2 : Int)]) ≤ 19
      have e1 : PyData.weight (.tuple [.str e.1, .int (e.2 : Int)]) = e.1.cps.size + 1 + (PyData.weight (.int (e.2 : Int)) + 1 + 0) := by
        simp only [PyData.weight, PyData.weightAll]
      rw [e1]
      have : e.1.cps.size = e.1.length := rfl
      omega
    have := h.rows f r hr
    omega
  have := h.few
  omega
theorem chD_showable {p q : Int} {c : Ch} (h : okK p q c) : PyData.showable (chD c) = true := by
  show PyData.showable (.list (c.map rowD)) = true
  simp only [PyData.showable]
  refine showable_map fun r hr => ?_
  show PyData.showable (.list (r.map entD)) = true
  simp only [PyData.showable]
  refine showable_map fun e he => ?_
  have := int_showable (h.nums r hr e he)
  simp only [entD, PyData.showable, PyData.showableAll, Bool.and_true, Bool.true_and]
  simpa only [PyData.showable] using this
theorem chD_short {p q : Int} {c : Ch} (h : okK p q c) : PyData.intsShort 13 (chD c) = true := by
  show PyData.intsShort 13 (.list (c.map rowD)) = true
  simp only [PyData.intsShort]
  refine short_map fun r hr => ?_
  show PyData.intsShort 13 (.list (r.map entD)) = true
  simp only [PyData.intsShort]
  refine short_map fun e he => ?_
  have := int_short (h.nums r hr e he)
  simp only [entD, PyData.intsShort, PyData.intsShortAll, Bool.and_true, Bool.true_and]
  simpa only [PyData.intsShort] using this
theorem strP_ok {p q : Int} (f : fitP p q) : PyData.strOk (strP p q) = true := by
  obtain ⟨h1, h2, h3, h4⟩ := f
  have a : p = 1 ∨ p = 2 ∨ p = 3 ∨ p = 4 ∨ p = 5 ∨ p = 6 := by omega
  have b : q = 1 ∨ q = 2 ∨ q = 3 ∨ q = 4 ∨ q = 5 ∨ q = 6 := by omega
  rcases a with rfl | rfl | rfl | rfl | rfl | rfl <;> rcases b with rfl | rfl | rfl | rfl | rfl | rfl <;> decide +kernel
theorem told_shaped {p q : Int} {c : Ch} {lead : Str} (h : okK p q c) (f : fitP p q) (ol : okRow lead) : SeqAt.shaped (toldD p q lead c) = true := by
  have hs := chD_shaped h.words
  unfold SeqAt.shaped at hs ⊢
  rw [Bool.and_eq_true] at hs ⊢
  constructor
  · show PyData.canLay0 (.list [.str (strP p q), .str lead, chD c, .int (c.length : Int)]) = true
    simp only [PyData.canLay0, PyData.canLayAll0, Bool.and_eq_true]
    exact ⟨strP_ok f, word_ok ol.1, hs.1, by decide⟩
  · have d := of_decide_eq_true hs.2
    refine decide_eq_true ?_
    have dc : PyData.depth (chD c) ≤ 12 := by
      show PyData.depth (.list (c.map rowD)) ≤ 12
      simp only [PyData.depth]
      have : PyData.depthAll (c.map rowD) ≤ 10 := depth_map fun r hr => by
        show PyData.depth (.list (r.map entD)) ≤ 10
        simp only [PyData.depth]
        have : PyData.depthAll (r.map entD) ≤ 5 := depth_map fun e he => by
          simp [entD, PyData.depth, PyData.depthAll]
        omega
      omega
    show PyData.depth (.list [.str (strP p q), .str lead, chD c, .int (c.length : Int)]) ≤ 64
    simp only [PyData.depth, PyData.depthAll]
    omega
theorem told_plain (p q : Int) (lead : Str) (c : Ch) : plainD (toldD p q lead c) = true := by
  show plainAll [.str (strP p q), .str lead, chD c, .int (c.length : Int)] = true
  simp only [plainAll, chD_plain, Bool.and_true, Bool.true_and]
  rfl
theorem told_eqv (p q p' q' : Int) (lead lead' : Str) (c c' : Ch) (e : strP p q = strP p' q') : PyData.eqv (toldD p q lead c) (toldD p' q' lead' c') = decide (lead = lead' ∧ c = c') := by
  show PyData.eqv (.list [.str (strP p q), .str lead, chD c, .int (c.length : Int)]) (.list [.str (strP p' q'), .str lead', chD c', .int (c'.length : Int)]) = _
  rw [Bool.eq_iff_iff]
  simp only [PyData.eqv, PyData.eqvAll, chD_eqv, Bool.and_eq_true, decide_eq_true_eq, beq_iff_eq, and_true]
  constructor
  · rintro ⟨_, h1, h2, _⟩
    exact ⟨h1, h2⟩
  · rintro ⟨rfl, rfl⟩
    exact ⟨e, rfl, rfl, rfl⟩
theorem told_show {p q : Int} {c : Ch} {lead : Str} (h : okK p q c) (f : fitP p q) (ol : okRow lead) : (toldD p q lead c).showable = true ∧ (toldD p q lead c).depth ≤ 40 ∧ (toldD p q lead c).shown.length ≤ sizeLine := by
  have hf : c.length ≤ 1000 := by have := h.few; omega
  have sh : (toldD p q lead c).showable = true := by
    show PyData.showable (.list [.str (strP p q), .str lead, chD c, .int (c.length : Int)]) = true
    have := int_showable hf
    simp only [PyData.showable, PyData.showableAll, chD_showable h, Bool.and_true, Bool.true_and]
    simpa only [PyData.showable] using this
  have dc : PyData.depth (chD c) ≤ 12 := by
    show PyData.depth (.list (c.map rowD)) ≤ 12
    simp only [PyData.depth]
    have : PyData.depthAll (c.map rowD) ≤ 10 := depth_map fun r hr => by
      show PyData.depth (.list (r.map entD)) ≤ 10
      simp only [PyData.depth]
      have : PyData.depthAll (r.map entD) ≤ 5 := depth_map fun e he => by
        simp [entD, PyData.depth, PyData.depthAll]
      omega
    omega
  have dp : (toldD p q lead c).depth ≤ 40 := by
    show PyData.depth (.list [.str (strP p q), .str lead, chD c, .int (c.length : Int)]) ≤ 40
    simp only [PyData.depth, PyData.depthAll]
    omega
  refine ⟨sh, dp, ?_⟩
  have lay : PyData.canLay0 (toldD p q lead c) = true := by
    have := told_shaped h f ol
    unfold SeqAt.shaped at this
    rw [Bool.and_eq_true] at this
    exact this.1
  have sho : PyData.intsShort 13 (toldD p q lead c) = true := by
    show PyData.intsShort 13 (.list [.str (strP p q), .str lead, chD c, .int (c.length : Int)]) = true
    have := int_short hf
    simp only [PyData.intsShort, PyData.intsShortAll, chD_short h, Bool.and_true, Bool.true_and]
    simpa only [PyData.intsShort] using this
  refine PyData.shown_fits (B := 13) (by decide) (by decide) (PyData.leavesShort_of_canLay0 13 _ lay sho) ?_
  have e1 : PyData.weight (toldD p q lead c) = (strP p q).cps.size + 1 + (lead.cps.size + 1 + (PyData.weight (chD c) + 1 + (PyData.weight (.int (c.length : Int)) + 1 + 0))) := by
    show PyData.weight (.list [.str (strP p q), .str lead, chD c, .int (c.length : Int)]) = _
    simp only [PyData.weight, PyData.weightAll]
  rw [e1]
  have w1 := chD_weight h f
  have w2 := int_weight hf
  have w3 := strP_len f
  have w4 := ol.2
  have : (strP p q).cps.size = (strP p q).length := rfl
  have : lead.cps.size = lead.length := rfl
  omega
theorem okCh.kept {p q : Int} {c : Ch} (h : okCh p q c) : okCh p q (keptF c) ∧ (keptF c).length ≤ c.length := by
  obtain ⟨h1, h2, h3, h4⟩ := reached_ok h.wf
  have le : (keptF c).length ≤ c.length := by
    rw [keptF_length]
    exact nodup_len h1 h2
  have row : ∀ r ∈ keptF c, ∃ i, i ∈ reached c ∧ rowC c i ∈ c ∧ r = (rowC c i).map fun e => (e.1, (reached c).idxOf e.2) := fun r hr => by
    unfold keptF at hr
    obtain ⟨i, hi, rfl⟩ := List.mem_map.mp hr
    refine ⟨i, hi, ?_, rfl⟩
    unfold rowC
    have il := h2 i hi
    rw [List.getD_eq_getElem?_getD, List.getElem?_eq_getElem il]
    exact List.getElem_mem il
  refine ⟨⟨keptF_wf h.wf, fun r hr => ?_, fun r hr e he => ?_, ?_⟩, le⟩
  · obtain ⟨i, hi, ri, rfl⟩ := row r hr
    rw [List.length_map]
    exact h.rows _ ri
  · obtain ⟨i, hi, ri, rfl⟩ := row r hr
    obtain ⟨e', he', rfl⟩ := List.mem_map.mp he
    exact h.blocks _ ri e' he'
  · have p0 : (0 : Int) ≤ 2 ^ p.toNat := Int.le_of_lt (Int.pow_pos (by decide))
    have := Int.mul_le_mul_of_nonneg_right (show ((keptF c).length : Int) ≤ (c.length : Int) by omega) p0
    have := h.most
    omega
theorem okK.kept {p q : Int} {c : Ch} (h : okK p q c) : okK p q (keptF c) := ⟨h.ok.kept.1, by have := h.ok.kept.2; have := h.few; omega⟩
theorem RatO.but {C : Addr} {H H' : Hp} {pt a : Addr} {p q : Int} (h : RatO C H a p q) (hp : PotAt H pt) (b : But pt H H') : RatO C H' a p q := by
  obtain ⟨dx, e⟩ := h
  exact ⟨dx, b _ _ (fun z => by obtain ⟨x, y, ep, _⟩ := hp; rw [z, ep] at e; cases e) e⟩
theorem CodO.but {C R : Addr} {H H' : Hp} {pt a : Addr} {p q : Int} {c : Ch} {lead : Str} (h : CodO C R H a p q c lead) (hp : PotAt H pt) (b : But pt H H') : CodO C R H' a p q c lead := by
  obtain ⟨dx, r, l, e, hr, hd⟩ := h
  exact ⟨dx, r, l, b _ _ (fun z => by obtain ⟨x, y, ep, _⟩ := hp; rw [z, ep] at e; cases e) e, hr.but hp b, chD_but hd hp b⟩
end K52
end

section
set_option maxHeartbeats 4000000
/-! two coders beside each other -/
namespace K52
open PySem PySem.Spec PyProof.Rows L2 StX
/-- what is asked of two coders -/
structure CoderQ (K : PySem.W.Frag) (mg : Str → Option Value) (ad : Str → Addr) (fd : Str → FuncData) : Prop where
  ne : PySem.W.findIn K (.ref (ad "Coder")) "__ne__" = some (some (.builtin "object.__ne__"))
  eq : PySem.W.findIn K (.ref (ad "Coder")) "__eq__" = some (some (.ref (ad "Coder.__eq__")))
  eqf : PySem.W.isFn K (.ref (ad "Coder.__eq__")) = true
  m_end : Meth K (ad "Coder") "end" (ad "Coder.end")
  b_end : ∃ ds, Vals [V.int 0] ds ∧ Binds K (fd "Coder.end") ["self", "text", "state"] ds
  call : CallO K (ad "Coder") (ad "Coder.__call__")
  b_call : Binds K (fd "Coder.__call__") ["self", "text"] []
theorem dx_ints {H : Hp} : ∀ (ws : List Nat), DxAll H (intsV ws) (ws.map fun (w : Nat) => .int (w : Int))
  | [] => .nil
  | w :: ws => .cons (.int _) (dx_ints ws)
theorem nf_coder {K : PySem.W.Frag} {ad : Str → Addr} : PySem.W.notFirst K (ad "Coder") (.ref (ad "Coder")) = true := by unfold PySem.W.notFirst; simp
def fourD (b : Bool) : PyData := .list [.bool b, .bool b, .bool (!b), .bool (!b)]
theorem fourD_ok (b : Bool) : (fourD b).showable = true ∧ (fourD b).depth ≤ 40 ∧ (fourD b).shown.length ≤ sizeLine := by
  cases b <;> exact ⟨by decide +kernel, by decide +kernel, by decide +kernel⟩
def spBeside (C R : Addr) : Sp := fun vs H Q _ => ∃ (pt a b pc : Addr) (p q : Int) (c c' : Ch) (lead lead' : Str), vs = [.ref pt, .ref a, .ref b, .ref pc] ∧ PotAt H pt ∧ H pc = some (.tup [.int p, .int q]) ∧ fitP p q ∧
  CodO C R H a p q c lead ∧ CodO C R H b p q c' lead' ∧ okK p q c ∧ okK p q c' ∧ okRow lead ∧ okRow lead' ∧ ∀ H', But pt H H' → PotAt H' pt → Q (.bl true) H'
section
variable {P : Program} {w : World} {K : PySem.W.Frag} {mg : Str → Option Value} {base : Heap} {ad : Str → Addr} {fd : Str → FuncData}
theorem scBesideRight : FnScope ["_law_pot_here", "_law_one", "_law_two", "_law_pace", "_law_due", "_law_words_here"] ["_law_pot_here", "_law_one", "_law_two", "_law_pace"] (defScope sBesideRight) := ⟨rfl, rfl, rfl, by decide +kernel, rfl, by decide +kernel, by decide +kernel⟩
theorem ok_beside (X : Tx K mg ad fd) (RC : RateC K mg ad fd) (CC : CoderC K mg ad fd) (CM : CoderM K mg ad fd) (CE : CoderE K mg ad fd) (CH : CoderW K mg ad fd) (CH2 : CoderX K mg ad fd) (CP : CoderP K mg ad fd) (CQ : CoderQ K mg ad fd) :
    FnG P w K mg base 6 (ad "_law_beside_right") (fd "_law_beside_right") ["_law_pot_here", "_law_one", "_law_two", "_law_pace"] (spBeside (ad "Coder") (ad "Rate")) := by
  have G__law_told := ok_told (P := P) (w := w) (base := base) X RC CC CM CH CP
  have G__law_words := ok_words (P := P) (w := w) (base := base) X
  have GC := ok_ceq (P := P) (w := w) (base := base) X RC CC CE
  have FC := (ok_call (P := P) (w := w) (base := base) X RC CC CM CH CH2).raw CQ.b_call .nil
  have G_end := ok_end (P := P) (w := w) (base := base) X RC CC CM CH
  obtain ⟨dsE, hvE, hbE⟩ := CQ.b_end
  refine fnG_body X.F__law_beside_right scBesideRight (fun vs H Q E h => ?_) (fun cdv A outer s H vs Q E hr h => ?_)
  · obtain ⟨pt, a, b, pc, p, q, c, c', lead, lead', rfl, _⟩ := h
    rfl
  · obtain ⟨pt, a, b, pc, p, q, c, c', lead, lead', rfl, hp, epc, fit, ca, cb, oc, oc', ol, ol', k⟩ := h
    have hg := hr.gd
    have hs := X.sys
    have hu := hr.rm.units
    have HR__law_told : Room 4 _ := hr.rm.mono (by decide)
    have HR__law_words : Room 2 _ := hr.rm.mono (by decide)
    have HRC : Room 2 _ := hr.rm.mono (by decide)
    have HRN : Room 3 _ := hr.rm.mono (by decide)
    have HRK : Room 5 _ := hr.rm
    have HR_end : Room 4 _ := hr.rm.mono (by decide)
    refine ⟨_, (pss_cons (ps_set (i := 4) scBesideRight.nd rfl (.inl rfl) (by exact (pe_cmpR (op_eqD hu) (pe_call G__law_told HR__law_told (by rfl) X.g__law_told X.F__law_told.kp X.b__law_told .nil pass0 (pa_cons (pv 1) pa_nil)) (pe_call G__law_told HR__law_told (by rfl) X.g__law_told X.F__law_told.kp X.b__law_told .nil pass0 (pa_cons (pv 2) pa_nil)) (nomark _))))
  (pss_cons (ps_if (pt_cmpR op_ne (pe_callB (call_reprA hg hu hs) (by rfl) X.m_repr (by decide +kernel) (pa_cons (pe_lst (pa_cons (pe_cmpR (op_eqO GC HRC CE.b_eq CQ.eq CQ.eqf) (pv 1) (pv 2) (nomark _)) (pa_cons (pe_cmpR (op_eqO GC HRC CE.b_eq CQ.eq CQ.eqf) (pv 2) (pv 1) (nomark _)) (pa_cons (pe_cmpR (op_neO GC HRN CE.b_eq CE.ob CQ.ne CQ.eq CQ.eqf) (pv 1) (pv 2) (nomark _)) (pa_cons (pe_cmpR (op_neO GC HRN CE.b_eq CE.ob CQ.ne CQ.eq CQ.eqf) (pv 2) (pv 1) (nomark _)) pa_nil))))) pa_nil)) (pe_callB (call_reprA hg hu hs) (by rfl) X.m_repr (by decide +kernel) (pa_cons (pe_lst (pa_cons (pv 4) (pa_cons (pv 4) (pa_cons (pe_not (pv 4)) (pa_cons (pe_not (pv 4)) pa_nil))))) pa_nil)) (nomark _))
  (pss_one (ps_ret (by exact pe_bl)))
  pss_nil)
  (pss_cons (ps_set (i := 5) scBesideRight.nd rfl (.inl rfl) (by exact (pe_call G__law_words HR__law_words (by rfl) X.g__law_words X.F__law_words.kp X.b__law_words .nil pass0 (pa_cons (pv 0) (pa_cons (pv 3) (pa_cons pe_int pa_nil))))))
  (pss_one (ps_ret (by exact (pe_or (pe_not (pv 4)) (pe_one (pe_and (pe_cmpR op_eq (pe_callO (pv 1) CQ.call FC HRK pass0 (pa_cons (pv 5) pa_nil)) (pe_callO (pv 2) CQ.call FC HRK pass0 (pa_cons (pv 5) pa_nil)) (nomark _)) (pe_one (pe_cmpR op_eq (pe_meth (pv 1) CC.cl CQ.m_end G_end HR_end hbE hvE pass0 (pa_cons (pv 5) pa_nil)) (pe_meth (pv 2) CC.cl CQ.m_end G_end HR_end hbE hvE pass0 (pa_cons (pv 5) pa_nil)) (nomark _)))))))))))), ?_⟩
    have few := oc.few
    have few' := oc'.few
    refine ⟨.ref a, rfl, a, p, q, c, lead, rfl, ca, fit, by omega, fun l1 H1 s1 n1 d1 => ?_⟩
    refine ⟨.ref b, rfl, b, p, q, c', lead', rfl, cb.same s1, fit, by omega, fun l2 H2 s2 n2 d2 => ?_⟩
    have S2 := Same.trans s1 s2
    refine ⟨_, _, (d1.same s2).dp (told_plain ..), d2.dp (told_plain ..), told_shaped oc fit ol, told_shaped oc' fit ol', ?_⟩
    rw [told_eqv _ _ _ _ _ _ _ _ rfl]
    have D1 : decide ((p = p ∧ q = q) ∧ lead = lead' ∧ c = c') = decide (lead = lead' ∧ c = c') := decide_eq_decide.mpr ⟨fun z => z.2, fun z => ⟨⟨rfl, rfl⟩, z⟩⟩
    have D2 : decide ((p = p ∧ q = q) ∧ lead' = lead ∧ c' = c) = decide (lead = lead' ∧ c = c') := decide_eq_decide.mpr ⟨fun z => ⟨z.2.1.symm, z.2.2.symm⟩, fun z => ⟨⟨rfl, rfl⟩, z.1.symm, z.2.symm⟩⟩
    obtain ⟨due, hd⟩ : ∃ due, decide (lead = lead' ∧ c = c') = due := ⟨_, rfl⟩
    rw [hd] at D1 D2 ⊢
    have ca2 := ca.same S2
    have cb2 := cb.same S2
    obtain ⟨da, ra, la, ea, _⟩ := id ca2
    obtain ⟨db, rb, lb, eb, _⟩ := id cb2
    have ta := ty_coder RC CC CE ca2
    have tb := ty_coder RC CC CE cb2
    refine ⟨.ref a, rfl, .ref b, rfl, a, da, _, _, rfl, ea, tb, nf_coder, a, .ref b, p, q, c, lead, rfl, ca2, fit, oc.words, .inr (.inr ⟨b, p, q, c', lead', rfl, cb2, oc'.words, ?_⟩)⟩
    rw [D1]
    refine ⟨.ref b, rfl, .ref a, rfl, b, db, _, _, rfl, eb, ta, nf_coder, b, .ref a, p, q, c', lead', rfl, cb2, fit, oc'.words, .inr (.inr ⟨a, p, q, c, lead, rfl, ca2, oc.words, ?_⟩)⟩
    rw [D2]
    refine ⟨.ref a, rfl, .ref b, rfl, a, da, _, _, rfl, ea, tb, nf_coder, a, .ref b, p, q, c, lead, rfl, ca2, fit, oc.words, .inr (.inr ⟨b, p, q, c', lead', rfl, cb2, oc'.words, _, rfl, ?_⟩)⟩
    rw [D1]
    refine ⟨.ref b, rfl, .ref a, rfl, b, db, _, _, rfl, eb, ta, nf_coder, b, .ref a, p, q, c', lead', rfl, cb2, fit, oc'.words, .inr (.inr ⟨a, p, q, c, lead, rfl, ca2, oc.words, _, rfl, ?_⟩)⟩
    rw [D2]
    obtain ⟨f1, f2, f3⟩ := fourD_ok due
    refine ⟨(by show 4 ≤ sizeLine; decide), fun L hL => ⟨.ref L, fourD due, rfl, .lst upd_same (.cons (.bl _) (.cons (.bl _) (.cons (.bl _) (.cons (.bl _) .nil)))), f1, f2, f3, ?_⟩⟩
    have SL := Same.new hL (o := .lst [V.bl due, .bl due, .bl (!due), .bl (!due)])
    refine ⟨.bl due, rfl, .bl due, rfl, .bl due, rfl, due, rfl, .bl due, rfl, due, rfl, (by show 4 ≤ sizeLine; decide), fun M hM => ⟨.ref M, fourD due, rfl, .lst upd_same (.cons (.bl _) (.cons (.bl _) (.cons (.bl _) (.cons (.bl _) .nil)))), f1, f2, f3, rfl, _, rfl, ?_⟩⟩
    have SM := Same.new hM (o := .lst [V.bl due, .bl due, .bl (!due), .bl (!due)])
    rw [decide_eq_true rfl]
    have S4 := Same.trans S2 (Same.trans SL SM)
    have npc : pc ≠ pt := tup_not_pot hp epc
    refine iteF ⟨.ref pt, rfl, .ref pc, rfl, pt, pc, p, q, 5, rfl, hp.same S4, S4 _ _ epc, fit, by decide, fun l ws H5 b5 hp5 nl el lw wl => ?_⟩
    have b05 := (But.same S4).trans b5
    have ca5 := ca.but hp b05
    have cb5 := cb.but hp b05
    have txt : Dx H5 (.ref l) (.list (ws.map fun (w : Nat) => .int (w : Int))) := .lst el (dx_ints ws)
    have done : Q (.bl true) H5 → _ := fun z => z
    refine ⟨.bl due, rfl, due, rfl, _, rfl, ?_⟩
    cases due with
    | false => exact iteT (k _ b05 hp5)
    | true =>
      obtain ⟨e1, e2⟩ := of_decide_eq_true hd
      subst e1 e2
      have wf := oc.ok.wf
      have W : ∀ {x : Addr} {H' : Hp}, CodO (ad "Coder") (ad "Rate") H' x p q c lead → Dx H' (.ref l) (.list (ws.map fun (w : Nat) => .int (w : Int))) → Writes (ad "Coder") (ad "Rate") H' x (.ref l) c ws 0 := fun h t => ⟨⟨p, q, lead, h, fit, oc.ok.rows, wl⟩, wf, wf.1, by omega, t, by omega⟩
      have sh : shortB c := fun r hr e he => oc.blocks fit r hr e he
      obtain ⟨da5, _, _, ea5, _⟩ := id ca5
      refine iteF ⟨.ref a, rfl, a, rfl, .ref l, rfl, .inr ⟨_, _, ea5⟩, a, .ref l, c, ws, p, q, lead, rfl, W ca5 txt, ca5, ol, sh, fun H6 s6 => ?_⟩
      have cb6 := cb5.same s6
      obtain ⟨db6, _, _, eb6, _⟩ := id cb6
      refine ⟨.ref b, rfl, b, rfl, .ref l, rfl, .inr ⟨_, _, eb6⟩, b, .ref l, c, ws, p, q, lead, rfl, W cb6 (txt.same s6), cb6, ol, sh, fun H7 s7 => ⟨rfl, _, rfl, ?_⟩⟩
      rw [decide_eq_true rfl]
      have s57 := Same.trans s6 s7
      have ca7 := ca5.same s57
      obtain ⟨da7, _, _, ea7, _⟩ := id ca7
      refine iteT ⟨.ref a, rfl, a, da7, _, rfl, ea7, rfl, .ref l, rfl, a, .ref l, c, ws, 0, rfl, W ca7 (txt.same s57), fun H8 s8 => ?_⟩
      have s58 := Same.trans s57 s8
      have cb8 := cb5.same s58
      obtain ⟨db8, _, _, eb8, _⟩ := id cb8
      refine ⟨.ref b, rfl, b, db8, _, rfl, eb8, rfl, .ref l, rfl, b, .ref l, c, ws, 0, rfl, W cb8 (txt.same s58), fun H9 s9 => ⟨rfl, ?_⟩⟩
      rw [decide_eq_true rfl]
      exact k _ (b05.trans (But.same (Same.trans s58 s9))) (hp5.same (Same.trans s58 s9))
end
end K52
end

section
set_option maxHeartbeats 4000000
/-! what right wants -/
namespace K52
open PySem PySem.Spec PyProof PyProof.Rows L2
/-- a comprehension that makes a new row of each row of a table -/
theorem lc_rows {K : PySem.W.Frag} {a : Addr} {xs : List V} {j : Nat} {te : TE} {vs : List Nat} {σ : L2.St} {H1 : Hp} {D : Addr} {Qd : Hp → Prop} {c : Ch} {f : List (Str × Nat) → List (Str × Nat)} (hn : H1 D = none) (hd : Dx H1 (.ref a) (chD c)) (hl : H1 a = some (.lst xs)) (hsz : c.length ≤ 1000)
    (hw : ∀ x, wipe ((wipe σ vs).set j (some x)) vs = wipe σ vs)
    (hstep : ∀ (b : Addr) (r : List (Str × Nat)) (H' : Hp), Same H1 H' → r ∈ c → Dx H' (.ref b) (rowD r) → ∀ Q : VK, (∀ (n : Addr) (H'' : Hp), Same H' H'' → H' n = none → RowAt H'' n (f r) → Q (.ref n) H'') → te ((wipe σ vs).set j (some (.ref b))) H' Q)
    (hend : ∀ (H' : Hp) (ls : List Addr), Same H1 H' → ChL H' D ls (c.map f) → Qd H') :
    ∃ W : Nat → Nat → Hp → Prop, (∃ m, W 0 m (upd H1 D (.lst []))) ∧ ∀ i m H, W i m H →
      ((Itl K a).stop i H ∧ Qd H) ∨ ((Itl K a).go i H ∧ ∃ Nx : Hp → Prop, (∀ H', Nx H' → ∃ m', m' < m ∧ W (i + 1) m' H') ∧ ∀ x H', (Itl K a).yld i H x H' → gName j x (wipe σ vs) H' fun σ2 H2 => wipe σ2 vs = wipe σ vs ∧ tYes σ2 H2 fun b H3 =>
        if b = true then te σ2 H3 fun y H4 => ∃ acc, H4 D = some (.lst acc) ∧ acc.length < sizeLine ∧ Nx (upd H4 D (.lst (acc ++ [y]))) else Nx H3) := by
  obtain ⟨a', xs', ra, ea, all⟩ := hd.list
  cases ra
  rw [hl] at ea
  cases ea
  have lx : xs.length = c.length := by rw [all.length, List.length_map]
  refine lc_it (w := walk_list (K := K) (a := a) (xs := xs)) (g := gName j) (tt := tYes) (fun i H' => ∃ ls, ChL H' D ls ((c.take i).map f) ∧ Same H1 H')
    ⟨[], ChL.nil upd_same, Same.new hn⟩ (fun i H hi ⟨_, _, s⟩ => SqL.of (s _ _ hl)) (fun i x H' H2 hi hP hy => ?_) (fun H' hP => ?_)
  · obtain ⟨ls, ch, s1⟩ := hP
    obtain ⟨rfl, hx⟩ := hy
    obtain ⟨d, hd2, dx2⟩ := all.from_ hx
    rw [List.getElem?_map] at hd2
    cases ew : c[i]? with
    | none => rw [ew] at hd2; cases hd2
    | some r' =>
      rw [ew] at hd2
      cases hd2
      obtain ⟨b, ws, rfl, eb, _⟩ := id dx2.list
      refine ⟨hw _, ?_⟩
      show te _ _ _
      refine hstep b r' _ s1 (List.mem_of_getElem? ew) (dx2.same s1) _ fun n H3 s3 hn2 row => ?_
      have ch2 := ch.same s3
      have nD : n ≠ D := (ne_of_none ch.e hn2).symm
      refine ⟨_, ch2.e, by rw [List.length_map, ch2.l, List.length_map, List.length_take, sizeLine_eq]; omega, ls ++ [n], by rw [take_snoc ew, List.map_append]; exact ch2.snoc row nD, fun b' u eb' => ?_⟩
      rw [upd_ne (ne_of_none eb' hn)]
      exact s3 _ _ (s1 _ _ eb')
  · obtain ⟨ls, ch, s1⟩ := hP
    rw [lx, List.take_length] at ch
    exact hend H' ls s1 ch
def longer (r : List (Str × Nat)) : List (Str × Nat) := r.map fun e => (e.1 ++ PySem.Str.ofString "a", e.2)
theorem word_app {a b : Str} (ha : wordD (.str a) = true) (hb : wordD (.str b) = true) : wordD (.str (a ++ b)) = true := by
  show (a.cps ++ b.cps).toList.all sgn = true
  rw [Array.toList_append, List.all_append, Bool.and_eq_true]
  exact ⟨ha, hb⟩
theorem okCh.longer {p q : Int} {c : Ch} (h : okCh p q c) : okCh p (q + 1) (c.map K52.longer) := by
  refine ⟨⟨by rw [List.length_map]; exact h.wf.1, fun r hr e he => ?_⟩, fun r hr => ?_, fun r hr e he => ?_, by rw [List.length_map]; exact h.most⟩
  · obtain ⟨r', hr', rfl⟩ := List.mem_map.mp hr
    obtain ⟨e', he', rfl⟩ := List.mem_map.mp he
    rw [List.length_map]
    exact h.wf.2 r' hr' e' he'
  · obtain ⟨r', hr', rfl⟩ := List.mem_map.mp hr
    unfold K52.longer
    rw [List.length_map]
    exact h.rows r' hr'
  · obtain ⟨r', hr', rfl⟩ := List.mem_map.mp hr
    obtain ⟨e', he', rfl⟩ := List.mem_map.mp he
    obtain ⟨b1, b2⟩ := h.blocks r' hr' e' he'
    refine ⟨word_app b1 (by decide +kernel), ?_⟩
    show ((e'.1 ++ PySem.Str.ofString "a").length : Int) = q + 1
    rw [len_app, show (PySem.Str.ofString "a").length = 1 by decide +kernel]
    omega
theorem strP_cat {p q : Int} (f : fitP p q) : ((toString p : Str) ++ (":" : Str)) ++ (toString q : Str) = strP p q ∧ ((toString p : Str) ++ (":" : Str)).length + (toString q : Str).length ≤ sizeLine ∧ (toString p : Str).length + (":" : Str).length ≤ sizeLine := by
  obtain ⟨h1, h2, h3, h4⟩ := f
  have a : p = 1 ∨ p = 2 ∨ p = 3 ∨ p = 4 ∨ p = 5 ∨ p = 6 := by omega
  have b : q = 1 ∨ q = 2 ∨ q = 3 ∨ q = 4 ∨ q = 5 ∨ q = 6 := by omega
  rcases a with rfl | rfl | rfl | rfl | rfl | rfl <;> rcases b with rfl | rfl | rfl | rfl | rfl | rfl <;> decide +kernel
/-- what stands throughout -/
structure Stands (C R : Addr) (H : Hp) (pt pc F A k : Addr) (p q : Int) (c : Ch) (st : Str) : Prop where
  hp : PotAt H pt
  pc : H pc = some (.tup [.int p, .int q])
  ch : Dx H (.ref F) (chD c)
  co : CodO C R H A p q (keptF c) st
  kp : Dx H (.ref k) (chD (keptF c))
theorem Stands.but {C R : Addr} {H H' : Hp} {pt pc F A k : Addr} {p q : Int} {c : Ch} {st : Str} (h : Stands C R H pt pc F A k p q c st) (b : But pt H H') (hp : PotAt H' pt) : Stands C R H' pt pc F A k p q c st :=
  ⟨hp, b _ _ (tup_not_pot h.hp h.pc) h.pc, chD_but h.ch h.hp b, h.co.but h.hp b, chD_but h.kp h.hp b⟩
theorem Stands.same {C R : Addr} {H H' : Hp} {pt pc F A k : Addr} {p q : Int} {c : Ch} {st : Str} (h : Stands C R H pt pc F A k p q c st) (s : Same H H') : Stands C R H' pt pc F A k p q c st :=
  h.but (But.same s) (h.hp.same s)
end K52
end

section
set_option maxHeartbeats 4000000
/-! right -/
namespace K52
open PySem PySem.Spec PyProof.Rows L2 StX
structure CoderZ (K : PySem.W.Frag) (mg : Str → Option Value) (ad : Str → Addr) (fd : Str → FuncData) : Prop where
  rs : PySem.W.notFirst K (ad "Coder") (.ref (ad "Rate")) = true
section
variable {X : Cx} {K : PySem.W.Frag} {k : Nat} {f C : Addr} {fd : FuncData} {ps : List Str} {sp : Sp}
theorem op_eqK (e : X.K = K) (F : FnOk X.prog X.w K X.mg X.base CX0 k f fd ps sp) (hr : Room k X.A) (hb : Binds K fd ps []) (hs : PySem.W.findIn K (.ref C) "__eq__" = some (some (.ref f))) (hf : PySem.W.isFn K (.ref f) = true) : OpR X (compareOp .Eq) (rOwnE K C sp) := by
  subst e
  exact op_eqO F hr hb hs hf
end
theorem okCh.turn {p q : Int} {c : Ch} {sp : List Nat} (h : okCh p q c) (nd : sp.Nodup) (mem : ∀ t, t ∈ sp ↔ t < c.length) (h0 : sp[0]? = some 0) : okCh p q (turnF c sp) := by
  have w := (turned_kept h.wf nd mem h0).1
  have le : sp.length ≤ c.length := nodup_len nd fun x hx => (mem x).mp hx
  have row : ∀ r ∈ turnF c sp, ∃ i, rowC c i ∈ c ∧ r = (rowC c i).map fun e => (e.1, sp.idxOf e.2) := fun r hr => by
    unfold turnF at hr
    obtain ⟨i, hi, rfl⟩ := List.mem_map.mp hr
    refine ⟨i, ?_, rfl⟩
    have il := (mem i).mp hi
    unfold rowC
    rw [List.getD_eq_getElem?_getD, List.getElem?_eq_getElem il]
    exact List.getElem_mem il
  refine ⟨w, fun r hr => ?_, fun r hr e he => ?_, ?_⟩
  · obtain ⟨i, ri, rfl⟩ := row r hr
    rw [List.length_map]
    exact h.rows _ ri
  · obtain ⟨i, ri, rfl⟩ := row r hr
    obtain ⟨e', he', rfl⟩ := List.mem_map.mp he
    exact h.blocks _ ri e' he'
  · have p0 : (0 : Int) ≤ 2 ^ p.toNat := Int.le_of_lt (Int.pow_pos (by decide))
    have l1 : (turnF c sp).length = sp.length := by unfold turnF; rw [List.length_map]
    rw [l1]
    have := Int.mul_le_mul_of_nonneg_right (show (sp.length : Int) ≤ (c.length : Int) by omega) p0
    have := h.most
    omega
def spRight : Sp := fun vs H Q _ => ∃ (pt : Addr), vs = [.ref pt] ∧ PotAt H pt ∧ ∀ H', But pt H H' → PotAt H' pt → Q (.bl true) H'
section
variable {P : Program} {w : World} {K : PySem.W.Frag} {mg : Str → Option Value} {base : Heap} {ad : Str → Addr} {fd : Str → FuncData}
theorem nf_dataC (CE : CoderE K mg ad fd) (d : PyData) : PySem.W.notFirst K (ad "Coder") (.type (tyN d)) = true := by
  unfold PySem.W.notFirst
  rw [(CE.ty _ (tyN_mem d)).2.2]
  simp
theorem scRight : FnScope ["_law_pot_here", "_law_pace", "_law_chart", "_law_start", "_law_made_here", "_law_kept_here", "_law_shown", "_law_wide", "_law_other_here", "_law_same", "_law_near", "_law_single", "_law_line", "_law_piece", "_law_to", "_law_thing"] ["_law_pot_here"] (defScope sRight) := ⟨rfl, rfl, rfl, by decide +kernel, rfl, by decide +kernel, by decide +kernel⟩
theorem ok_right (X : Tx K mg ad fd) (RC : RateC K mg ad fd) {N fN : Addr} (LN : ErrV K mg "InvalidNumber" N fN) (CC : CoderC K mg ad fd) (CM : CoderM K mg ad fd) (CE : CoderE K mg ad fd) (CH : CoderW K mg ad fd) (CH2 : CoderX K mg ad fd) (CP : CoderP K mg ad fd) (CQ : CoderQ K mg ad fd) (CR : CoderR K mg ad fd) (CZ : CoderZ K mg ad fd) :
    FnG P w K mg base 8 (ad "_law_right") (fd "_law_right") ["_law_pot_here"] spRight := by
  have G_init := ok_init (P := P) (w := w) (base := base) X RC LN
  have G_cinit := ok_cinit (P := P) (w := w) (base := base) X RC CC
  have G_crepr := ok_crepr (P := P) (w := w) (base := base) X RC CC CM CH CR
  have G__law_draw := ok_draw (P := P) (w := w) (base := base) X
  have G__law_pick := ok_pick (P := P) (w := w) (base := base) X
  have G__law_loose_codes := ok_loose (P := P) (w := w) (base := base) X
  have G__law_made := ok_made (P := P) (w := w) (base := base) X RC LN CC
  have G__law_kept := ok_kept (P := P) (w := w) (base := base) X
  have G__law_told := ok_told (P := P) (w := w) (base := base) X RC CC CM CH CP
  have G__law_wider := ok_wider (P := P) (w := w) (base := base) X
  have G__law_turned := ok_turned (P := P) (w := w) (base := base) X
  have G__law_other := ok_other (P := P) (w := w) (base := base) X
  have G__law_doubled := ok_doubled (P := P) (w := w) (base := base) X
  have G_beside := ok_beside (P := P) (w := w) (base := base) X RC CC CM CE CH CH2 CP CQ
  have GC := ok_ceq (P := P) (w := w) (base := base) X RC CC CE
  refine fnG_body X.F__law_right scRight (fun vs H Q E h => ?_) (fun cdv A0 outer s H vs Q E hr h => ?_)
  · obtain ⟨pt, rfl, _⟩ := h
    rfl
  · obtain ⟨pt, rfl, hp, k⟩ := h
    have hg := hr.gd
    have hs := X.sys
    have hu := hr.rm.units
    have HR__law_draw : Room 1 _ := hr.rm.mono (by decide)
    have HR__law_pick : Room 2 _ := hr.rm.mono (by decide)
    have HR__law_loose_codes : Room 3 _ := hr.rm.mono (by decide)
    have HR__law_made : Room 7 _ := hr.rm
    have HR__law_kept : Room 2 _ := hr.rm.mono (by decide)
    have HR__law_told : Room 4 _ := hr.rm.mono (by decide)
    have HR__law_wider : Room 2 _ := hr.rm.mono (by decide)
    have HR__law_turned : Room 3 _ := hr.rm.mono (by decide)
    have HR__law_other : Room 3 _ := hr.rm.mono (by decide)
    have HR__law_doubled : Room 2 _ := hr.rm.mono (by decide)
    have HR_cinit : Room (5 + 1) _ := hr.rm.mono (by decide)
    have HR_init : Room (4 + 1) _ := hr.rm.mono (by decide)
    have HG6 : RoomG 6 _ := hr.mono (by decide)
    have HRC : Room 2 _ := hr.rm.mono (by decide)
    have HRN : Room 3 _ := hr.rm.mono (by decide)
    have HR4 : Room 4 _ := hr.rm.mono (by decide)
    have HR2 : Room 2 _ := hr.rm.mono (by decide)
    have HR1 : Room 1 _ := hr.rm.mono (by decide)
    have PASS := passes_no (X := (cxOf CX0 P w K mg base ["_law_pot_here", "_law_pace", "_law_chart", "_law_start", "_law_made_here", "_law_kept_here", "_law_shown", "_law_wide", "_law_other_here", "_law_same", "_law_near", "_law_single", "_law_line", "_law_piece", "_law_to", "_law_thing"] "_law_right" (defScope sRight) (ad "_law_right") cdv A0 outer s H E).nox)
    refine ⟨_, (pss_cons (ps_set (i := 1) scRight.nd rfl (.inl rfl) (by exact (pe_tup (pa_cons (pe_op op_add pe_int (pe_call G__law_draw HR__law_draw (by rfl) X.g__law_draw X.F__law_draw.kp X.b__law_draw .nil pass0 (pa_cons (pv 0) (pa_cons pe_int pa_nil)))) (pa_cons (pe_op op_add pe_int (pe_call G__law_draw HR__law_draw (by rfl) X.g__law_draw X.F__law_draw.kp X.b__law_draw .nil pass0 (pa_cons (pv 0) (pa_cons pe_int pa_nil)))) pa_nil)))))
  (pss_cons (ps_par (i := 2) (j := 3) rfl scRight.nd rfl rfl (by decide) rfl rfl (by exact (pa_cons (pe_call G__law_loose_codes HR__law_loose_codes (by rfl) X.g__law_loose_codes X.F__law_loose_codes.kp X.b__law_loose_codes .nil pass0 (pa_cons (pv 0) (pa_cons (pv 1) (pa_cons pe_int (pa_cons pe_str pa_nil))))) (pa_cons (pe_call G__law_pick HR__law_pick (by rfl) X.g__law_pick X.F__law_pick.kp X.b__law_pick .nil pass0 (pa_cons (pv 0) (pa_cons (pe_lst (pa_cons pe_str (pa_cons pe_str (pa_cons pe_str pa_nil)))) pa_nil))) pa_nil))) (by rfl))
  (pss_cons (ps_asg (by exact (pe_tup (pa_cons (pe_call G__law_made HR__law_made (by rfl) X.g__law_made X.F__law_made.kp X.b__law_made .nil pass0 (pa_cons (pv 1) (pa_cons (pv 2) (pa_cons (pv 3) pa_nil)))) (pa_cons (pe_call G__law_kept HR__law_kept (by rfl) X.g__law_kept X.F__law_kept.kp X.b__law_kept .nil pass0 (pa_cons (pv 2) pa_nil)) pa_nil)))) (pg_tup rfl (pgs_cons (pg_name (i := 4) scRight.nd rfl (.inr rfl)) (pgs_cons (pg_name (i := 5) scRight.nd rfl (.inl rfl)) pgs_nil))))
  (pss_cons (ps_set (i := 6) scRight.nd rfl (.inl rfl) (by exact (pe_callB (call_reprA hg hu hs) (by rfl) X.m_repr (by decide +kernel) (pa_cons (pe_call G__law_told HR__law_told (by rfl) X.g__law_told X.F__law_told.kp X.b__law_told .nil pass0 (pa_cons (pv 4) pa_nil)) pa_nil))))
  (pss_cons (ps_if (pt_cmpR op_ne (pv 6) (pe_callB (call_reprA hg hu hs) (by rfl) X.m_repr (by decide +kernel) (pa_cons (pe_lst (pa_cons (pe_op op_add_str (pe_op op_add_str (pe_callTy call_str_int (by rfl) X.m_str (by decide +kernel) (pa_cons (pe_ix ix_tup (pv 1) pe_int (fun _ _ => rfl)) pa_nil)) pe_str) (pe_callTy call_str_int (by rfl) X.m_str (by decide +kernel) (pa_cons (pe_ix ix_tup (pv 1) pe_int (fun _ _ => rfl)) pa_nil))) (pa_cons (pv 3) (pa_cons (pv 5) (pa_cons (pe_callB call_len (by rfl) X.m_len (by decide +kernel) (pa_cons (pv 5) pa_nil)) pa_nil))))) pa_nil)) (nomark _))
  (pss_one (ps_ret (by exact pe_bl)))
  pss_nil)
  (pss_cons (ps_set (i := 7) scRight.nd rfl (.inl rfl) (by exact (pe_call G__law_wider HR__law_wider (by rfl) X.g__law_wider X.F__law_wider.kp X.b__law_wider .nil pass0 (pa_cons (pv 0) (pa_cons (pv 1) (pa_cons (pv 2) pa_nil))))))
  (pss_cons (ps_for PassesOwn.never rfl (pi_list (pe_lst (pa_cons (pe_call G__law_turned HR__law_turned (by rfl) X.g__law_turned X.F__law_turned.kp X.b__law_turned .nil pass0 (pa_cons (pv 0) (pa_cons (pv 2) pa_nil))) (pa_cons (pv 7) (pa_cons (pe_call G__law_turned HR__law_turned (by rfl) X.g__law_turned X.F__law_turned.kp X.b__law_turned .nil pass0 (pa_cons (pv 0) (pa_cons (pv 7) pa_nil))) pa_nil))))) (pg_name (i := 8) scRight.nd rfl (.inl rfl))
  (pss_cons (ps_set (i := 9) scRight.nd rfl (.inl rfl) (by exact (pe_call G__law_made HR__law_made (by rfl) X.g__law_made X.F__law_made.kp X.b__law_made .nil pass0 (pa_cons (pv 1) (pa_cons (pv 8) (pa_cons (pv 3) pa_nil))))))
  (pss_one (ps_if (PW.pt (pw_or (pt_cmpR op_ne (pe_callB (call_reprA hg hu hs) (by rfl) X.m_repr (by decide +kernel) (pa_cons (pe_call G__law_told HR__law_told (by rfl) X.g__law_told X.F__law_told.kp X.b__law_told .nil pass0 (pa_cons (pv 9) pa_nil)) pa_nil)) (pv 6) (nomark _)) (pw_or (pt_not (pt_cmpR (op_eqO GC HRC CE.b_eq CQ.eq CQ.eqf) (pv 4) (pv 9) (nomark _))) (pw_or1 (pt_cmpR (op_neO GC HRN CE.b_eq CE.ob CQ.ne CQ.eq CQ.eqf) (pv 4) (pv 9) (nomark _))))))
  (pss_one (ps_ret (by exact pe_bl)))
  pss_nil))))
  (pss_cons (ps_if (PW.pt (pw_or (pt_not (pt_cmpR (op_eqO GC HRC CE.b_eq CQ.eq CQ.eqf) (pv 4) (pe_call G__law_made HR__law_made (by rfl) X.g__law_made X.F__law_made.kp X.b__law_made .nil pass0 (pa_cons (pv 1) (pa_cons (pv 5) (pa_cons (pv 3) pa_nil)))) (nomark _))) (pw_or1 (pt_not (pt_cmpR (op_eqO GC HRC CE.b_eq CQ.eq CQ.eqf) (pv 4) (pe_call G__law_made HR__law_made (by rfl) X.g__law_made X.F__law_made.kp X.b__law_made .nil pass0 (pa_cons (pv 1) (pa_cons (pe_meth0 (pv 4) CC.cl CP.m_codes (ok_ccodes X CC CM) HR1 CM.b_codes .nil pass0) (pa_cons (pe_prop (pv 4) CC.cl CP.pl (ok_clead CC CM) HR2 CM.b_lead .nil pass0 rfl) pa_nil)))) (nomark _))))))
  (pss_one (ps_ret (by exact pe_bl)))
  pss_nil)
  (pss_cons (ps_for PassesOwn.never rfl (pi_list (pe_lst (pa_cons (pe_call G__law_other HR__law_other (by rfl) X.g__law_other X.F__law_other.kp X.b__law_other .nil pass0 (pa_cons (pv 0) (pa_cons (pv 2) pa_nil))) (pa_cons (pe_call G__law_other HR__law_other (by rfl) X.g__law_other X.F__law_other.kp X.b__law_other .nil pass0 (pa_cons (pv 0) (pa_cons (pv 2) pa_nil))) (pa_cons (pe_call G__law_doubled HR__law_doubled (by rfl) X.g__law_doubled X.F__law_doubled.kp X.b__law_doubled .nil pass0 (pa_cons (pv 0) (pa_cons (pv 2) pa_nil))) pa_nil))))) (pg_name (i := 8) scRight.nd rfl (.inl rfl))
  (pss_cons (ps_set (i := 10) scRight.nd rfl (.inl rfl) (by exact (pe_call G__law_made HR__law_made (by rfl) X.g__law_made X.F__law_made.kp X.b__law_made .nil pass0 (pa_cons (pv 1) (pa_cons (pv 8) (pa_cons (pv 3) pa_nil))))))
  (pss_one (ps_if (PW.pt (pw_or (pt_cmpR (op_neD hu) (pe_meth0 (pv 10) CC.cl CP.m_codes (ok_ccodes X CC CM) HR1 CM.b_codes .nil pass0) (pe_call G__law_kept HR__law_kept (by rfl) X.g__law_kept X.F__law_kept.kp X.b__law_kept .nil pass0 (pa_cons (pv 8) pa_nil)) (nomark _)) (pw_or1 (pt_not (pt_val (pe_callG (E := E0) G_beside HG6 (by rfl) X.g__law_beside_right X.F__law_beside_right.kp X.b__law_beside_right (pa_cons (pv 0) (pa_cons (pv 4) (pa_cons (pv 10) (pa_cons (pv 1) pa_nil))))))))))
  (pss_one (ps_ret (by exact pe_bl)))
  pss_nil))))
  (pss_cons (ps_if (pt_not (pt_val (pe_callG (E := E0) G_beside HG6 (by rfl) X.g__law_beside_right X.F__law_beside_right.kp X.b__law_beside_right (pa_cons (pv 0) (pa_cons (pv 4) (pa_cons (pe_call G__law_made HR__law_made (by rfl) X.g__law_made X.F__law_made.kp X.b__law_made .nil pass0 (pa_cons (pv 1) (pa_cons (pv 2) (pa_cons (pe_op op_add_str (pv 3) pe_str) pa_nil)))) (pa_cons (pv 1) pa_nil)))))))
  (pss_one (ps_ret (by exact pe_bl)))
  pss_nil)
  (pss_cons (ps_setLc (i := 11) (own := [("_law_line", 12)]) (g := gName 12) rfl scRight.nd rfl rfl (by rfl) (pi_list (pv 2)) (blkOk_by (own := [("_law_line", 12)]) (N := ["_law_pot_here", "_law_pace", "_law_chart", "_law_start", "_law_made_here", "_law_kept_here", "_law_shown", "_law_wide", "_law_other_here", "_law_same", "_law_near", "_law_single", "_law_line", "_law_piece", "_law_to", "_law_thing"]) (sc := defScope sRight) (by decide +kernel)) (fun _ _ _ _ _ => pg_name (i := 12) scRight.nd rfl (Or.inl rfl)) (fun _ _ _ _ _ => pts_nil) (fun _ _ _ _ _ => (pe_lc (own := [("_law_piece", 13), ("_law_to", 14)]) (g := gTup K 2 (gCons (gName 13) (gCons (gName 14) (gNil)))) rfl scRight.nd (pi_listK (K := K) rfl (pv 12)) (blkOk_by (own := [("_law_piece", 13), ("_law_to", 14)]) (N := ["_law_pot_here", "_law_pace", "_law_chart", "_law_start", "_law_made_here", "_law_kept_here", "_law_shown", "_law_wide", "_law_other_here", "_law_same", "_law_near", "_law_single", "_law_line", "_law_piece", "_law_to", "_law_thing"]) (by kernel_rfl)) (fun _ _ _ _ _ => pg_tupK (K := K) rfl rfl (pgs_cons (pg_name (i := 13) scRight.nd rfl (Or.inl rfl)) (pgs_cons (pg_name (i := 14) scRight.nd rfl (Or.inl rfl)) (pgs_nil)))) (fun _ _ _ _ _ => pts_nil) (fun _ _ _ _ _ => (pe_tup (pa_cons (pe_op op_add_str (pv 13) pe_str) (pa_cons (pv 14) pa_nil)))))))
  (pss_cons (ps_if (pt_cmpR (op_eqO GC HRC CE.b_eq CQ.eq CQ.eqf) (pv 4) (pe_make CC.mks G_cinit HR_cinit (by rfl) CC.G CC.b_init .nil pass0 (pa_cons (pe_make RC.mks G_init HR_init (by rfl) RC.G RC.b_init .nil PASS (pa_cons (pe_ix ix_tup (pv 1) pe_int (fun _ _ => rfl)) (pa_cons (pe_op op_add (pe_ix ix_tup (pv 1) pe_int (fun _ _ => rfl)) pe_int) pa_nil))) (pa_cons (pv 11) (pa_cons (pv 3) pa_nil)))) (nomark _))
  (pss_one (ps_ret (by exact pe_bl)))
  pss_nil)
  (pss_cons (ps_if (pt_val (pe_callB (cr_any rfl) (by rfl) X.m_any (by decide +kernel) (pa_cons (pe_lc (own := [("_law_thing", 15)]) (g := gName 15) rfl scRight.nd (pi_list (pe_lst (pa_cons pe_non (pa_cons pe_int (pa_cons pe_str (pa_cons (pv 3) (pa_cons (pv 5) (pa_cons (pe_meth0 (pv 4) CC.cl CP.m_codes (ok_ccodes X CC CM) HR1 CM.b_codes .nil pass0) (pa_cons (pe_tup (pa_cons (pv 1) (pa_cons (pv 5) pa_nil))) (pa_cons (pe_prop (pv 4) CC.cl CP.pr (ok_crate CC CM) HR2 CM.b_rate .nil pass0 rfl) (pa_cons (pe_callB (call_reprO G_crepr HR4 CR.b_repr CR.rp CR.rpf) (by rfl) X.m_repr (by decide +kernel) (pa_cons (pv 4) pa_nil)) pa_nil))))))))))) (blkOk_by (own := [("_law_thing", 15)]) (N := ["_law_pot_here", "_law_pace", "_law_chart", "_law_start", "_law_made_here", "_law_kept_here", "_law_shown", "_law_wide", "_law_other_here", "_law_same", "_law_near", "_law_single", "_law_line", "_law_piece", "_law_to", "_law_thing"]) (sc := defScope sRight) (by decide +kernel)) (fun _ _ _ _ _ => pg_name (i := 15) scRight.nd rfl (Or.inl rfl)) (fun _ _ _ _ _ => pts_nil) (fun _ _ _ _ _ => (pe_cmpR (op_eqK (K := K) rfl GC HRC CE.b_eq CQ.eq CQ.eqf) (pv 4) (pv 15) (nomark _)))) pa_nil)))
  (pss_one (ps_ret (by exact pe_bl)))
  pss_nil)
  (pss_one (ps_ret (by exact (pe_cmpR op_eq (pe_callB (call_reprA hg hu hs) (by rfl) X.m_repr (by decide +kernel) (pa_cons (pe_call G__law_told HR__law_told (by rfl) X.g__law_told X.F__law_told.kp X.b__law_told .nil pass0 (pa_cons (pv 4) pa_nil)) pa_nil)) (pv 6) (nomark _)))))))))))))))))), ?_⟩
    refine ⟨.ref pt, rfl, pt, 2, rfl, hp, by omega, by decide, fun d1 H1 d10 d11 hp1 b1 => ⟨1, d1, rfl, rfl, .ref pt, rfl, pt, 3, rfl, hp1, by omega, by decide, fun d2 H2 d20 d21 hp2 b2 => ⟨1, d2, rfl, rfl, (by show 2 ≤ sizeLine; decide), fun pc hpc => ?_⟩⟩⟩
    obtain ⟨p, ep⟩ : ∃ p, 1 + d1 = p := ⟨_, rfl⟩
    obtain ⟨q, eq⟩ : ∃ q, 1 + d2 = q := ⟨_, rfl⟩
    have Spc := Same.new hpc (o := .tup [V.int (1 + d1), .int (1 + d2)])
    have epc : (upd H2 pc (.tup [V.int (1 + d1), .int (1 + d2)])) pc = some (.tup [V.int p, .int q]) := by rw [upd_same, ep, eq]
    have fit : fitP p q := ⟨by omega, by omega, by omega, by omega⟩
    have fit1 : fitP p (q + 1) := ⟨by omega, by omega, by omega, by omega⟩
    obtain ⟨pw1, pw2⟩ := pow_b fit
    have b03 := (b1.trans b2).trans (But.same Spc)
    have hp3 := hp2.same Spc
    generalize (upd H2 pc (.tup [V.int (1 + d1), .int (1 + d2)])) = H3 at epc b03 hp3 ⊢
    refine ⟨.ref pt, rfl, .ref pc, rfl, pt, pc, p, q, 5, rfl, hp3, epc, fit, by omega, by omega, fun F c H4 b4 hp4 nF dF4 cl oc => ?_⟩
    refine ⟨.ref pt, rfl, (by show 3 ≤ sizeLine; decide), fun Z hZ => ?_⟩
    have SZ := Same.new hZ (o := .lst [V.str "", .str "a", .str "dab"])
    refine ⟨pt, .ref Z, rfl, hp4.same SZ, .inr ⟨Z, _, rfl, hp4.ne hZ, upd_same, by decide, by decide, fun x H5 hx hp5 b5 => ?_⟩⟩
    obtain ⟨st, rfl, ol, sl⟩ : ∃ st : Str, x = .str st ∧ okRow st ∧ st.length ≤ 3 := by
      simp only [List.mem_cons, List.not_mem_nil, or_false] at hx
      rcases hx with rfl | rfl | rfl
      · exact ⟨_, rfl, ⟨by decide +kernel, by decide +kernel⟩, by decide +kernel⟩
      · exact ⟨_, rfl, ⟨by decide +kernel, by decide +kernel⟩, by decide +kernel⟩
      · exact ⟨_, rfl, ⟨by decide +kernel, by decide +kernel⟩, by decide +kernel⟩
    have npc : pc ≠ pt := tup_not_pot hp3 epc
    have b45 : But pt H4 H5 := (But.same SZ).trans b5
    have dF5 := chD_but dF4 hp4 b45
    have epc5 := b45 _ _ npc (b4 _ _ npc epc)
    have b05 := (b03.trans b4).trans b45
    have rows64 : ∀ r ∈ c, r.length ≤ 64 := fun r hr => by have := oc.rows r hr; omega
    refine ⟨_, _, rfl, .ref pc, rfl, .ref F, rfl, .str st, rfl, pc, .ref F, p, q, c, st, rfl, epc5, fit, dF5, oc, ol, fun A H6 s6 nA co6 => ?_⟩
    refine ⟨.ref F, rfl, .ref F, c, rfl, dF5.same s6, oc.wf, by omega, fun r hr => by have := rows64 r hr; omega, fun kh H7 s7 nk dk7 => ?_⟩
    refine ⟨(by show 2 ≤ sizeLine; decide), fun T hT => ⟨T, _, rfl, SqT.of upd_same, rfl, _, _, rfl, _, _, rfl, rfl, ?_⟩⟩
    have ST := Same.new hT (o := .tup [V.ref A, .ref kh])
    have s57 := Same.trans s6 s7
    have S8 : Stands (ad "Coder") (ad "Rate") (upd H7 T (.tup [V.ref A, .ref kh])) pt pc F A kh p q c st := (Stands.mk (hp5.same s57) (s57 _ _ epc5) (dF5.same s57) (co6.same s7) dk7).same ST
    have b08 := b05.trans (But.same (Same.trans s57 ST))
    generalize (upd H7 T (.tup [V.ref A, .ref kh])) = H8 at S8 b08 ⊢
    have oK : okK p q c := ⟨oc, by omega⟩
    have oKk : okK p q (keptF c) := oK.kept
    have few := oKk.few
    obtain ⟨sh1, sh2, sh3⟩ := told_show oKk fit ol
    refine ⟨.ref A, rfl, A, p, q, keptF c, st, rfl, S8.co, fit, by omega, fun l9 H9 s9 n9 d9 => ⟨.ref l9, _, rfl, d9, sh1, sh2, sh3, ?_⟩⟩
    obtain ⟨Z1, eZ1⟩ : ∃ Z1, (toldD p q st (keptF c)).shown = Z1 := ⟨_, rfl⟩
    rw [eZ1]
    have S9 := S8.same s9
    have b09 := b08.trans (But.same s9)
    obtain ⟨ca1, ca2, ca3⟩ := strP_cat fit
    obtain ⟨kh', xsk, rk, ek, allk⟩ := S9.kp.list
    have lk : xsk.length = (keptF c).length := by rw [allk.length, List.length_map]
    cases rk
    refine ⟨.str Z1, rfl, .ref pc, rfl, pc, _, 0, .int p, rfl, rfl, SqT.of S9.pc, atI_nat (j := 0) rfl, p, rfl, log6 fit.1 fit.2.1, _, _, rfl, rfl, ca3, .ref pc, rfl, pc, _, 1, .int q, rfl, rfl, SqT.of S9.pc, atI_nat (j := 1) rfl, q, rfl, log6 fit.2.2.1 fit.2.2.2, _, _, rfl, rfl, ca2, ?_⟩
    rw [ca1]
    refine ⟨.str st, rfl, .ref kh, rfl, .ref kh, rfl, .ref kh, _, rfl, .inl ⟨_, SqL.of ek, rfl⟩, ?_⟩
    rw [lk]
    refine ⟨(by show 4 ≤ sizeLine; decide), fun M hM => ?_⟩
    have SM := Same.new hM (o := .lst [V.str (strP p q), .str st, .ref kh, .int ((keptF c).length : Int)])
    refine ⟨.ref M, toldD p q st (keptF c), rfl, .lst upd_same (.cons (.str _) (.cons (.str _) (.cons (S9.kp.same SM) (.cons (.int _) .nil)))), sh1, sh2, sh3, ?_⟩
    rw [eZ1]
    refine ⟨rfl, _, rfl, ?_⟩
    rw [decide_eq_true rfl]
    have S10 := S9.same SM
    have b010 := b09.trans (But.same SM)
    generalize (upd H9 M (.lst [V.str (strP p q), .str st, .ref kh, .int ((keptF c).length : Int)])) = H10 at S10 b010 ⊢
    refine iteF ⟨.ref pt, rfl, .ref pc, rfl, .ref F, rfl, pt, pc, .ref F, p, q, c, rfl, S10.hp, S10.pc, fit, S10.ch, oc, by omega, fun W x H11 b11 hp11 nW dW lx ow => ?_⟩
    have S11 := S10.but b11 hp11
    refine ⟨.ref pt, rfl, .ref F, rfl, pt, .ref F, c, rfl, S11.hp, S11.ch, oc.wf, by omega, fun r hr => by have := rows64 r hr; omega, fun T1 sp1 H12 b12 hp12 n1 dT1 nd1 mem1 h01 => ?_⟩
    have S12 := S11.but b12 hp12
    have dW12 := chD_but dW hp11 b12
    have rowsW : ∀ r ∈ c ++ x, r.length ≤ 1000 := fun r hr => by have := ow.rows r hr; omega
    refine ⟨.ref W, rfl, .ref pt, rfl, .ref W, rfl, pt, .ref W, c ++ x, rfl, S12.hp, dW12, ow.wf, by rw [List.length_append]; omega, rowsW, fun T2 sp2 H13 b13 hp13 n2 dT2 nd2 mem2 h02 => ?_⟩
    have S13 := S12.but b13 hp13
    refine ⟨(by show 3 ≤ sizeLine; decide), fun L hL => ?_⟩
    have SL := Same.new hL (o := .lst [V.ref T1, .ref W, .ref T2])
    have tk1 := (turned_kept oc.wf nd1 mem1 h01).2
    have wk := wider_kept oc.wf ow.wf
    have tk2 := ((turned_kept ow.wf nd2 mem2 h02).2).trans wk
    have b013 := ((b010.trans b11).trans b12).trans b13
    have all3 : ∀ y ∈ [V.ref T1, .ref W, .ref T2], ∃ (t : Addr) (d : Ch), y = .ref t ∧ Dx (upd H13 L (.lst [V.ref T1, .ref W, .ref T2])) (.ref t) (chD d) ∧ okCh p q d ∧ keptF d = keptF c := fun y hy => by
      simp only [List.mem_cons, List.not_mem_nil, or_false] at hy
      rcases hy with rfl | rfl | rfl
      · exact ⟨T1, _, rfl, (chD_but dT1 hp12 b13).same SL, oc.turn nd1 mem1 h01, tk1⟩
      · exact ⟨W, _, rfl, (chD_but dW12 hp12 b13).same SL, ow, wk⟩
      · exact ⟨T2, _, rfl, dT2.same SL, ow.turn nd2 mem2 h02, tk2⟩
    have S14 := S13.same SL
    have b014 := b013.trans (But.same SL)
    have eL := upd_same (H := H13) (a := L) (o := .lst [V.ref T1, .ref W, .ref T2])
    refine ⟨L, rfl, ⟨_, SqL.of eL⟩, ?_⟩
    generalize (upd H13 L (.lst [V.ref T1, .ref W, .ref T2])) = H14 at all3 S14 b014 eL ⊢
    have tru : ∀ c', c' = keptF c → decide ((p = p ∧ q = q) ∧ st = st ∧ keptF c = c') = true := fun c' e => decide_eq_true ⟨⟨rfl, rfl⟩, rfl, e.symm⟩
    refine for_list (K := K) (a := L) (xs := [V.ref T1, .ref W, .ref T2]) (fun m σ H' => ∃ (r8 r9 : Option V), σ = [some (.ref pt), some (.ref pc), some (.ref F), some (.str st), some (.ref A), some (.ref kh), some (.str Z1), some (.ref W), r8, r9, none, none, none, none, none, none] ∧ Same H14 H')
      ⟨_, _, rfl, Same.refl⟩ (fun m σ H' _ ⟨_, _, _, s⟩ => SqL.of (s _ _ eL)) ?_ ?_
    · rintro m y σ H15 hy ⟨r8, r9, rfl, s15⟩
      obtain ⟨t, d, rfl, dt, od, ekd⟩ := all3 y (List.mem_of_getElem? hy)
      have S15 := S14.same s15
      refine ⟨.ref pc, rfl, .ref t, rfl, .str st, rfl, pc, .ref t, p, q, d, st, rfl, S15.pc, fit, dt.same s15, od, ol, fun A2 H16 s16 nA2 co2 => ?_⟩
      rw [ekd] at co2
      have S16 := S15.same s16
      refine ⟨.ref A2, rfl, A2, p, q, keptF c, st, rfl, co2, fit, by omega, fun l17 H17 s17 n17 d17 => ⟨.ref l17, _, rfl, d17, sh1, sh2, sh3, ?_⟩⟩
      rw [eZ1]
      refine ⟨.str Z1, rfl, rfl, _, rfl, ?_⟩
      rw [decide_eq_true rfl]
      have S17 := S16.same s17
      have co17 := co2.same s17
      obtain ⟨da, ra, la, ea, _⟩ := id S17.co
      have ty2 := ty_coder RC CC CE co17
      refine iteF ⟨.ref A, rfl, .ref A2, rfl, A, da, _, _, rfl, ea, ty2, nf_coder, A, .ref A2, p, q, keptF c, st, rfl, S17.co, fit, oKk.words, .inr (.inr ⟨A2, p, q, keptF c, st, rfl, co17, oKk.words, _, rfl, ?_⟩)⟩
      rw [tru _ rfl]
      refine iteF ⟨.ref A, rfl, .ref A2, rfl, A, da, _, _, rfl, ea, ty2, nf_coder, A, .ref A2, p, q, keptF c, st, rfl, S17.co, fit, oKk.words, .inr (.inr ⟨A2, p, q, keptF c, st, rfl, co17, oKk.words, _, rfl, _, rfl, ?_⟩)⟩
      rw [tru _ rfl]
      exact iteF ⟨_, _, rfl, Same.trans s15 (Same.trans s16 s17)⟩
    rintro σ H15 ⟨r8, r9, rfl, s15⟩
    have S15 := S14.same s15
    have b015 := b014.trans (But.same s15)
    clear all3 eL dT1 dT2 dW dW12 S14 S13 S12 S11 S10 S9 S8
    refine ⟨.ref A, rfl, .ref pc, rfl, .ref kh, rfl, .str st, rfl, pc, .ref kh, p, q, keptF c, st, rfl, S15.pc, fit, S15.kp, oKk.ok, ol, fun A3 H16 s16 nA3 co3 => ?_⟩
    rw [kept_kept oc.wf] at co3
    have S16 := S15.same s16
    obtain ⟨da, ra, la, ea, _⟩ := id S16.co
    refine ⟨A, da, _, _, rfl, ea, ty_coder RC CC CE co3, nf_coder, A, .ref A3, p, q, keptF c, st, rfl, S16.co, fit, oKk.words, .inr (.inr ⟨A3, p, q, keptF c, st, rfl, co3, oKk.words, _, rfl, ?_⟩)⟩
    rw [tru _ rfl]
    refine iteF ⟨.ref A, rfl, .ref pc, rfl, .ref A, rfl, A, da, _, rfl, ea, rfl, A, p, q, keptF c, st, rfl, S16.co, by omega, fun lc H17 s17 nlc dlc => ?_⟩
    have S17 := S16.same s17
    obtain ⟨da7, ra7, la7, ea7, _⟩ := id S17.co
    refine ⟨.ref A, rfl, A, da7, _, rfl, ea7, A, p, q, keptF c, st, rfl, S17.co, pc, .ref lc, p, q, keptF c, st, rfl, S17.pc, fit, dlc, oKk.ok, ol, fun A4 H18 s18 nA4 co4 => ?_⟩
    rw [kept_kept oc.wf] at co4
    have S18 := S17.same s18
    obtain ⟨da8, ra8, la8, ea8, _⟩ := id S18.co
    refine ⟨A, da8, _, _, rfl, ea8, ty_coder RC CC CE co4, nf_coder, A, .ref A4, p, q, keptF c, st, rfl, S18.co, fit, oKk.words, .inr (.inr ⟨A4, p, q, keptF c, st, rfl, co4, oKk.words, _, rfl, ?_⟩)⟩
    rw [tru _ rfl]
    have b018 := b015.trans (But.same (Same.trans s16 (Same.trans s17 s18)))
    refine iteF ⟨.ref pt, rfl, .ref F, rfl, pt, .ref F, p, q, c, rfl, S18.hp, fit, S18.ch, oc, by omega, fun O1 x1 H19 b19 hp19 nO1 dO1 ox1 lx1 => ?_⟩
    have S19 := S18.but b19 hp19
    refine ⟨.ref pt, rfl, .ref F, rfl, pt, .ref F, p, q, c, rfl, S19.hp, fit, S19.ch, oc, by omega, fun O2 x2 H20 b20 hp20 nO2 dO2 ox2 lx2 => ?_⟩
    have S20 := S19.but b20 hp20
    refine ⟨.ref pt, rfl, .ref F, rfl, pt, .ref F, p, q, c, rfl, S20.hp, fit, S20.ch, oc, by omega, fun O3 x3 H21 b21 hp21 nO3 dO3 ox3 lx3 => ?_⟩
    have S21 := S20.but b21 hp21
    refine ⟨(by show 3 ≤ sizeLine; decide), fun L2 hL2 => ?_⟩
    have SL2 := Same.new hL2 (o := .lst [V.ref O1, .ref O2, .ref O3])
    have all3 : ∀ y ∈ [V.ref O1, .ref O2, .ref O3], ∃ (t : Addr) (d : Ch), y = .ref t ∧ Dx (upd H21 L2 (.lst [V.ref O1, .ref O2, .ref O3])) (.ref t) (chD d) ∧ okK p q d := fun y hy => by
      simp only [List.mem_cons, List.not_mem_nil, or_false] at hy
      rcases hy with rfl | rfl | rfl
      · exact ⟨O1, _, rfl, (chD_but (chD_but dO1 hp19 b20) hp20 b21).same SL2, ox1, lx1⟩
      · exact ⟨O2, _, rfl, (chD_but dO2 hp20 b21).same SL2, ox2, lx2⟩
      · exact ⟨O3, _, rfl, dO3.same SL2, ox3, lx3⟩
    have S22 := S21.same SL2
    have b022 := (((b018.trans b19).trans b20).trans b21).trans (But.same SL2)
    have eL2 := upd_same (H := H21) (a := L2) (o := .lst [V.ref O1, .ref O2, .ref O3])
    have nL2 : L2 ≠ pt := hp21.ne hL2
    refine ⟨L2, rfl, ⟨_, SqL.of eL2⟩, ?_⟩
    generalize (upd H21 L2 (.lst [V.ref O1, .ref O2, .ref O3])) = H22 at all3 S22 b022 eL2 ⊢
    refine for_list (K := K) (a := L2) (xs := [V.ref O1, .ref O2, .ref O3]) (fun m σ H' => ∃ (r8 r9 r10 : Option V), σ = [some (.ref pt), some (.ref pc), some (.ref F), some (.str st), some (.ref A), some (.ref kh), some (.str Z1), some (.ref W), r8, r9, r10, none, none, none, none, none] ∧ But pt H22 H' ∧ PotAt H' pt)
      ⟨_, _, _, rfl, But.rfl, S22.hp⟩ (fun m σ H' _ ⟨_, _, _, _, b, _⟩ => SqL.of (b _ _ nL2 eL2)) ?_ ?_
    · rintro m y σ H23 hy ⟨r8, r9, r10, rfl, b23, hp23⟩
      obtain ⟨t, d, rfl, dt, od⟩ := all3 y (List.mem_of_getElem? hy)
      have S23 := S22.but b23 hp23
      have dt23 := chD_but dt S22.hp b23
      have odk := od.kept
      have fewd := od.few
      have fewk := odk.few
      refine ⟨.ref pc, rfl, .ref t, rfl, .str st, rfl, pc, .ref t, p, q, d, st, rfl, S23.pc, fit, dt23, od.ok, ol, fun A5 H24 s24 nA5 co5 => ?_⟩
      have S24 := S23.same s24
      obtain ⟨d5, r5, l5, e5, _⟩ := id co5
      refine ⟨.ref A5, rfl, A5, d5, _, rfl, e5, rfl, A5, p, q, keptF d, st, rfl, co5, by omega, fun lc5 H25 s25 n25 dc5 => ?_⟩
      refine ⟨.ref t, rfl, .ref t, d, rfl, (dt23.same s24).same s25, od.ok.wf, by omega, fun r hr => by have := od.rows fit r hr; omega, fun k5 H26 s26 n26 dk5 => ?_⟩
      refine ⟨_, _, (dc5.same s26).dp (chD_plain _), dk5.dp (chD_plain _), chD_shaped odk.words, chD_shaped odk.words, _, rfl, ?_⟩
      rw [chD_eqv, decide_eq_true rfl]
      have s2426 := Same.trans s24 (Same.trans s25 s26)
      have S26 := S23.same s2426
      refine iteF ⟨.ref pt, rfl, .ref A, rfl, .ref A5, rfl, .ref pc, rfl, pt, A, A5, pc, p, q, keptF c, keptF d, st, st, rfl, S26.hp, S26.pc, fit, S26.co, co5.same (Same.trans s25 s26), oKk, odk, ol, ol, fun H27 b27 hp27 => ⟨_, rfl, iteF ?_⟩⟩
      exact ⟨_, _, _, rfl, (b23.trans (But.same s2426)).trans b27, hp27⟩
    rintro σ H23 ⟨r8', r9', r10, rfl, b23, hp23⟩
    have S23 := S22.but b23 hp23
    have b023 := b022.trans b23
    clear all3 eL2 dO1 dO2 dO3 S22 S21 S20 S19 S18 S17 S16 S15
    have ol2 : okRow (st ++ PySem.Str.ofString "a") := ⟨word_app ol.1 (by decide +kernel), by rw [len_app, show (PySem.Str.ofString "a").length = 1 by decide +kernel]; omega⟩
    refine ⟨.ref pt, rfl, .ref A, rfl, .ref pc, rfl, .ref F, rfl, .str st, rfl, _, _, rfl, rfl, by rw [show (PySem.Str.ofString "a").length = 1 by decide +kernel, sizeLine_eq]; omega, pc, .ref F, p, q, c, st ++ PySem.Str.ofString "a", rfl, S23.pc, fit, S23.ch, oc, ol2, fun A6 H24 s24 nA6 co6' => ?_⟩
    have S24 := S23.same s24
    refine ⟨.ref pc, rfl, pt, A, A6, pc, p, q, keptF c, keptF c, st, st ++ PySem.Str.ofString "a", rfl, S24.hp, S24.pc, fit, S24.co, co6', oKk, oKk, ol, ol2, fun H25 b25 hp25 => ⟨_, rfl, iteF ?_⟩⟩
    have S25 := S24.but b25 hp25
    have b025 := (b023.trans (But.same s24)).trans b25
    obtain ⟨F', xsF, rF, eF, allF⟩ := S25.ch.list
    cases rF
    refine ⟨.ref F, rfl, F, rfl, ⟨_, SqL.of eF⟩, fun D hD => ?_⟩
    refine lc_rows (f := longer) hD S25.ch eF (by omega) (fun _ => rfl) (fun b r H' s' hr dr Q' k' => ?_) (fun H26 ls s26 chS => ?_)
    · obtain ⟨ws, eb, lw, ents⟩ := rowD_ent dr
      have r64 := rows64 r hr
      refine ⟨.ref b, rfl, b, rfl, ⟨_, SqL.of eb⟩, fun D2 hD2 => ?_⟩
      refine lc_it (w := walk_list (K := K) (a := b) (xs := ws)) (g := gTup K 2 (gCons (gName 13) (gCons (gName 14) gNil))) (tt := tYes) (fun j G => ∃ ts : List Addr, G D2 = some (.lst (ts.map V.ref)) ∧ EntsAt G ts ((r.take j).map fun e => (e.1 ++ PySem.Str.ofString "a", e.2)) ∧ Same H' G)
        ⟨[], upd_same, EntsAt.nil, Same.new hD2⟩ (fun j G hj ⟨_, _, _, s⟩ => SqL.of (s _ _ eb)) (fun j y G G' hj hP2 hy => ?_) (fun G hP2 => ?_)
      · obtain ⟨ts, e2, en2, s2⟩ := hP2
        obtain ⟨rfl, hy⟩ := hy
        obtain ⟨tt, en, he, rfl, htt⟩ := ents j y hy
        have bl := (oc.blocks r hr en (List.mem_of_getElem? he)).2
        refine ⟨tt, [.str en.1, .int (en.2 : Int)], rfl, SqT.of (s2 _ _ htt), rfl, .str en.1, _, rfl, .int (en.2 : Int), _, rfl, rfl, rfl, yes_of (iteT ?_)⟩
        refine ⟨.str en.1, rfl, _, _, rfl, rfl, by rw [show (PySem.Str.ofString "a").length = 1 by decide +kernel, sizeLine_eq]; omega, .int (en.2 : Int), rfl, (by show 2 ≤ sizeLine; decide), fun t2 ht2 => ?_⟩
        have St := Same.new ht2 (o := .tup [V.str (en.1 ++ PySem.Str.ofString "a"), .int (en.2 : Int)])
        have n2 : D2 ≠ t2 := ne_of_none e2 ht2
        have ln := en2.1
        rw [List.length_map, List.length_take] at ln
        refine ⟨_, St _ _ e2, by rw [List.length_map, sizeLine_eq]; omega, ts ++ [t2], by rw [upd_same, List.map_append]; rfl, ?_, fun b' u eb' => ?_⟩
        · rw [take_snoc he, List.map_append]
          refine ((en2.mono fun a' ys e => ?_).snoc (e := (en.1 ++ PySem.Str.ofString "a", en.2)) ?_)
          · rw [upd_ne (fun z => by rw [z, e2] at e; cases e)]
            exact St _ _ e
          · rw [upd_ne n2.symm]
            exact upd_same
        · rw [upd_ne (ne_of_none eb' hD2)]
          exact St _ _ (s2 _ _ eb')
      · obtain ⟨ts, e2, en2, s2⟩ := hP2
        rw [lw, List.take_length] at en2
        exact k' D2 G s2 hD2 (RowAt.ents e2 en2)
    have S26 := S25.same s26
    have b026 := b025.trans (But.same s26)
    refine ⟨.ref A, rfl, .ref pc, rfl, pc, _, 0, .int p, rfl, rfl, SqT.of S26.pc, atI_nat (j := 0) rfl, .ref pc, rfl, pc, _, 1, .int q, rfl, rfl, SqT.of S26.pc, atI_nat (j := 1) rfl, q, 1, rfl, rfl, fun rx rdx hrx hrdx ne => ?_⟩
    have rp := rate_six fit.1 fit.2.1
    have rq := rate_six fit1.2.2.1 fit1.2.2.2
    refine made_at (.int p) (.int (q + 1)) (tame_int (by have := fit.1; have := fit.2.1; omega)) (tame_int (by have := fit.2.2.1; have := fit.2.2.2; omega)) (fun z => absurd (z.symm.trans rp) (by decide)) (fun _ z => absurd (z.symm.trans rq) (by decide)) hrx hrdx ne fun p' q' e e' f' H27 s27 ho => ?_
    cases e
    cases e'
    refine ⟨.ref D, rfl, .str st, rfl, fun y dy hy hdy ney => ?_⟩
    have Sy : Same H27 (upd (upd H27 dy (.own y)) y (.ins (ad "Coder") dy [])) := fun b o eb => by
      rw [upd_ne (ne_of_none eb hy), upd_ne (ne_of_none eb hdy)]
      exact eb
    refine ⟨y, dy, rx, .ref D, c.map longer, st, p, q + 1, rfl, upd_same, ho.same Sy, fit1, (chS.dx.same s27).same Sy, oc.longer, ol, fun H28 l28 b28 e28 h28 d28 => ⟨rfl, ?_⟩⟩
    have s28 : Same H26 H28 := fun b o eb => b28 _ _ (ne_of_none (s27 _ _ eb) hy) (Sy _ _ (s27 _ _ eb))
    have S28 := S26.same s28
    have b028 := b026.trans (But.same s28)
    have co28 : CodO (ad "Coder") (ad "Rate") H28 y p (q + 1) (keptF (c.map longer)) st := ⟨dy, rx, l28, e28, h28, d28⟩
    have wl : okBlocks (keptF (c.map longer)) := fun r hr e he => (oc.longer.kept.1.blocks r hr e he).1
    obtain ⟨da, ra, la, ea, _⟩ := id S28.co
    refine ⟨A, da, _, _, rfl, ea, ty_coder RC CC CE co28, nf_coder, A, .ref y, p, q, keptF c, st, rfl, S28.co, fit, oKk.words, .inr (.inr ⟨y, p, q + 1, keptF (c.map longer), st, rfl, co28, wl, _, rfl, ?_⟩)⟩
    rw [decide_eq_false (show ¬ ((p = p ∧ q = q + 1) ∧ st = st ∧ keptF c = keptF (c.map longer)) from fun z => by have := z.1.2; omega)]
    refine iteF ?_
    refine ⟨.str st, rfl, .ref kh, rfl, .ref A, rfl, A, da, _, rfl, ea, rfl, A, p, q, keptF c, st, rfl, S28.co, by omega, fun lc H29 s29 nlc dlc => ?_⟩
    have S29 := S28.same s29
    refine ⟨.ref pc, rfl, .ref kh, rfl, (by show 2 ≤ sizeLine; decide), fun T2 hT2 => ?_⟩
    have ST2 := Same.new hT2 (o := .tup [V.ref pc, .ref kh])
    have eT2 := upd_same (H := H29) (a := T2) (o := .tup [V.ref pc, .ref kh])
    have S30 := S29.same ST2
    have dlc30 := dlc.same ST2
    have b030 := (b028.trans (But.same s29)).trans (But.same ST2)
    generalize (upd H29 T2 (.tup [V.ref pc, .ref kh])) = H30 at eT2 S30 dlc30 b030 ⊢
    obtain ⟨da, ra, la, ea, _⟩ := id S30.co
    refine ⟨.ref A, rfl, A, da, _, rfl, ea, A, p, q, keptF c, st, rfl, S30.co, fun r hr' => ?_⟩
    refine ⟨.ref A, rfl, A, da, _, rfl, ea, A, p, q, keptF c, st, rfl, S30.co, fit, by omega, fun zr => ⟨_, rfl, ?_⟩⟩
    refine ⟨(by show 9 ≤ sizeLine; decide), fun L3 hL3 => ?_⟩
    have SL3 := Same.new hL3 (o := .lst [V.non, .int 0, .str "", .str st, .ref kh, .ref lc, .ref T2, .ref r, .str zr])
    have eL3 := upd_same (H := H30) (a := L3) (o := .lst [V.non, .int 0, .str "", .str st, .ref kh, .ref lc, .ref T2, .ref r, .str zr])
    have S31 := S30.same SL3
    have b031 := b030.trans (But.same SL3)
    have all9 : ∀ y ∈ [V.non, .int 0, .str "", .str st, .ref kh, .ref lc, .ref T2, .ref r, .str zr], (∃ d, Dx (upd H30 L3 (.lst [V.non, .int 0, .str "", .str st, .ref kh, .ref lc, .ref T2, .ref r, .str zr])) y d) ∨ y = .ref r := fun y hy => by
      simp only [List.mem_cons, List.not_mem_nil, or_false] at hy
      rcases hy with rfl | rfl | rfl | rfl | rfl | rfl | rfl | rfl | rfl
      · exact .inl ⟨_, .non⟩
      · exact .inl ⟨_, .int _⟩
      · exact .inl ⟨_, .str _⟩
      · exact .inl ⟨_, .str _⟩
      · exact .inl ⟨_, S31.kp⟩
      · exact .inl ⟨_, dlc30.same SL3⟩
      · exact .inl ⟨_, .tup (SL3 _ _ eT2) (.cons (.tup S31.pc (.cons (.int _) (.cons (.int _) .nil))) (.cons S31.kp .nil))⟩
      · exact .inr rfl
      · exact .inl ⟨_, .str _⟩
    have hr31 := hr'.same SL3
    refine ⟨L3, rfl, ⟨_, SqL.of eL3⟩, fun D3 hD3 => ?_⟩
    generalize (upd H30 L3 (.lst [V.non, .int 0, .str "", .str st, .ref kh, .ref lc, .ref T2, .ref r, .str zr])) = H31 at all9 eL3 S31 b031 hr31 hD3 ⊢
    refine lc_bools false hD3 eL3 (show 9 ≤ 1000 by decide) (fun _ => rfl) (fun y hy H' s' Q' q' => ?_) (fun H32 s32 eD3 => ?_)
    · have S' := S31.same s'
      obtain ⟨da', ra', la', ea', _⟩ := id S'.co
      rcases all9 y hy with ⟨d, hd⟩ | rfl
      · exact ⟨.ref A, rfl, y, rfl, A, da', _, _, rfl, ea', dx_ty (hd.same s'), nf_dataC CE d, A, y, p, q, keptF c, st, rfl, S'.co, fit, oKk.words, .inl ⟨d, hd.same s', q' _ Same.refl⟩⟩
      · exact ⟨.ref A, rfl, .ref r, rfl, A, da', _, _, rfl, ea', ty_rate RC (hr31.same s'), CZ.rs, A, .ref r, p, q, keptF c, st, rfl, S'.co, fit, oKk.words, .inr (.inl ⟨r, p, q, rfl, hr31.same s', q' _ Same.refl⟩)⟩
    refine ⟨D3, _, rfl, SqL.of eD3, _, rfl, iteF ?_⟩
    have S32 := S31.same s32
    refine ⟨.ref A, rfl, A, p, q, keptF c, st, rfl, S32.co, fit, by omega, fun l33 H33 s33 n33 d33 => ⟨.ref l33, _, rfl, d33, sh1, sh2, sh3, ?_⟩⟩
    rw [eZ1]
    refine ⟨.str Z1, rfl, rfl, ?_⟩
    rw [decide_eq_true rfl]
    have S33 := S32.same s33
    exact k _ (b031.trans (But.same (Same.trans s32 s33))) S33.hp
end
end K52
end

section
set_option maxHeartbeats 4000000
/-! the end of a law whose defs call repr -/
namespace K52
open PySem PySem.Spec PyProof.Rows L2
/-- what is tracked at the law's call: the script, unless it is one of the module's own objects -/
def H0 (K : PySem.W.Frag) (a : Addr) (o : Obj) (xs : List V) : Hp := fun b => if b = a ∧ K.lookup a = none then some (.frz o (.lst xs)) else none
theorem H0_some {K : PySem.W.Frag} {a : Addr} {o : Obj} {xs : List V} {b : Addr} {u : HO} (h : H0 K a o xs b = some u) : b = a ∧ K.lookup a = none ∧ u = .frz o (.lst xs) := by
  unfold H0 at h
  split at h
  · rename_i c
    exact ⟨c.1, c.2, (Option.some.inj h).symm⟩
  · cases h
theorem law_endG {P : Program} {w : World} {K : PySem.W.Frag} {mg mb : Str → Option Value} {k : Nat} {fa a : Addr} {fd : FuncData} {x : Str} {sp : Sp} {s₁ : Shared} {vs : List Value} {ns : List Int}
    (inK : K.In s₁.heap) (gl : s₁.heap.Ns mainGlobals mg) (bl : s₁.heap.Ns builtinsNs mb) (bb : ∀ x : Str, x ≠ "__name__" → mb x = bootBuiltins x) (nl : s₁.heap.NoLimit) (g0 : s₁.gens = #[])
    (at_a : s₁.heap.get? a = some { cls := .type "list", data := .seq vs.toArray }) (hints : IntsAre vs ns) (size : ns.length ≤ sizeLine) (room : Room k callerA)
    (F : ∀ base : Heap, K.In base → base.Ns mainGlobals mg → FnG P w K mg base k fa fd [x] sp) (bind : ∀ (s : Shared) (u : Value), BindsTo s fd ⟨[u], []⟩ [(x, u)])
    (goal : ∀ H : Hp, Only H → SqL K H a (ns.map V.int) → sp [.ref a] H (fun v _ => v = .bl true) fun _ _ _ => False) :
    codeAny (model P w) callerA (.call (.ref fa) ⟨[.ref a], []⟩) (fun r s' => r = .ok (.ret (.bool true)) ∧ OldK s₁.heap s'.heap ∧ s'.os = s₁.os ∧ AllBare s'.gens) s₁ := by
  let ob : Obj := { cls := .type "list", data := .seq vs.toArray }
  have vals := vals_ints hints
  let H := H0 K a ob (ns.map V.int)
  have only : Only H := fun b => by
    cases e : H b with
    | none => exact .inl rfl
    | some u => exact .inr ⟨_, _, congrArg some (H0_some e).2.2⟩
  have sq : SqL K H a (ns.map V.int) := by
    cases e : K.lookup a with
    | some o =>
      have z : o = ob := Option.some.inj ((inK a o e).symm.trans at_a)
      subst z
      exact .inr ⟨_, _, _, e, rfl, rfl, rfl, by rw [List.size_toArray, hints.length]; exact size, by simpa using vals⟩
    | none => exact .inl (.inr ⟨ob, if_pos ⟨rfl, e⟩⟩)
  have ok : HOk P w H s₁.heap := fun b u e => by
    obtain ⟨rfl, _, rfl⟩ := H0_some e
    exact ⟨at_a, by rw [List.length_map]; exact size, vs, _, vals, at_a⟩
  have up : ∀ {b : Addr} {o : Obj}, s₁.heap.get? b = some o → H b = none → (hidT s₁.heap H).get? b = some o := fun e n => hidT_get e n
  have inB : K.In (hidT s₁.heap H) := fun b o e => up (inK b o e) (by
    cases z : H b with
    | none => rfl
    | some u =>
      obtain ⟨rfl, n, _⟩ := H0_some z
      have n2 : K.lookup b = some o := e
      rw [n] at n2; cases n2)
  have ns' : ∀ {b : Addr} {m : Str → Option Value}, s₁.heap.Ns b m → (hidT s₁.heap H).Ns b m := by
    rintro b m ⟨o, es, ep, e, d, r⟩
    refine ⟨o, es, ep, up e ?_, d, r⟩
    cases z : H b with
    | none => rfl
    | some u =>
      obtain ⟨rfl, _, _⟩ := H0_some z
      have z2 : o = ob := Option.some.inj (e.symm.trans at_a)
      subst z2
      have d' : Data.seq vs.toArray _ = Data.dict es ep := d
      cases d'
  have md : Mod K mg (hidT s₁.heap H) := ⟨inB, ns' gl, ⟨mb, ns' bl, bb⟩, nl.elim fun mc q => ⟨mc, ns' q.1, q.2⟩⟩
  have nofr : ∀ b, b ∉ frs ([] : List Env) := fun b z => by cases (show b ∈ ([] : List Addr) from z)
  have e0 : Env0 P w K mg (hidT s₁.heap H) callerA [] s₁ H := ⟨rfl, md, fun b o e => of_hidT e, Nat.le_of_eq (hidT_size _ _), trivial, fun b z => (nofr b z).elim, ok, .of_eq g0⟩
  refine codeAny_mono ((F _ inB (ns' gl)).run callerA [] s₁ H ⟨[.ref a], []⟩ [.ref a] [.ref a] _ _ ⟨room, rfl⟩ e0 (bind s₁ (.ref a)) (.cons rfl .nil) (goal H only sq)) ?_
  intro r s' hr
  match r, hr with
  | .ok (.ret u), ⟨v, H', os, bare, un, ok', rv, (hv : v = .bl true)⟩ =>
    subst hv
    obtain rfl : u = Value.bool true := rv
    refine ⟨rfl, OldK.of_keep fun b o e => ?_, os, bare⟩
    rcases only b with z | ⟨o2, xs, z⟩
    · exact un.keep b o e z (nofr b) (by simp)
    · have old := (ok b _ z).1
      rw [e] at old
      cases old
      exact (ok' b _ (un.frzs b _ _ z)).1
theorem walk_ofG {l : PySem.W.OpenLaw} {n k : Nat} {q : Program} {loose : List Str} {XP : (Str → Option Value) → Heap → Prop} {YP : World → Heap → Prop} {d : DefRec} {K : Params → PySem.W.Frag} {sp : World → Sp} {x : Str}
    (hn : l.most = some n) (hn2 : n ≤ sizeLine) (hdf : d.params.defaults = []) (hr : Room k callerA)
    (hY : ∀ (w : World) (h : Heap), YP w h → (K w.params).In h)
    (F : ∀ (w : World) (mg : Str → Option Value) (fa : Addr) (h : Heap), (K w.params).In h → h.Ns mainGlobals mg → mg d.name = some (.ref fa) →
      ∃ fd : FuncData, (∀ (s : Shared) (u : Value), BindsTo s fd ⟨[u], []⟩ [(x, u)]) ∧ ∀ base : Heap, (K w.params).In base → base.Ns mainGlobals mg → FnG l.prog w (K w.params) mg base k fa fd [x] (sp w))
    (hsp : ∀ (w : World) (H : Hp) (a : Addr) (ns : List Int), ns.length ≤ n → Only H → SqL (K w.params) H a (ns.map V.int) → sp w [.ref a] H (fun v _ => v = .bl true) fun _ _ _ => False) :
    PySem.W.WalkO q loose XP YP l.row.toRowW d [] (fun f vs => PySem.call f vs) :=
  Att.attach_call hn hdf fun w s₀ s₁ mg mb fa o pm cd doc a vs ns G Y ho hd hcd hmg hobj hints hlen hg => by
    obtain ⟨fd, hb, hF⟩ := F w mg fa _ (hY w _ Y) G.T.g hmg
    exact law_endG (hY w _ Y) G.T.g G.T.b G.T.builtins G.T.nolimit hg hobj hints (Nat.le_trans hlen hn2) hr hF hb fun H hO hS => hsp w H a ns hlen hO hS
end K52
end

section
set_option maxHeartbeats 4000000
/-! the law -/
namespace K52
open PySem PySem.Spec PyProof.Rows L2
theorem sqKeep {K : PySem.W.Frag} {H H' : Hp} {a : Addr} {xs : List V} (h : SqL K H a xs) (s : ∀ o, H a = some o → H' a = some o) : SqL K H' a xs := by
  rcases h with h | h
  · rcases h with e | ⟨o, e⟩
    · exact .inl (.inl (s _ e))
    · exact .inl (.inr ⟨o, s _ e⟩)
  · exact .inr h
def spLaw (K : PySem.W.Frag) : Sp := fun vs H Q _ => ∃ (a : Addr) (ns : List Int), vs = [.ref a] ∧ SqL K H a (ns.map V.int) ∧ ∀ H', Q (.bl true) H'
section
variable {P : Program} {w : World} {K : PySem.W.Frag} {mg : Str → Option Value} {base : Heap} {ad : Str → Addr} {fd : Str → FuncData}
theorem scLaw : FnScope ["_law_script", "_law_k"] ["_law_script"] (defScope sLaw) := ⟨rfl, rfl, rfl, by decide +kernel, rfl, by decide +kernel, by decide +kernel⟩
theorem ok_law (X : Tx K mg ad fd) (RC : RateC K mg ad fd) {N fN : Addr} (LN : ErrV K mg "InvalidNumber" N fN) (CC : CoderC K mg ad fd) (CM : CoderM K mg ad fd) (CE : CoderE K mg ad fd) (CH : CoderW K mg ad fd) (CH2 : CoderX K mg ad fd) (CP : CoderP K mg ad fd) (CQ : CoderQ K mg ad fd) (CR : CoderR K mg ad fd) (CZ : CoderZ K mg ad fd) :
    FnG P w K mg base 9 (ad "law") (fd "law") ["_law_script"] (spLaw K) := by
  have G_right := ok_right (P := P) (w := w) (base := base) X RC LN CC CM CE CH CH2 CP CQ CR CZ
  have G__law_pot := ok_pot (P := P) (w := w) (base := base) X
  refine fnG_body X.F_law scLaw (fun vs H Q E h => ?_) (fun cdv A outer s H vs Q E hr h => ?_)
  · obtain ⟨a, ns, rfl, _⟩ := h
    rfl
  · obtain ⟨a, ns, rfl, sq, k⟩ := h
    have HG8 : RoomG 8 _ := hr
    have HR__law_pot : Room 1 _ := hr.rm.mono (by decide)
    refine ⟨_, (pss_one (ps_ret (by exact (pe_callB (cr_all rfl) (by rfl) X.m_all (by decide +kernel) (pa_cons (pe_lc (own := [("_law_k", 1)]) (g := gName 1) rfl scLaw.nd (pi_range1 (by rfl) X.m_range (pa_cons (pe_callB (call_max2 rfl) (by rfl) X.m_max (by decide +kernel) (pa_cons pe_int (pa_cons (pe_callB (call_min2 rfl) (by rfl) X.m_min (by decide +kernel) (pa_cons pe_int (pa_cons (pe_callB call_len (by rfl) X.m_len (by decide +kernel) (pa_cons (pv 0) pa_nil)) pa_nil))) pa_nil))) pa_nil)) (blkOk_by (own := [("_law_k", 1)]) (N := ["_law_script", "_law_k"]) (sc := defScope sLaw) (by decide +kernel)) (fun _ _ _ _ _ => pg_name (i := 1) scLaw.nd rfl (Or.inl rfl)) (fun _ _ _ _ _ => pts_nil) (fun _ _ _ _ _ => (pe_callG (E := E0) G_right HG8 (by rfl) X.g__law_right X.F__law_right.kp X.b__law_right (pa_cons (pe_call G__law_pot HR__law_pot (by rfl) X.g__law_pot X.F__law_pot.kp X.b__law_pot .nil pass0 (pa_cons (pv 0) (pa_cons (pv 1) pa_nil))) pa_nil)))) pa_nil))))), ?_⟩
    obtain ⟨m, hm, em⟩ : ∃ m : Nat, m ≤ 4 ∧ (if (if ((ns.map V.int).length : Int) < 4 then ((ns.map V.int).length : Int) else 4) > 1 then (if ((ns.map V.int).length : Int) < 4 then ((ns.map V.int).length : Int) else 4) else 1) = (m : Int) := by
      by_cases c : ((ns.map V.int).length : Int) < 4
      · rw [if_pos c]
        by_cases c2 : ((ns.map V.int).length : Int) > 1
        · rw [if_pos c2]; exact ⟨_, by omega, rfl⟩
        · rw [if_neg c2]; exact ⟨1, by omega, rfl⟩
      · rw [if_neg c, if_pos (by decide)]; exact ⟨4, Nat.le_refl _, rfl⟩
    refine ⟨.ref a, rfl, .ref a, _, rfl, .inl ⟨_, sq, rfl⟩, 4, _, rfl, 1, _, rfl, _, rfl, ?_⟩
    rw [em]
    refine ⟨by omega, by omega, fun D hD => ?_⟩
    refine lc_range (lo := 0) (n := (m : Int).toNat) (fun i H' => (∀ o, H a = some o → H' a = some o) ∧ H' D = some (.lst ((List.replicate i true).map V.bl))) ⟨fun o e => Same.new hD _ _ e, upd_same⟩ (fun i H' hi hP => ?_) (fun H' hP => ?_)
    · obtain ⟨s4, eD⟩ := hP
      refine ⟨rfl, .ref a, rfl, .int (0 + i), rfl, a, ns, _, rfl, sqKeep sq s4, by omega, by omega, fun p H4 hp0 hpot s5 => ⟨p, rfl, hpot, fun H5 hb hp5 => ?_⟩⟩
      have eD4 := s5 _ _ eD
      have nDp : D ≠ p := ne_of_none eD hp0
      have eD5 := hb _ _ nDp eD4
      refine ⟨_, eD5, ?_, ?_, ?_⟩
      · rw [List.length_map, List.length_replicate, sizeLine_eq]; omega
      · intro o e
        rw [upd_ne (ne_of_none e hD)]
        exact hb _ _ (ne_of_none (s4 o e) hp0) (s5 _ _ (s4 o e))
      · rw [upd_same, List.replicate_succ', List.map_append]; rfl
    · obtain ⟨s4, eD⟩ := hP
      have ea : (List.replicate (m : Int).toNat true).all id = true := by simp
      refine ⟨D, _, rfl, SqL.of eD, ?_⟩
      rw [ea]
      exact k _
end
end K52
end

section
set_option maxHeartbeats 4000000
/-! what the top has left, as bools of the written part -/
namespace K52
open PySem PySem.Spec PyProof.Rows L2
section
open PySem.W
def xbB (K : Frag) (C : Addr) (bmB : List Value) (newId : String) : Bool := match K.lookup C with
  | some ⟨.type "type", _, .cls cd, sl⟩ => (match cd.mro, sl.toList with
    | .ref C' :: bm, [_, _, _, _, some (.builtin n), _] => C' == C && n == newId && !cd.hasDel && cd.hasDict && refsTo bmB bm
    | _, _ => false)
  | _ => false
theorem xb_cls {K : Frag} {C : Addr} {bmB : List Value} {newId : String} (q : xbB K C bmB newId = true) :
    ∃ nm qn N bs bm sn sub ab col dd k0 k1 k2 k3 k5, K.lookup C = some (excClassObj nm qn C N bs bm true sn sub ab col dd k0 k1 k2 k3 k5 newId) ∧ refsTo bmB bm = true := by
  unfold xbB at q
  split at q
  · rename_i dd cd sl ho
    split at q
    · rename_i C' bm k0 k1 k2 k3 n k5 hm hs
      simp only [Bool.and_eq_true, beq_iff_eq, Bool.not_eq_true'] at q
      obtain ⟨⟨⟨⟨rfl, rfl⟩, hdel⟩, hdic⟩, ht⟩ := q
      obtain ⟨nm, bs, mro, ns, qn, hd, sn, sub, ab, col, del⟩ := cd
      dsimp only at hm hdel hdic
      subst hm hdel hdic
      refine ⟨nm, qn, ns, bs, bm, sn, sub, ab, col, dd, k0, k1, k2, k3, k5, ?_, ht⟩
      rw [ho]
      have e : sl = #[k0, k1, k2, k3, some (.builtin n), k5] := by
        obtain ⟨l⟩ := sl
        have : l = [k0, k1, k2, k3, some (.builtin n), k5] := hs
        rw [this]
      rw [e]
    · cases q
  · cases q
def ecB (K : Frag) (D : Addr) : Bool :=
  decide (findIn K (.ref D) "__getattribute__" = some (some (.builtin "BaseException.__getattribute__"))) && (decide (findIn K (.ref D) "__getattr__" = some none) && (decide (subIn K (.ref D) (.type "BaseException") = some true) && (hasDictIn K D &&
  (decide (findIn K (.ref D) "__class__" = some (some (.builtin "object.__class__"))) && (decide (specialIn K (.builtin "object.__class__") "__get__" = some (some (.builtin "getset_descriptor.__get__"))) && (decide (takesIn K (.builtin "object.__class__") = some true) && decide (mroIn K D (.type "object") = some true)))))))
theorem ec_of {K : Frag} {D : Addr} (h : ecB K D = true) : EC K D := by
  obtain ⟨h1, h⟩ := He.ba h
  obtain ⟨h2, h⟩ := He.ba h
  obtain ⟨h3, h⟩ := He.ba h
  obtain ⟨h4, h⟩ := He.ba h
  obtain ⟨h5, h⟩ := He.ba h
  obtain ⟨h6, h⟩ := He.ba h
  obtain ⟨h7, h8⟩ := He.ba h
  exact ⟨of_decide_eq_true h1, of_decide_eq_true h2, of_decide_eq_true h3, h4, of_decide_eq_true h5, of_decide_eq_true h6, of_decide_eq_true h7, of_decide_eq_true h8⟩
def xbAll (K : Frag) (C : Addr) (bmB : List Value) (newId : String) : Bool :=
  xbB K C bmB newId && (ecB K C && (decide (findIn K (.ref C) "__setattr__" = some (some (.builtin "object.__setattr__"))) && (decide (typeIn K (.ref C) = some (.type "type")) && keepIn K (.ref C))))
theorem xb_of {K : Frag} {C : Addr} {bmB : List Value} {newId : String} (h : xbAll K C bmB newId = true) : XB K C bmB newId := by
  obtain ⟨h1, h⟩ := He.ba h
  obtain ⟨h2, h⟩ := He.ba h
  obtain ⟨h3, h⟩ := He.ba h
  obtain ⟨h4, h5⟩ := He.ba h
  exact ⟨xb_cls h1, ec_of h2, of_decide_eq_true h3, of_decide_eq_true h4, h5⟩
def xiB (K : Frag) (C fI : Addr) : Bool := decide (findIn K (.ref C) "__init__" = some (some (.ref fI))) && decide (typeIn K (.ref fI) = some (.type "function"))
theorem xi_of {K : Frag} {C fI : Addr} (h : xiB K C fI = true) : XI K C fI := by
  obtain ⟨h1, h2⟩ := He.ba h
  exact ⟨of_decide_eq_true h1, of_decide_eq_true h2⟩
/-- the def at f, without defaults -/
def fnA (K : Frag) (f : Addr) : He.FnW := match K.lookup f with
  | some ⟨_, _, .func fd, _⟩ => some (fd.name, fd.qualname, fd.params, fd.body, fd.scope, fd.globals, fd.closure, fd.builtins)
  | _ => none
def plain2 (d k : Value) (b : Bool) : Bool := match d, k with
  | .none, .none => b
  | _, _ => false
theorem plain2_ok {d k : Value} {b : Bool} (h : plain2 d k b = true) : d = .none ∧ k = .none ∧ b = true := by
  unfold plain2 at h
  split at h
  · exact ⟨rfl, rfl, h⟩
  · cases h
def plainB (K : Frag) (f : Addr) : Bool := match K.lookup f with
  | some ⟨_, _, .func fd, _⟩ => plain2 fd.defaults fd.kwdefaults (codeIn K fd.code fd.qualname)
  | _ => false
theorem fn_at {K : Frag} {f : Addr} {nm qual : Str} {params : Arguments} {body : List Stmt} {scope : Scope} (e : fnA K f = some (nm, qual, params, .stmts body, scope, mainGlobals, [], builtinsNs)) (c : plainB K f = true) :
    ∃ (oc : Value) (od : Option Addr) (doc pm : Value) (an : Option Addr) (cdv ct : Value) (osl : Array (Option Value)), K.lookup f = some ⟨oc, od, .func (fnOf nm qual params body scope .none .none doc pm an cdv ct), osl⟩ ∧ codeIn K cdv qual = true := by
  unfold fnA at e
  unfold plainB at c
  cases q : K.lookup f with
  | none => rw [q] at e; cases e
  | some o =>
    obtain ⟨oc, od, dt, osl⟩ := o
    rw [q] at c e
    cases dt with
    | func fd =>
      obtain ⟨n1, n2, n3, n4, n5, n6, n7, n8, n9, n10, n11, n12, n13, n14, n15⟩ := fd
      have e2 : (some (n1, n2, n3, n4, n5, n6, n7, n15) : He.FnW) = some (nm, qual, params, .stmts body, scope, mainGlobals, [], builtinsNs) := e
      simp only [Option.some.injEq, Prod.mk.injEq] at e2
      obtain ⟨h1, h2, h3, h4, h5, h6, h7, h8⟩ := e2
      subst h1 h2 h3 h4 h5 h6 h7 h8
      obtain ⟨rfl, rfl, c3⟩ := plain2_ok (show plain2 n8 n9 (codeIn K n13 n2) = true from c)
      exact ⟨oc, od, n10, n11, n12, n13, n14, osl, rfl, c3⟩
    | _ => cases e
def dfnB (K : Frag) (f : Addr) (dvs : List V) : Bool := match K.lookup f with
  | some ⟨_, _, .func fd, _⟩ => He.dflB K fd.defaults dvs && codeIn K fd.code fd.qualname
  | _ => false
theorem fnV_at {K : Frag} {f : Addr} {dvs : List V} {nm qual : Str} {params : Arguments} {body : List Stmt} {scope : Scope} (e : fnA K f = some (nm, qual, params, .stmts body, scope, mainGlobals, [], builtinsNs)) (c : dfnB K f dvs = true) :
    ∃ (oc : Value) (od : Option Addr) (dV kV doc pm : Value) (an : Option Addr) (cdv ct : Value) (osl : Array (Option Value)), K.lookup f = some ⟨oc, od, .func (fnOf nm qual params body scope dV kV doc pm an cdv ct), osl⟩ ∧ DflV K dV dvs ∧ codeIn K cdv qual = true := by
  unfold fnA at e
  unfold dfnB at c
  cases q : K.lookup f with
  | none => rw [q] at e; cases e
  | some o =>
    obtain ⟨oc, od, dt, osl⟩ := o
    rw [q] at c e
    cases dt with
    | func fd =>
      obtain ⟨n1, n2, n3, n4, n5, n6, n7, n8, n9, n10, n11, n12, n13, n14, n15⟩ := fd
      have e2 : (some (n1, n2, n3, n4, n5, n6, n7, n15) : He.FnW) = some (nm, qual, params, .stmts body, scope, mainGlobals, [], builtinsNs) := e
      simp only [Option.some.injEq, Prod.mk.injEq] at e2
      obtain ⟨h1, h2, h3, h4, h5, h6, h7, h8⟩ := e2
      subst h1 h2 h3 h4 h5 h6 h7 h8
      obtain ⟨c1, c2⟩ := He.ba (show (He.dflB K n8 dvs && codeIn K n13 n2) = true from c)
      exact ⟨oc, od, n8, n9, n10, n11, n12, n13, n14, osl, rfl, He.dflB_ok c1, c2⟩
    | _ => cases e
theorem binds_nil {K : Frag} {fd : FuncData} {ps : List Str} (h : ∃ ds, Vals ([] : List V) ds ∧ Binds K fd ps ds) : Binds K fd ps [] := by
  obtain ⟨ds, v, b⟩ := h
  cases v
  exact b
/-- a constant of a class: a whole number -/
def conB (K : Frag) (C : Addr) (f : Str) (n : Int) : Bool := match findIn K (.ref C) f with
  | some (some (.int i t)) => decide (i = n) && decide (specialIn K (.int i t) "__get__" = some none)
  | _ => false
theorem con_ok {K : Frag} {C : Addr} {f : Str} {n : Int} (h : conB K C f n = true) (cp : copiedNames.contains f = false) : ∃ u, Con K C f (.int n) u := by
  unfold conB at h
  split at h
  · rename_i i t e
    obtain ⟨h1, h2⟩ := He.ba h
    have h1 := of_decide_eq_true h1
    subst h1
    exact ⟨_, e, ⟨t, rfl⟩, of_decide_eq_true h2, cp⟩
  · cases h
end
end K52
end

section
set_option maxHeartbeats 0
/-! what the top has left, by names -/
namespace K52
open PySem PySem.Spec PyProof.Rows L2
def meths : List (Str × (Str × Str)) := [("InvalidNumber.__init__", ("InvalidNumber", "__init__")), ("Rate.__init__", ("Rate", "__init__")), ("Rate.__mul__", ("Rate", "__mul__")), ("Rate.__rmul__", ("Rate", "__rmul__")), ("Rate.__eq__", ("Rate", "__eq__")), ("Rate.__str__", ("Rate", "__str__")), ("Rate.__repr__", ("Rate", "__repr__")), ("Rate.read!", ("Rate", "read")), ("Rate.p!", ("Rate", "p")), ("Rate.q!", ("Rate", "q")), ("Rate.size!", ("Rate", "size")), ("Coder.__init__", ("Coder", "__init__")), ("Coder.codes", ("Coder", "codes")), ("Coder.end", ("Coder", "end")), ("Coder.blocks", ("Coder", "blocks")), ("Coder.follow", ("Coder", "follow")), ("Coder.__call__", ("Coder", "__call__")), ("Coder.__len__", ("Coder", "__len__")), ("Coder.__eq__", ("Coder", "__eq__")), ("Coder.__repr__", ("Coder", "__repr__")), ("Coder.rate!", ("Coder", "rate")), ("Coder.lead!", ("Coder", "lead"))]
def gets : List (Str × (Str × Str × String)) := [("Rate.read", ("Rate", "read", "staticmethod")), ("Rate.p", ("Rate", "p", "property")), ("Rate.q", ("Rate", "q", "property")), ("Rate.size", ("Rate", "size", "property")), ("Coder.rate", ("Coder", "rate", "property")), ("Coder.lead", ("Coder", "lead", "property"))]
def recAt (K : PySem.W.Frag) (p : Addr) (r : String) : Addr := match PySem.W.recIn K p r with
  | some (.ref g :: _) => g
  | _ => 0
def adK (K : PySem.W.Frag) (x : Str) : Addr := match meths.lookup x with
  | some (C, m) => He.ma K (He.ga K C) m
  | none => match gets.lookup x with
    | some (C, m, r) => recAt K (He.ma K (He.ga K C) m) r
    | none => He.ga K x
def recB (K : PySem.W.Frag) (p : Addr) (r : String) (g : Addr) : Bool := match PySem.W.recIn K p r with
  | some (.ref g' :: _) => decide (g' = g)
  | _ => false
theorem rec_ok {K : PySem.W.Frag} {p g : Addr} {r : String} (h : recB K p r g = true) : ∃ rest, PySem.W.recIn K p r = some (.ref g :: rest) := by
  unfold recB at h
  split at h
  · rename_i g' rest e
    rw [← of_decide_eq_true h]
    exact ⟨rest, e⟩
  · cases h
def smB (K : PySem.W.Frag) (C : Addr) (mc : Value) (m : Str) (p : Addr) : Bool := match PySem.W.findCls K (.ref C) mc m with
  | some (.get (.builtin n) (.ref p') .none (.ref C')) => decide (n = "staticmethod.__get__") && (decide (p' = p) && decide (C' = C))
  | _ => false
theorem smB_ok {K : PySem.W.Frag} {C p : Addr} {mc : Value} {m : Str} (h : smB K C mc m p = true) : PySem.W.findCls K (.ref C) mc m = some (.get (.builtin "staticmethod.__get__") (.ref p) .none (.ref C)) := by
  unfold smB at h
  split at h
  · rename_i n p' C' e
    obtain ⟨h1, h⟩ := He.ba h
    obtain ⟨h2, h3⟩ := He.ba h
    rw [e, of_decide_eq_true h1, of_decide_eq_true h2, of_decide_eq_true h3]
  · cases h
def tyB (K : PySem.W.Frag) (C : Addr) : Bool := tyNs.all fun T => decide (PySem.W.kitOne K (.type T) (.ref C) = some false) && (decide (PySem.W.subIn K (.ref C) (.type T) = some false) && decide (PySem.W.subIn K (.type T) (.ref C) = some false))
theorem ty_ok {K : PySem.W.Frag} {C : Addr} (h : tyB K C = true) : ∀ T ∈ tyNs, PySem.W.kitOne K (.type T) (.ref C) = some false ∧ PySem.W.subIn K (.ref C) (.type T) = some false ∧ PySem.W.subIn K (.type T) (.ref C) = some false := by
  intro T hT
  obtain ⟨h1, h⟩ := He.ba (List.all_eq_true.mp h T hT)
  obtain ⟨h2, h3⟩ := He.ba h
  exact ⟨of_decide_eq_true h1, of_decide_eq_true h2, of_decide_eq_true h3⟩
def fdK (K : PySem.W.Frag) (x : Str) : FuncData := match K.lookup (adK K x) with
  | some ⟨_, _, .func f, _⟩ => f
  | _ => PySem.W.fnOf "" "" (defArgs sLaw) (defBody sLaw) (defScope sLaw) .none .none .none .none none .none .none
def addrs0 : List Addr := [
  1,
  2,
  3,
  15,
  17,
  18,
  20,
  21,
  22,
  29,
  30,
  31,
  32,
  35,
  42,
  44,
  45,
  47,
  48,
  49,
  50,
  51,
  54,
  61,
  63,
  64,
  66,
  67,
  68,
  69,
  70,
  73,
  80,
  82,
  83,
  85,
  86,
  87,
  88,
  89,
  92,
  99,
  101,
  102,
  104,
  105,
  106,
  107,
  108,
  111,
  118,
  120,
  121,
  123,
  124,
  125,
  126,
  127,
  130,
  137]
def addrs1 : List Addr := [
  139,
  140,
  142,
  143,
  144,
  145,
  146,
  149,
  156,
  158,
  159,
  161,
  162,
  163,
  164,
  165,
  168,
  175,
  176,
  177,
  178,
  181,
  188,
  190,
  191,
  193,
  194,
  195,
  196,
  197,
  200,
  202,
  203,
  205,
  206,
  207,
  209,
  210,
  212,
  213,
  214,
  217,
  218,
  219,
  221,
  222,
  224,
  225,
  226,
  228,
  229,
  231,
  232,
  233,
  235,
  236,
  238,
  239,
  240,
  242]
def addrs2 : List Addr := [
  243,
  245,
  246,
  247,
  249,
  250,
  252,
  253,
  254,
  255,
  257,
  258,
  260,
  261,
  262,
  264,
  265,
  267,
  268,
  276,
  278,
  279,
  281,
  282,
  283,
  285,
  286,
  288,
  289,
  290,
  291,
  292,
  293,
  295,
  296,
  298,
  299,
  300,
  301,
  303,
  304,
  306,
  307,
  308,
  309,
  311,
  312,
  314,
  315,
  316,
  317,
  319,
  320,
  322,
  323,
  324,
  326,
  327,
  329,
  330]
def addrs3 : List Addr := [
  331,
  333,
  334,
  336,
  337,
  338,
  340,
  341,
  343,
  344,
  345,
  347,
  348,
  350,
  351,
  352,
  353,
  354,
  355,
  356,
  359,
  361,
  362,
  364,
  365,
  366,
  368,
  369,
  371,
  372,
  373,
  375,
  376,
  378,
  379,
  380,
  382,
  383,
  385,
  386,
  394,
  395,
  397,
  398,
  400,
  401,
  402,
  404,
  405,
  407,
  408,
  409,
  410,
  412,
  413,
  415,
  416,
  417,
  418,
  421]
def addrs4 : List Addr := [
  422,
  423,
  424,
  426,
  427,
  429,
  430,
  431,
  432,
  434,
  435,
  437,
  438,
  439,
  441,
  442,
  444,
  445,
  446,
  448,
  449,
  451,
  452,
  453,
  455,
  456,
  458,
  459,
  460,
  462,
  463,
  465,
  466,
  467,
  469,
  470,
  472,
  473,
  474,
  476,
  477,
  479,
  480,
  481,
  483,
  484,
  486,
  487,
  488,
  490,
  491,
  493,
  494,
  495,
  496,
  497,
  498,
  499,
  502,
  505]
def addrs5 : List Addr := [
  506,
  507,
  509,
  510,
  512,
  513,
  514,
  517,
  518,
  519,
  521,
  522,
  524,
  525,
  526,
  528,
  529,
  531,
  532,
  533,
  535,
  536,
  538,
  539,
  540,
  542,
  543,
  545,
  546,
  547,
  549,
  550,
  552,
  553,
  554,
  557,
  558,
  564,
  565,
  566,
  569,
  570,
  571,
  574,
  575,
  576,
  578,
  579,
  581,
  582,
  583,
  585,
  586,
  588,
  589,
  590,
  593,
  594,
  595,
  598]
def addrs6 : List Addr := [
  599,
  600,
  603,
  604,
  605,
  608,
  609,
  610,
  612,
  613,
  615,
  616,
  617,
  620,
  621,
  622,
  625,
  626]
def addrs : List Addr := addrs0 ++ (addrs1 ++ (addrs2 ++ (addrs3 ++ (addrs4 ++ (addrs5 ++ (addrs6))))))
def facts0 : List (PySem.W.Frag → Bool) := [
  fun K => He.eqO (PySem.W.nsIn K mainGlobals "isinstance") (some none),
  fun K => He.eqO (PySem.W.nsIn K mainGlobals "int") (some none),
  fun K => He.eqO (PySem.W.nsIn K mainGlobals "bool") (some none),
  fun K => He.eqO (PySem.W.nsIn K mainGlobals "str") (some none),
  fun K => He.eqO (PySem.W.nsIn K mainGlobals "all") (some none),
  fun K => He.eqO (PySem.W.nsIn K mainGlobals "any") (some none),
  fun K => He.eqO (PySem.W.nsIn K mainGlobals "len") (some none),
  fun K => He.eqO (PySem.W.nsIn K mainGlobals "abs") (some none),
  fun K => He.eqO (PySem.W.nsIn K mainGlobals "max") (some none),
  fun K => He.eqO (PySem.W.nsIn K mainGlobals "min") (some none),
  fun K => He.eqO (PySem.W.nsIn K mainGlobals "divmod") (some none),
  fun K => He.eqO (PySem.W.nsIn K mainGlobals "range") (some none),
  fun K => He.eqO (PySem.W.nsIn K mainGlobals "repr") (some none),
  fun K => He.eqO (PySem.W.nsIn K mainGlobals "dict") (some none),
  fun K => He.eqO (PySem.W.nsIn K mainGlobals "list") (some none),
  fun K => He.eqO (PySem.W.nsIn K mainGlobals "tuple") (some none),
  fun K => He.eqO (PySem.W.nsIn K mainGlobals "enumerate") (some none),
  fun K => He.eqO (PySem.W.nsIn K mainGlobals "ValueError") (some none),
  fun K => He.eqO (PySem.W.nsIn K mainGlobals "ArithmeticError") (some none),
  fun K => match K.lookup sysModules with | some o => decide (o.cls ≠ .type "list") | none => false,
  fun K => He.Fa.ok K (.int "MOST_IN_RATE" 6),
  fun K => He.Fa.ok K (.str "DIGITS" "123456"),
  fun K => He.Fa.ok K (.str "ALL_SIGNS" "abcd"),
  fun K => He.Fa.ok K (.int "MOST_IN_ROW" 2000),
  fun K => He.Fa.ok K (.int "MOST_IN_TEXT" 200),
  fun K => plainB K (adK K "is_integer"),
  fun K => PySem.W.keepIn K (.ref (adK K "is_integer")),
  fun K => He.eqO (PySem.W.nsIn K mainGlobals "is_integer") (some (some (.ref (adK K "is_integer")))),
  fun K => plainB K (adK K "is_between"),
  fun K => PySem.W.keepIn K (.ref (adK K "is_between"))]
def facts1 : List (PySem.W.Frag → Bool) := [
  fun K => He.eqO (PySem.W.nsIn K mainGlobals "is_between") (some (some (.ref (adK K "is_between")))),
  fun K => plainB K (adK K "is_row"),
  fun K => PySem.W.keepIn K (.ref (adK K "is_row")),
  fun K => He.eqO (PySem.W.nsIn K mainGlobals "is_row") (some (some (.ref (adK K "is_row")))),
  fun K => plainB K (adK K "is_list"),
  fun K => PySem.W.keepIn K (.ref (adK K "is_list")),
  fun K => He.eqO (PySem.W.nsIn K mainGlobals "is_list") (some (some (.ref (adK K "is_list")))),
  fun K => plainB K (adK K "is_short_row"),
  fun K => PySem.W.keepIn K (.ref (adK K "is_short_row")),
  fun K => He.eqO (PySem.W.nsIn K mainGlobals "is_short_row") (some (some (.ref (adK K "is_short_row")))),
  fun K => plainB K (adK K "check_row"),
  fun K => PySem.W.keepIn K (.ref (adK K "check_row")),
  fun K => He.eqO (PySem.W.nsIn K mainGlobals "check_row") (some (some (.ref (adK K "check_row")))),
  fun K => plainB K (adK K "check_state"),
  fun K => PySem.W.keepIn K (.ref (adK K "check_state")),
  fun K => He.eqO (PySem.W.nsIn K mainGlobals "check_state") (some (some (.ref (adK K "check_state")))),
  fun K => plainB K (adK K "check_word"),
  fun K => PySem.W.keepIn K (.ref (adK K "check_word")),
  fun K => He.eqO (PySem.W.nsIn K mainGlobals "check_word") (some (some (.ref (adK K "check_word")))),
  fun K => dfnB K (adK K "check_text") [.int 0, .int 200],
  fun K => PySem.W.keepIn K (.ref (adK K "check_text")),
  fun K => He.eqO (PySem.W.nsIn K mainGlobals "check_text") (some (some (.ref (adK K "check_text")))),
  fun K => plainB K (adK K "is_block"),
  fun K => PySem.W.keepIn K (.ref (adK K "is_block")),
  fun K => He.eqO (PySem.W.nsIn K mainGlobals "is_block") (some (some (.ref (adK K "is_block")))),
  fun K => plainB K (adK K "is_rate"),
  fun K => PySem.W.keepIn K (.ref (adK K "is_rate")),
  fun K => He.eqO (PySem.W.nsIn K mainGlobals "is_rate") (some (some (.ref (adK K "is_rate")))),
  fun K => plainB K (adK K "multiple"),
  fun K => PySem.W.keepIn K (.ref (adK K "multiple"))]
def facts2 : List (PySem.W.Frag → Bool) := [
  fun K => He.eqO (PySem.W.nsIn K mainGlobals "multiple") (some (some (.ref (adK K "multiple")))),
  fun K => plainB K (adK K "check_times"),
  fun K => PySem.W.keepIn K (.ref (adK K "check_times")),
  fun K => He.eqO (PySem.W.nsIn K mainGlobals "check_times") (some (some (.ref (adK K "check_times")))),
  fun K => plainB K (adK K "check_rate"),
  fun K => PySem.W.keepIn K (.ref (adK K "check_rate")),
  fun K => He.eqO (PySem.W.nsIn K mainGlobals "check_rate") (some (some (.ref (adK K "check_rate")))),
  fun K => plainB K (adK K "kept_codes"),
  fun K => PySem.W.keepIn K (.ref (adK K "kept_codes")),
  fun K => He.eqO (PySem.W.nsIn K mainGlobals "kept_codes") (some (some (.ref (adK K "kept_codes")))),
  fun K => plainB K (adK K "is_entry"),
  fun K => PySem.W.keepIn K (.ref (adK K "is_entry")),
  fun K => He.eqO (PySem.W.nsIn K mainGlobals "is_entry") (some (some (.ref (adK K "is_entry")))),
  fun K => plainB K (adK K "check_codes"),
  fun K => PySem.W.keepIn K (.ref (adK K "check_codes")),
  fun K => He.eqO (PySem.W.nsIn K mainGlobals "check_codes") (some (some (.ref (adK K "check_codes")))),
  fun K => plainB K (adK K "_law_pot"),
  fun K => PySem.W.keepIn K (.ref (adK K "_law_pot")),
  fun K => He.eqO (PySem.W.nsIn K mainGlobals "_law_pot") (some (some (.ref (adK K "_law_pot")))),
  fun K => plainB K (adK K "_law_draw"),
  fun K => PySem.W.keepIn K (.ref (adK K "_law_draw")),
  fun K => He.eqO (PySem.W.nsIn K mainGlobals "_law_draw") (some (some (.ref (adK K "_law_draw")))),
  fun K => plainB K (adK K "_law_pick"),
  fun K => PySem.W.keepIn K (.ref (adK K "_law_pick")),
  fun K => He.eqO (PySem.W.nsIn K mainGlobals "_law_pick") (some (some (.ref (adK K "_law_pick")))),
  fun K => plainB K (adK K "_law_mixed"),
  fun K => PySem.W.keepIn K (.ref (adK K "_law_mixed")),
  fun K => He.eqO (PySem.W.nsIn K mainGlobals "_law_mixed") (some (some (.ref (adK K "_law_mixed")))),
  fun K => plainB K (adK K "_law_reached"),
  fun K => PySem.W.keepIn K (.ref (adK K "_law_reached"))]
def facts3 : List (PySem.W.Frag → Bool) := [
  fun K => He.eqO (PySem.W.nsIn K mainGlobals "_law_reached") (some (some (.ref (adK K "_law_reached")))),
  fun K => plainB K (adK K "_law_kept"),
  fun K => PySem.W.keepIn K (.ref (adK K "_law_kept")),
  fun K => He.eqO (PySem.W.nsIn K mainGlobals "_law_kept") (some (some (.ref (adK K "_law_kept")))),
  fun K => plainB K (adK K "_law_way"),
  fun K => PySem.W.keepIn K (.ref (adK K "_law_way")),
  fun K => He.eqO (PySem.W.nsIn K mainGlobals "_law_way") (some (some (.ref (adK K "_law_way")))),
  fun K => plainB K (adK K "_law_loose_codes"),
  fun K => PySem.W.keepIn K (.ref (adK K "_law_loose_codes")),
  fun K => He.eqO (PySem.W.nsIn K mainGlobals "_law_loose_codes") (some (some (.ref (adK K "_law_loose_codes")))),
  fun K => plainB K (adK K "_law_words"),
  fun K => PySem.W.keepIn K (.ref (adK K "_law_words")),
  fun K => He.eqO (PySem.W.nsIn K mainGlobals "_law_words") (some (some (.ref (adK K "_law_words")))),
  fun K => plainB K (adK K "_law_made"),
  fun K => PySem.W.keepIn K (.ref (adK K "_law_made")),
  fun K => He.eqO (PySem.W.nsIn K mainGlobals "_law_made") (some (some (.ref (adK K "_law_made")))),
  fun K => plainB K (adK K "_law_told"),
  fun K => PySem.W.keepIn K (.ref (adK K "_law_told")),
  fun K => He.eqO (PySem.W.nsIn K mainGlobals "_law_told") (some (some (.ref (adK K "_law_told")))),
  fun K => plainB K (adK K "_law_turned"),
  fun K => PySem.W.keepIn K (.ref (adK K "_law_turned")),
  fun K => He.eqO (PySem.W.nsIn K mainGlobals "_law_turned") (some (some (.ref (adK K "_law_turned")))),
  fun K => plainB K (adK K "_law_wider"),
  fun K => PySem.W.keepIn K (.ref (adK K "_law_wider")),
  fun K => He.eqO (PySem.W.nsIn K mainGlobals "_law_wider") (some (some (.ref (adK K "_law_wider")))),
  fun K => plainB K (adK K "_law_doubled"),
  fun K => PySem.W.keepIn K (.ref (adK K "_law_doubled")),
  fun K => He.eqO (PySem.W.nsIn K mainGlobals "_law_doubled") (some (some (.ref (adK K "_law_doubled")))),
  fun K => plainB K (adK K "_law_other"),
  fun K => PySem.W.keepIn K (.ref (adK K "_law_other"))]
def facts4 : List (PySem.W.Frag → Bool) := [
  fun K => He.eqO (PySem.W.nsIn K mainGlobals "_law_other") (some (some (.ref (adK K "_law_other")))),
  fun K => plainB K (adK K "_law_beside_right"),
  fun K => PySem.W.keepIn K (.ref (adK K "_law_beside_right")),
  fun K => He.eqO (PySem.W.nsIn K mainGlobals "_law_beside_right") (some (some (.ref (adK K "_law_beside_right")))),
  fun K => plainB K (adK K "_law_right"),
  fun K => PySem.W.keepIn K (.ref (adK K "_law_right")),
  fun K => He.eqO (PySem.W.nsIn K mainGlobals "_law_right") (some (some (.ref (adK K "_law_right")))),
  fun K => plainB K (adK K "law"),
  fun K => PySem.W.keepIn K (.ref (adK K "law")),
  fun K => He.eqO (PySem.W.nsIn K mainGlobals "law") (some (some (.ref (adK K "law")))),
  fun K => He.eqO (PySem.W.nsIn K mainGlobals "Rate") (some (some (.ref (adK K "Rate")))),
  fun K => PySem.W.plainGet K (adK K "Rate") Str.empty,
  fun K => PySem.W.hasDictIn K (adK K "Rate"),
  fun K => PySem.W.plainOver K (adK K "Rate"),
  fun K => decide (PySem.W.findIn K (.ref (adK K "Rate")) "__setattr__" = some (some (.builtin "object.__setattr__"))),
  fun K => PySem.W.makesIn K (adK K "Rate"),
  fun K => decide (PySem.W.findIn K (.ref (adK K "Rate")) "__init__" = some (some (.ref (adK K "Rate.__init__")))),
  fun K => PySem.W.isFn K (.ref (adK K "Rate.__init__")),
  fun K => PySem.W.keepIn K (.ref (adK K "Rate")),
  fun K => He.eqO (PySem.W.findIn K (.ref (adK K "Rate")) "_p") (some none),
  fun K => He.eqO (PySem.W.findIn K (.ref (adK K "Rate")) "_q") (some none),
  fun K => PySem.W.selfFirst K (adK K "Rate"),
  fun K => decide (PySem.W.findIn K (.ref (adK K "Rate")) "__mul__" = some (some (.ref (adK K "Rate.__mul__")))),
  fun K => PySem.W.isFn K (.ref (adK K "Rate.__mul__")),
  fun K => decide (PySem.W.findIn K (.ref (adK K "Rate")) "__rmul__" = some (some (.ref (adK K "Rate.__rmul__")))),
  fun K => PySem.W.isFn K (.ref (adK K "Rate.__rmul__")),
  fun K => decide (PySem.W.findIn K (.ref (adK K "Rate")) "__imul__" = some none),
  fun K => decide (PySem.W.subIn K (.ref (adK K "Rate")) (.type "int") = some false),
  fun K => (PySem.W.clsIn K (adK K "Rate")).any (fun cd => cd.mro == [.ref (adK K "Rate"), .type "object"]),
  fun K => decide (PySem.W.mroIn K (adK K "Rate") (.type "object") = some true)]
def facts5 : List (PySem.W.Frag → Bool) := [
  fun K => decide (PySem.W.findIn K (.ref (adK K "Rate")) "__class__" = some (some (.builtin "object.__class__"))),
  fun K => decide (PySem.W.specialIn K (.builtin "object.__class__") "__get__" = some (some (.builtin "getset_descriptor.__get__"))),
  fun K => decide (PySem.W.takesIn K (.builtin "object.__class__") = some true),
  fun K => decide (PySem.W.findIn K (.ref (adK K "Rate")) "__ne__" = some (some (.builtin "object.__ne__"))),
  fun K => decide (PySem.W.findIn K (.ref (adK K "Rate")) "__eq__" = some (some (.ref (adK K "Rate.__eq__")))),
  fun K => PySem.W.isFn K (.ref (adK K "Rate.__eq__")),
  fun K => decide (PySem.W.findIn K (.ref (adK K "Rate")) "__str__" = some (some (.ref (adK K "Rate.__str__")))),
  fun K => PySem.W.isFn K (.ref (adK K "Rate.__str__")),
  fun K => decide (PySem.W.findIn K (.ref (adK K "Rate")) "__repr__" = some (some (.ref (adK K "Rate.__repr__")))),
  fun K => PySem.W.isFn K (.ref (adK K "Rate.__repr__")),
  fun K => PySem.W.readsIn K (adK K "Rate") (.type "type"),
  fun K => decide (PySem.W.specialIn K (.ref (adK K "Rate")) "__getattribute__" = some (some (.builtin "type.__getattribute__"))),
  fun K => smB K (adK K "Rate") (.type "type") "read" (adK K "Rate.read!"),
  fun K => recB K (adK K "Rate.read!") "staticmethod" (adK K "Rate.read"),
  fun K => PySem.W.isClsIn K (adK K "Rate"),
  fun K => decide (PySem.W.findIn K (.ref (adK K "Rate")) "read" = some (some (.ref (adK K "Rate.read!")))),
  fun K => decide (PySem.W.typeIn K (.ref (adK K "Rate.read!")) = some (.type "staticmethod")),
  fun K => decide (PySem.W.specialIn K (.ref (adK K "Rate.read!")) "__get__" = some (some (.builtin "staticmethod.__get__"))),
  fun K => decide (PySem.W.takesIn K (.ref (adK K "Rate.read!")) = some false),
  fun K => PySem.W.keepIn K (.ref (adK K "Rate.read")),
  fun K => decide (PySem.W.findIn K (.ref (adK K "Rate")) "p" = some (some (.ref (adK K "Rate.p!")))),
  fun K => decide (PySem.W.specialIn K (.ref (adK K "Rate.p!")) "__get__" = some (some (.builtin "property.__get__"))),
  fun K => decide (PySem.W.takesIn K (.ref (adK K "Rate.p!")) = some true),
  fun K => recB K (adK K "Rate.p!") "property" (adK K "Rate.p"),
  fun K => decide (PySem.W.findIn K (.ref (adK K "Rate")) "q" = some (some (.ref (adK K "Rate.q!")))),
  fun K => decide (PySem.W.specialIn K (.ref (adK K "Rate.q!")) "__get__" = some (some (.builtin "property.__get__"))),
  fun K => decide (PySem.W.takesIn K (.ref (adK K "Rate.q!")) = some true),
  fun K => recB K (adK K "Rate.q!") "property" (adK K "Rate.q"),
  fun K => decide (PySem.W.findIn K (.ref (adK K "Rate")) "size" = some (some (.ref (adK K "Rate.size!")))),
  fun K => decide (PySem.W.specialIn K (.ref (adK K "Rate.size!")) "__get__" = some (some (.builtin "property.__get__")))]
def facts6 : List (PySem.W.Frag → Bool) := [
  fun K => decide (PySem.W.takesIn K (.ref (adK K "Rate.size!")) = some true),
  fun K => recB K (adK K "Rate.size!") "property" (adK K "Rate.size"),
  fun K => tyB K (adK K "Rate"),
  fun K => plainB K (adK K "Rate.__init__"),
  fun K => PySem.W.keepIn K (.ref (adK K "Rate.__init__")),
  fun K => plainB K (adK K "Rate.read"),
  fun K => PySem.W.keepIn K (.ref (adK K "Rate.read")),
  fun K => plainB K (adK K "Rate.p"),
  fun K => PySem.W.keepIn K (.ref (adK K "Rate.p")),
  fun K => plainB K (adK K "Rate.q"),
  fun K => PySem.W.keepIn K (.ref (adK K "Rate.q")),
  fun K => plainB K (adK K "Rate.size"),
  fun K => PySem.W.keepIn K (.ref (adK K "Rate.size")),
  fun K => plainB K (adK K "Rate.__mul__"),
  fun K => PySem.W.keepIn K (.ref (adK K "Rate.__mul__")),
  fun K => plainB K (adK K "Rate.__rmul__"),
  fun K => PySem.W.keepIn K (.ref (adK K "Rate.__rmul__")),
  fun K => plainB K (adK K "Rate.__eq__"),
  fun K => PySem.W.keepIn K (.ref (adK K "Rate.__eq__")),
  fun K => plainB K (adK K "Rate.__str__"),
  fun K => PySem.W.keepIn K (.ref (adK K "Rate.__str__")),
  fun K => plainB K (adK K "Rate.__repr__"),
  fun K => PySem.W.keepIn K (.ref (adK K "Rate.__repr__")),
  fun K => dfnB K (adK K "Coder.__init__") [.str ""],
  fun K => PySem.W.keepIn K (.ref (adK K "Coder.__init__")),
  fun K => dfnB K (adK K "Coder.end") [.int 0],
  fun K => PySem.W.keepIn K (.ref (adK K "Coder.end")),
  fun K => dfnB K (adK K "Coder.blocks") [.int 0],
  fun K => PySem.W.keepIn K (.ref (adK K "Coder.blocks")),
  fun K => He.eqO (PySem.W.nsIn K mainGlobals "Coder") (some (some (.ref (adK K "Coder"))))]
def facts7 : List (PySem.W.Frag → Bool) := [
  fun K => PySem.W.plainGet K (adK K "Coder") Str.empty,
  fun K => PySem.W.hasDictIn K (adK K "Coder"),
  fun K => PySem.W.plainOver K (adK K "Coder"),
  fun K => decide (PySem.W.findIn K (.ref (adK K "Coder")) "__setattr__" = some (some (.builtin "object.__setattr__"))),
  fun K => PySem.W.makesIn K (adK K "Coder"),
  fun K => decide (PySem.W.findIn K (.ref (adK K "Coder")) "__init__" = some (some (.ref (adK K "Coder.__init__")))),
  fun K => PySem.W.isFn K (.ref (adK K "Coder.__init__")),
  fun K => PySem.W.keepIn K (.ref (adK K "Coder")),
  fun K => He.eqO (PySem.W.findIn K (.ref (adK K "Coder")) "_rate") (some none),
  fun K => He.eqO (PySem.W.findIn K (.ref (adK K "Coder")) "_lead") (some none),
  fun K => He.eqO (PySem.W.findIn K (.ref (adK K "Coder")) "_codes") (some none),
  fun K => conB K (adK K "Coder") "MOST_ENTRIES" 2000,
  fun K => plainB K (adK K "Coder.rate"),
  fun K => PySem.W.keepIn K (.ref (adK K "Coder.rate")),
  fun K => plainB K (adK K "Coder.lead"),
  fun K => PySem.W.keepIn K (.ref (adK K "Coder.lead")),
  fun K => plainB K (adK K "Coder.codes"),
  fun K => PySem.W.keepIn K (.ref (adK K "Coder.codes")),
  fun K => plainB K (adK K "Coder.follow"),
  fun K => PySem.W.keepIn K (.ref (adK K "Coder.follow")),
  fun K => plainB K (adK K "Coder.__len__"),
  fun K => PySem.W.keepIn K (.ref (adK K "Coder.__len__")),
  fun K => plainB K (adK K "Coder.__eq__"),
  fun K => PySem.W.keepIn K (.ref (adK K "Coder.__eq__")),
  fun K => decide (PySem.W.findIn K (.ref (adK K "Coder")) "__class__" = some (some (.builtin "object.__class__"))),
  fun K => decide (PySem.W.mroIn K (adK K "Coder") (.type "object") = some true),
  fun K => tyB K (adK K "Coder"),
  fun K => decide (PySem.W.kitOne K (.ref (adK K "Rate")) (.ref (adK K "Coder")) = some false),
  fun K => decide (PySem.W.findIn K (.ref (adK K "Coder")) "follow" = some (some (.ref (adK K "Coder.follow")))),
  fun K => PySem.W.isFn K (.ref (adK K "Coder.follow"))]
def facts8 : List (PySem.W.Frag → Bool) := [
  fun K => PySem.W.keepIn K (.ref (adK K "Coder.follow")),
  fun K => decide (PySem.W.findIn K (.ref (adK K "Coder")) "__len__" = some (some (.ref (adK K "Coder.__len__")))),
  fun K => PySem.W.isFn K (.ref (adK K "Coder.__len__")),
  fun K => decide (PySem.W.findIn K (.ref (adK K "Coder")) "blocks" = some (some (.ref (adK K "Coder.blocks")))),
  fun K => PySem.W.isFn K (.ref (adK K "Coder.blocks")),
  fun K => PySem.W.keepIn K (.ref (adK K "Coder.blocks")),
  fun K => plainB K (adK K "Coder.__call__"),
  fun K => PySem.W.keepIn K (.ref (adK K "Coder.__call__")),
  fun K => decide (PySem.W.findIn K (.ref (adK K "Coder")) "rate" = some (some (.ref (adK K "Coder.rate!")))),
  fun K => decide (PySem.W.specialIn K (.ref (adK K "Coder.rate!")) "__get__" = some (some (.builtin "property.__get__"))),
  fun K => decide (PySem.W.takesIn K (.ref (adK K "Coder.rate!")) = some true),
  fun K => recB K (adK K "Coder.rate!") "property" (adK K "Coder.rate"),
  fun K => decide (PySem.W.findIn K (.ref (adK K "Coder")) "lead" = some (some (.ref (adK K "Coder.lead!")))),
  fun K => decide (PySem.W.specialIn K (.ref (adK K "Coder.lead!")) "__get__" = some (some (.builtin "property.__get__"))),
  fun K => decide (PySem.W.takesIn K (.ref (adK K "Coder.lead!")) = some true),
  fun K => recB K (adK K "Coder.lead!") "property" (adK K "Coder.lead"),
  fun K => decide (PySem.W.findIn K (.ref (adK K "Coder")) "codes" = some (some (.ref (adK K "Coder.codes")))),
  fun K => PySem.W.isFn K (.ref (adK K "Coder.codes")),
  fun K => PySem.W.keepIn K (.ref (adK K "Coder.codes")),
  fun K => decide (PySem.W.findIn K (.ref (adK K "Coder")) "__ne__" = some (some (.builtin "object.__ne__"))),
  fun K => decide (PySem.W.findIn K (.ref (adK K "Coder")) "__eq__" = some (some (.ref (adK K "Coder.__eq__")))),
  fun K => PySem.W.isFn K (.ref (adK K "Coder.__eq__")),
  fun K => decide (PySem.W.findIn K (.ref (adK K "Coder")) "end" = some (some (.ref (adK K "Coder.end")))),
  fun K => PySem.W.isFn K (.ref (adK K "Coder.end")),
  fun K => PySem.W.keepIn K (.ref (adK K "Coder.end")),
  fun K => decide (PySem.W.findIn K (.ref (adK K "Coder")) "__call__" = some (some (.ref (adK K "Coder.__call__")))),
  fun K => PySem.W.isFn K (.ref (adK K "Coder.__call__")),
  fun K => PySem.W.fnIn K (adK K "Coder.__call__"),
  fun K => plainB K (adK K "Coder.__repr__"),
  fun K => PySem.W.keepIn K (.ref (adK K "Coder.__repr__"))]
def facts9 : List (PySem.W.Frag → Bool) := [
  fun K => decide (PySem.W.findIn K (.ref (adK K "Coder")) "__repr__" = some (some (.ref (adK K "Coder.__repr__")))),
  fun K => PySem.W.isFn K (.ref (adK K "Coder.__repr__")),
  fun K => decide (PySem.W.findIn K (.ref (adK K "Rate")) "__format__" = some (some (.builtin "object.__format__"))),
  fun K => PySem.W.notFirst K (adK K "Coder") (.ref (adK K "Rate")),
  fun K => xbAll K (adK K "InvalidNumber") [.type "ValueError", .type "Exception", .type "BaseException", .type "object"] "ValueError.__new__",
  fun K => xiB K (adK K "InvalidNumber") (adK K "InvalidNumber.__init__"),
  fun K => plainB K (adK K "InvalidNumber.__init__"),
  fun K => He.eqO (PySem.W.findIn K (.ref (adK K "InvalidNumber")) "value") (some none),
  fun K => He.eqO (PySem.W.nsIn K mainGlobals "InvalidNumber") (some (some (.ref (adK K "InvalidNumber"))))]
def facts : List (PySem.W.Frag → Bool) := facts0 ++ (facts1 ++ (facts2 ++ (facts3 ++ (facts4 ++ (facts5 ++ (facts6 ++ (facts7 ++ (facts8 ++ (facts9)))))))))
def fnd0 : List (Str × (Str × Str × Arguments × FuncBody × Scope × Addr × List (Str × Addr) × Addr)) := [
  ("is_integer", ("is_integer", "is_integer", defArgs sIsInteger, .stmts (defBody sIsInteger), defScope sIsInteger, mainGlobals, [], builtinsNs)),
  ("is_between", ("is_between", "is_between", defArgs sIsBetween, .stmts (defBody sIsBetween), defScope sIsBetween, mainGlobals, [], builtinsNs)),
  ("is_row", ("is_row", "is_row", defArgs sIsRow, .stmts (defBody sIsRow), defScope sIsRow, mainGlobals, [], builtinsNs)),
  ("is_list", ("is_list", "is_list", defArgs sIsList, .stmts (defBody sIsList), defScope sIsList, mainGlobals, [], builtinsNs)),
  ("is_short_row", ("is_short_row", "is_short_row", defArgs sIsShortRow, .stmts (defBody sIsShortRow), defScope sIsShortRow, mainGlobals, [], builtinsNs)),
  ("check_row", ("check_row", "check_row", defArgs sCheckRow, .stmts (defBody sCheckRow), defScope sCheckRow, mainGlobals, [], builtinsNs)),
  ("check_state", ("check_state", "check_state", defArgs sCheckState, .stmts (defBody sCheckState), defScope sCheckState, mainGlobals, [], builtinsNs)),
  ("check_word", ("check_word", "check_word", defArgs sCheckWord, .stmts (defBody sCheckWord), defScope sCheckWord, mainGlobals, [], builtinsNs)),
  ("check_text", ("check_text", "check_text", defArgs sCheckText, .stmts (defBody sCheckText), defScope sCheckText, mainGlobals, [], builtinsNs)),
  ("is_block", ("is_block", "is_block", defArgs sIsBlock, .stmts (defBody sIsBlock), defScope sIsBlock, mainGlobals, [], builtinsNs)),
  ("is_rate", ("is_rate", "is_rate", defArgs sIsRate, .stmts (defBody sIsRate), defScope sIsRate, mainGlobals, [], builtinsNs)),
  ("multiple", ("multiple", "multiple", defArgs sMultiple, .stmts (defBody sMultiple), defScope sMultiple, mainGlobals, [], builtinsNs)),
  ("check_times", ("check_times", "check_times", defArgs sCheckTimes, .stmts (defBody sCheckTimes), defScope sCheckTimes, mainGlobals, [], builtinsNs)),
  ("check_rate", ("check_rate", "check_rate", defArgs sCheckRate, .stmts (defBody sCheckRate), defScope sCheckRate, mainGlobals, [], builtinsNs)),
  ("kept_codes", ("kept_codes", "kept_codes", defArgs sKeptCodes, .stmts (defBody sKeptCodes), defScope sKeptCodes, mainGlobals, [], builtinsNs)),
  ("is_entry", ("is_entry", "is_entry", defArgs sIsEntry, .stmts (defBody sIsEntry), defScope sIsEntry, mainGlobals, [], builtinsNs)),
  ("check_codes", ("check_codes", "check_codes", defArgs sCheckCodes, .stmts (defBody sCheckCodes), defScope sCheckCodes, mainGlobals, [], builtinsNs)),
  ("_law_pot", ("_law_pot", "_law_pot", defArgs sPot, .stmts (defBody sPot), defScope sPot, mainGlobals, [], builtinsNs)),
  ("_law_draw", ("_law_draw", "_law_draw", defArgs sDraw, .stmts (defBody sDraw), defScope sDraw, mainGlobals, [], builtinsNs)),
  ("_law_pick", ("_law_pick", "_law_pick", defArgs sPick, .stmts (defBody sPick), defScope sPick, mainGlobals, [], builtinsNs)),
  ("_law_mixed", ("_law_mixed", "_law_mixed", defArgs sMixed, .stmts (defBody sMixed), defScope sMixed, mainGlobals, [], builtinsNs)),
  ("_law_reached", ("_law_reached", "_law_reached", defArgs sReached, .stmts (defBody sReached), defScope sReached, mainGlobals, [], builtinsNs)),
  ("_law_kept", ("_law_kept", "_law_kept", defArgs sKept, .stmts (defBody sKept), defScope sKept, mainGlobals, [], builtinsNs)),
  ("_law_way", ("_law_way", "_law_way", defArgs sWay, .stmts (defBody sWay), defScope sWay, mainGlobals, [], builtinsNs)),
  ("_law_loose_codes", ("_law_loose_codes", "_law_loose_codes", defArgs sLooseCodes, .stmts (defBody sLooseCodes), defScope sLooseCodes, mainGlobals, [], builtinsNs)),
  ("_law_words", ("_law_words", "_law_words", defArgs sWords, .stmts (defBody sWords), defScope sWords, mainGlobals, [], builtinsNs)),
  ("_law_made", ("_law_made", "_law_made", defArgs sMade, .stmts (defBody sMade), defScope sMade, mainGlobals, [], builtinsNs)),
  ("_law_told", ("_law_told", "_law_told", defArgs sTold, .stmts (defBody sTold), defScope sTold, mainGlobals, [], builtinsNs)),
  ("_law_turned", ("_law_turned", "_law_turned", defArgs sTurned, .stmts (defBody sTurned), defScope sTurned, mainGlobals, [], builtinsNs)),
  ("_law_wider", ("_law_wider", "_law_wider", defArgs sWider, .stmts (defBody sWider), defScope sWider, mainGlobals, [], builtinsNs))]
def fnd1 : List (Str × (Str × Str × Arguments × FuncBody × Scope × Addr × List (Str × Addr) × Addr)) := [
  ("_law_doubled", ("_law_doubled", "_law_doubled", defArgs sDoubled, .stmts (defBody sDoubled), defScope sDoubled, mainGlobals, [], builtinsNs)),
  ("_law_other", ("_law_other", "_law_other", defArgs sOther, .stmts (defBody sOther), defScope sOther, mainGlobals, [], builtinsNs)),
  ("_law_beside_right", ("_law_beside_right", "_law_beside_right", defArgs sBesideRight, .stmts (defBody sBesideRight), defScope sBesideRight, mainGlobals, [], builtinsNs)),
  ("_law_right", ("_law_right", "_law_right", defArgs sRight, .stmts (defBody sRight), defScope sRight, mainGlobals, [], builtinsNs)),
  ("law", ("law", "law", defArgs sLaw, .stmts (defBody sLaw), defScope sLaw, mainGlobals, [], builtinsNs)),
  ("Rate.__init__", ("__init__", "Rate.__init__", defArgs sR_init, .stmts (defBody sR_init), defScope sR_init, mainGlobals, [], builtinsNs)),
  ("Rate.read", ("read", "Rate.read", defArgs sR_read, .stmts (defBody sR_read), defScope sR_read, mainGlobals, [], builtinsNs)),
  ("Rate.p", ("p", "Rate.p", defArgs sR_p, .stmts (defBody sR_p), defScope sR_p, mainGlobals, [], builtinsNs)),
  ("Rate.q", ("q", "Rate.q", defArgs sR_q, .stmts (defBody sR_q), defScope sR_q, mainGlobals, [], builtinsNs)),
  ("Rate.size", ("size", "Rate.size", defArgs sR_size, .stmts (defBody sR_size), defScope sR_size, mainGlobals, [], builtinsNs)),
  ("Rate.__mul__", ("__mul__", "Rate.__mul__", defArgs sR_mul, .stmts (defBody sR_mul), defScope sR_mul, mainGlobals, [], builtinsNs)),
  ("Rate.__rmul__", ("__rmul__", "Rate.__rmul__", defArgs sR_rmul, .stmts (defBody sR_rmul), defScope sR_rmul, mainGlobals, [], builtinsNs)),
  ("Rate.__eq__", ("__eq__", "Rate.__eq__", defArgs sR_eq, .stmts (defBody sR_eq), defScope sR_eq, mainGlobals, [], builtinsNs)),
  ("Rate.__str__", ("__str__", "Rate.__str__", defArgs sR_str, .stmts (defBody sR_str), defScope sR_str, mainGlobals, [], builtinsNs)),
  ("Rate.__repr__", ("__repr__", "Rate.__repr__", defArgs sR_repr, .stmts (defBody sR_repr), defScope sR_repr, mainGlobals, [], builtinsNs)),
  ("Coder.__init__", ("__init__", "Coder.__init__", defArgs sC_init, .stmts (defBody sC_init), defScope sC_init, mainGlobals, [], builtinsNs)),
  ("Coder.end", ("end", "Coder.end", defArgs sC_end, .stmts (defBody sC_end), defScope sC_end, mainGlobals, [], builtinsNs)),
  ("Coder.blocks", ("blocks", "Coder.blocks", defArgs sC_blocks, .stmts (defBody sC_blocks), defScope sC_blocks, mainGlobals, [], builtinsNs)),
  ("Coder.rate", ("rate", "Coder.rate", defArgs sC_rate, .stmts (defBody sC_rate), defScope sC_rate, mainGlobals, [], builtinsNs)),
  ("Coder.lead", ("lead", "Coder.lead", defArgs sC_lead, .stmts (defBody sC_lead), defScope sC_lead, mainGlobals, [], builtinsNs)),
  ("Coder.codes", ("codes", "Coder.codes", defArgs sC_codes, .stmts (defBody sC_codes), defScope sC_codes, mainGlobals, [], builtinsNs)),
  ("Coder.follow", ("follow", "Coder.follow", defArgs sC_follow, .stmts (defBody sC_follow), defScope sC_follow, mainGlobals, [], builtinsNs)),
  ("Coder.__len__", ("__len__", "Coder.__len__", defArgs sC_len, .stmts (defBody sC_len), defScope sC_len, mainGlobals, [], builtinsNs)),
  ("Coder.__eq__", ("__eq__", "Coder.__eq__", defArgs sC_eq, .stmts (defBody sC_eq), defScope sC_eq, mainGlobals, [], builtinsNs)),
  ("Coder.__call__", ("__call__", "Coder.__call__", defArgs sC_call, .stmts (defBody sC_call), defScope sC_call, mainGlobals, [], builtinsNs)),
  ("Coder.__repr__", ("__repr__", "Coder.__repr__", defArgs sC_repr, .stmts (defBody sC_repr), defScope sC_repr, mainGlobals, [], builtinsNs)),
  ("InvalidNumber.__init__", ("__init__", "InvalidNumber.__init__", defArgs (inS 6 0), .stmts (defBody (inS 6 0)), defScope (inS 6 0), mainGlobals, [], builtinsNs))]
def fnd : List (Str × (Str × Str × Arguments × FuncBody × Scope × Addr × List (Str × Addr) × Addr)) := fnd0 ++ (fnd1)
abbrev AlK : Type := Bool × List He.FnW
def obsK (K : PySem.W.Frag) : AlK := (facts.all fun f => f K, fnd.map fun p => fnA K (adK K p.1))
def valK : AlK := (true, fnd.map fun p => some p.2)
def obG (g : Addr → Option Obj) : AlK := obsK (He.frG g addrs)
def hookK : PySem.W.Hook where
  α := AlK
  obs := fun s => obG s.heap.get?
  val := fun _ => valK
  says := fun _ h => ∃ K : PySem.W.Frag, K.In h ∧ obsK K = valK
  of := fun _ _ e => ⟨_, He.frG_in, e⟩
  keeps := fun _ _ _ ⟨K, hK, c⟩ k => ⟨K, PySem.W.Frag.In.keeps hK k, c⟩
def ob (s : PySem.W.SharedT) : AlK := obG (HandSHeadRun.getT s)
theorem ob_eq (s : PySem.W.SharedT) : ob s = hookK.obs s.abs := by
  have e : HandSHeadRun.getT s = s.abs.heap.get? := funext (HandSHeadRun.getT_eq s)
  show obG _ = obG _
  rw [e]
theorem fx {K : PySem.W.Frag} (c : obsK K = valK) (i : Nat) {f : PySem.W.Frag → Bool} (h : facts[i]? = some f := by rfl) : f K = true := by
  have c1 : (facts.all fun f => f K) = true := congrArg (fun z : AlK => z.1) c
  exact List.all_eq_true.mp c1 f (List.mem_of_getElem? h)
theorem fnx {K : PySem.W.Frag} (c : obsK K = valK) (i : Nat) {x : Str} {d : Str × Str × Arguments × FuncBody × Scope × Addr × List (Str × Addr) × Addr} (h : fnd[i]? = some (x, d) := by rfl) : fnA K (adK K x) = some d := by
  have e : fnd.map (fun p => fnA K (adK K p.1)) = fnd.map fun p => some p.2 := congrArg (fun z : AlK => z.2) c
  have e2 : (fnd.map fun p => fnA K (adK K p.1))[i]? = (fnd.map fun p => some p.2)[i]? := by rw [e]
  rw [List.getElem?_map, List.getElem?_map, h] at e2
  exact Option.some.inj e2
theorem sys_of {K : PySem.W.Frag} (h : (match K.lookup sysModules with | some o => decide (o.cls ≠ .type "list") | none => false) = true) : ∃ o, K.lookup sysModules = some o ∧ o.cls ≠ .type "list" := by
  cases e : K.lookup sysModules with
  | none => rw [e] at h; cases h
  | some o => rw [e] at h; exact ⟨o, rfl, of_decide_eq_true h⟩
theorem fun_of {K : PySem.W.Frag} {nm x : Str} {st : Stmt} (e : fnA K (adK K x) = some (nm, x, defArgs st, .stmts (defBody st), defScope st, mainGlobals, [], builtinsNs)) (c : plainB K (adK K x) = true) (k : PySem.W.keepIn K (.ref (adK K x)) = true) : Fun K nm x st (adK K x) (fdK K x) := by
  obtain ⟨oc, od, doc, pm, an, cdv, ct, osl, ho, hc⟩ := fn_at e c
  have ef : fdK K x = PySem.W.fnOf nm x (defArgs st) (defBody st) (defScope st) .none .none doc pm an cdv ct := by
    unfold fdK
    rw [ho]
  refine ⟨⟨oc, od, .none, doc, pm, an, cdv, ct, osl, ef, ?_, hc⟩, k⟩
  rw [ef]; exact ho
theorem funV_of {K : PySem.W.Frag} {nm x : Str} {st : Stmt} {dvs : List V} (e : fnA K (adK K x) = some (nm, x, defArgs st, .stmts (defBody st), defScope st, mainGlobals, [], builtinsNs)) (c : dfnB K (adK K x) dvs = true) (k : PySem.W.keepIn K (.ref (adK K x)) = true) : FunV K nm x st dvs (adK K x) (fdK K x) := by
  obtain ⟨oc, od, dV, kV, doc, pm, an, cdv, ct, osl, ho, hd, hc⟩ := fnV_at e c
  have ef : fdK K x = PySem.W.fnOf nm x (defArgs st) (defBody st) (defScope st) dV kV doc pm an cdv ct := by
    unfold fdK
    rw [ho]
  refine ⟨⟨oc, od, dV, kV, doc, pm, an, cdv, ct, osl, ef, ?_, hc, hd, .inl rfl⟩, k⟩
  rw [ef]; exact ho
section
variable {K : PySem.W.Frag} {h : Heap} {mg : Str → Option Value}
theorem txK (X : K.In h) (G : h.Ns mainGlobals mg) (c : obsK K = valK) : Tx K mg (adK K) (fdK K) where
  m_isinstance := (PySem.W.mg_none_of X G (He.eqO_ok (fx c 0)))
  m_int := (PySem.W.mg_none_of X G (He.eqO_ok (fx c 1)))
  m_bool := (PySem.W.mg_none_of X G (He.eqO_ok (fx c 2)))
  m_str := (PySem.W.mg_none_of X G (He.eqO_ok (fx c 3)))
  m_all := (PySem.W.mg_none_of X G (He.eqO_ok (fx c 4)))
  m_any := (PySem.W.mg_none_of X G (He.eqO_ok (fx c 5)))
  m_len := (PySem.W.mg_none_of X G (He.eqO_ok (fx c 6)))
  m_abs := (PySem.W.mg_none_of X G (He.eqO_ok (fx c 7)))
  m_max := (PySem.W.mg_none_of X G (He.eqO_ok (fx c 8)))
  m_min := (PySem.W.mg_none_of X G (He.eqO_ok (fx c 9)))
  m_divmod := (PySem.W.mg_none_of X G (He.eqO_ok (fx c 10)))
  m_range := (PySem.W.mg_none_of X G (He.eqO_ok (fx c 11)))
  m_repr := (PySem.W.mg_none_of X G (He.eqO_ok (fx c 12)))
  m_dict := (PySem.W.mg_none_of X G (He.eqO_ok (fx c 13)))
  m_list := (PySem.W.mg_none_of X G (He.eqO_ok (fx c 14)))
  m_tuple := (PySem.W.mg_none_of X G (He.eqO_ok (fx c 15)))
  m_enumerate := (PySem.W.mg_none_of X G (He.eqO_ok (fx c 16)))
  m_ValueError := (PySem.W.mg_none_of X G (He.eqO_ok (fx c 17)))
  m_ArithmeticError := (PySem.W.mg_none_of X G (He.eqO_ok (fx c 18)))
  sys := sys_of (fx c 19)
  g_MOST_IN_RATE := He.int_ok X G (fx c 20)
  g_DIGITS := He.str_ok X G (fx c 21)
  g_ALL_SIGNS := He.str_ok X G (fx c 22)
  g_MOST_IN_ROW := He.int_ok X G (fx c 23)
  g_MOST_IN_TEXT := He.int_ok X G (fx c 24)
  F_is_integer := (fun_of (st := sIsInteger) (fnx c 0) (fx c 25) (fx c 26))
  g_is_integer := (PySem.W.mg_of X G (He.eqO_ok (fx c 27)))
  b_is_integer := (fun_of (st := sIsInteger) (fnx c 0) (fx c 25) (fx c 26)).binds (ps := ["value"]) fun _ _ _ _ _ _ us hl => match us, hl with | [_], _ => rfl
  F_is_between := (fun_of (st := sIsBetween) (fnx c 1) (fx c 28) (fx c 29))
  g_is_between := (PySem.W.mg_of X G (He.eqO_ok (fx c 30)))
  b_is_between := (fun_of (st := sIsBetween) (fnx c 1) (fx c 28) (fx c 29)).binds (ps := ["value", "low", "high"]) fun _ _ _ _ _ _ us hl => match us, hl with | [_, _, _], _ => rfl
  F_is_row := (fun_of (st := sIsRow) (fnx c 2) (fx c 31) (fx c 32))
  g_is_row := (PySem.W.mg_of X G (He.eqO_ok (fx c 33)))
  b_is_row := (fun_of (st := sIsRow) (fnx c 2) (fx c 31) (fx c 32)).binds (ps := ["value"]) fun _ _ _ _ _ _ us hl => match us, hl with | [_], _ => rfl
  F_is_list := (fun_of (st := sIsList) (fnx c 3) (fx c 34) (fx c 35))
  g_is_list := (PySem.W.mg_of X G (He.eqO_ok (fx c 36)))
  b_is_list := (fun_of (st := sIsList) (fnx c 3) (fx c 34) (fx c 35)).binds (ps := ["value"]) fun _ _ _ _ _ _ us hl => match us, hl with | [_], _ => rfl
  F_is_short_row := (fun_of (st := sIsShortRow) (fnx c 4) (fx c 37) (fx c 38))
  g_is_short_row := (PySem.W.mg_of X G (He.eqO_ok (fx c 39)))
  b_is_short_row := (fun_of (st := sIsShortRow) (fnx c 4) (fx c 37) (fx c 38)).binds (ps := ["value"]) fun _ _ _ _ _ _ us hl => match us, hl with | [_], _ => rfl
  F_check_row := (fun_of (st := sCheckRow) (fnx c 5) (fx c 40) (fx c 41))
  g_check_row := (PySem.W.mg_of X G (He.eqO_ok (fx c 42)))
  b_check_row := (fun_of (st := sCheckRow) (fnx c 5) (fx c 40) (fx c 41)).binds (ps := ["row"]) fun _ _ _ _ _ _ us hl => match us, hl with | [_], _ => rfl
  F_check_state := (fun_of (st := sCheckState) (fnx c 6) (fx c 43) (fx c 44))
  g_check_state := (PySem.W.mg_of X G (He.eqO_ok (fx c 45)))
  b_check_state := (fun_of (st := sCheckState) (fnx c 6) (fx c 43) (fx c 44)).binds (ps := ["state", "size"]) fun _ _ _ _ _ _ us hl => match us, hl with | [_, _], _ => rfl
  F_check_word := (fun_of (st := sCheckWord) (fnx c 7) (fx c 46) (fx c 47))
  g_check_word := (PySem.W.mg_of X G (He.eqO_ok (fx c 48)))
  b_check_word := (fun_of (st := sCheckWord) (fnx c 7) (fx c 46) (fx c 47)).binds (ps := ["word", "size"]) fun _ _ _ _ _ _ us hl => match us, hl with | [_, _], _ => rfl
  F_check_text := (funV_of (st := sCheckText) (x := "check_text") (dvs := [.int 0, .int 200]) (fnx c 8) (fx c 49) (fx c 50))
  g_check_text := (PySem.W.mg_of X G (He.eqO_ok (fx c 51)))
  F_is_block := (fun_of (st := sIsBlock) (fnx c 9) (fx c 52) (fx c 53))
  g_is_block := (PySem.W.mg_of X G (He.eqO_ok (fx c 54)))
  b_is_block := (fun_of (st := sIsBlock) (fnx c 9) (fx c 52) (fx c 53)).binds (ps := ["value", "length"]) fun _ _ _ _ _ _ us hl => match us, hl with | [_, _], _ => rfl
  F_is_rate := (fun_of (st := sIsRate) (fnx c 10) (fx c 55) (fx c 56))
  g_is_rate := (PySem.W.mg_of X G (He.eqO_ok (fx c 57)))
  b_is_rate := (fun_of (st := sIsRate) (fnx c 10) (fx c 55) (fx c 56)).binds (ps := ["value"]) fun _ _ _ _ _ _ us hl => match us, hl with | [_], _ => rfl
  F_multiple := (fun_of (st := sMultiple) (fnx c 11) (fx c 58) (fx c 59))
  g_multiple := (PySem.W.mg_of X G (He.eqO_ok (fx c 60)))
  b_multiple := (fun_of (st := sMultiple) (fnx c 11) (fx c 58) (fx c 59)).binds (ps := ["rate", "times"]) fun _ _ _ _ _ _ us hl => match us, hl with | [_, _], _ => rfl
  F_check_times := (fun_of (st := sCheckTimes) (fnx c 12) (fx c 61) (fx c 62))
  g_check_times := (PySem.W.mg_of X G (He.eqO_ok (fx c 63)))
  b_check_times := (fun_of (st := sCheckTimes) (fnx c 12) (fx c 61) (fx c 62)).binds (ps := ["times"]) fun _ _ _ _ _ _ us hl => match us, hl with | [_], _ => rfl
  F_check_rate := (fun_of (st := sCheckRate) (fnx c 13) (fx c 64) (fx c 65))
  g_check_rate := (PySem.W.mg_of X G (He.eqO_ok (fx c 66)))
  b_check_rate := (fun_of (st := sCheckRate) (fnx c 13) (fx c 64) (fx c 65)).binds (ps := ["rate"]) fun _ _ _ _ _ _ us hl => match us, hl with | [_], _ => rfl
  F_kept_codes := (fun_of (st := sKeptCodes) (fnx c 14) (fx c 67) (fx c 68))
  g_kept_codes := (PySem.W.mg_of X G (He.eqO_ok (fx c 69)))
  b_kept_codes := (fun_of (st := sKeptCodes) (fnx c 14) (fx c 67) (fx c 68)).binds (ps := ["codes"]) fun _ _ _ _ _ _ us hl => match us, hl with | [_], _ => rfl
  F_is_entry := (fun_of (st := sIsEntry) (fnx c 15) (fx c 70) (fx c 71))
  g_is_entry := (PySem.W.mg_of X G (He.eqO_ok (fx c 72)))
  b_is_entry := (fun_of (st := sIsEntry) (fnx c 15) (fx c 70) (fx c 71)).binds (ps := ["value", "length", "size"]) fun _ _ _ _ _ _ us hl => match us, hl with | [_, _, _], _ => rfl
  F_check_codes := (fun_of (st := sCheckCodes) (fnx c 16) (fx c 73) (fx c 74))
  g_check_codes := (PySem.W.mg_of X G (He.eqO_ok (fx c 75)))
  b_check_codes := (fun_of (st := sCheckCodes) (fnx c 16) (fx c 73) (fx c 74)).binds (ps := ["codes", "rate"]) fun _ _ _ _ _ _ us hl => match us, hl with | [_, _], _ => rfl
  F__law_pot := (fun_of (st := sPot) (fnx c 17) (fx c 76) (fx c 77))
  g__law_pot := (PySem.W.mg_of X G (He.eqO_ok (fx c 78)))
  b__law_pot := (fun_of (st := sPot) (fnx c 17) (fx c 76) (fx c 77)).binds (ps := ["_law_script", "_law_k"]) fun _ _ _ _ _ _ us hl => match us, hl with | [_, _], _ => rfl
  F__law_draw := (fun_of (st := sDraw) (fnx c 18) (fx c 79) (fx c 80))
  g__law_draw := (PySem.W.mg_of X G (He.eqO_ok (fx c 81)))
  b__law_draw := (fun_of (st := sDraw) (fnx c 18) (fx c 79) (fx c 80)).binds (ps := ["_law_pot_here", "_law_bound"]) fun _ _ _ _ _ _ us hl => match us, hl with | [_, _], _ => rfl
  F__law_pick := (fun_of (st := sPick) (fnx c 19) (fx c 82) (fx c 83))
  g__law_pick := (PySem.W.mg_of X G (He.eqO_ok (fx c 84)))
  b__law_pick := (fun_of (st := sPick) (fnx c 19) (fx c 82) (fx c 83)).binds (ps := ["_law_pot_here", "_law_some"]) fun _ _ _ _ _ _ us hl => match us, hl with | [_, _], _ => rfl
  F__law_mixed := (fun_of (st := sMixed) (fnx c 20) (fx c 85) (fx c 86))
  g__law_mixed := (PySem.W.mg_of X G (He.eqO_ok (fx c 87)))
  b__law_mixed := (fun_of (st := sMixed) (fnx c 20) (fx c 85) (fx c 86)).binds (ps := ["_law_pot_here", "_law_some"]) fun _ _ _ _ _ _ us hl => match us, hl with | [_, _], _ => rfl
  F__law_reached := (fun_of (st := sReached) (fnx c 21) (fx c 88) (fx c 89))
  g__law_reached := (PySem.W.mg_of X G (He.eqO_ok (fx c 90)))
  b__law_reached := (fun_of (st := sReached) (fnx c 21) (fx c 88) (fx c 89)).binds (ps := ["_law_chart"]) fun _ _ _ _ _ _ us hl => match us, hl with | [_], _ => rfl
  F__law_kept := (fun_of (st := sKept) (fnx c 22) (fx c 91) (fx c 92))
  g__law_kept := (PySem.W.mg_of X G (He.eqO_ok (fx c 93)))
  b__law_kept := (fun_of (st := sKept) (fnx c 22) (fx c 91) (fx c 92)).binds (ps := ["_law_chart"]) fun _ _ _ _ _ _ us hl => match us, hl with | [_], _ => rfl
  F__law_way := (fun_of (st := sWay) (fnx c 23) (fx c 94) (fx c 95))
  g__law_way := (PySem.W.mg_of X G (He.eqO_ok (fx c 96)))
  b__law_way := (fun_of (st := sWay) (fnx c 23) (fx c 94) (fx c 95)).binds (ps := ["_law_chart", "_law_spot", "_law_words_here"]) fun _ _ _ _ _ _ us hl => match us, hl with | [_, _, _], _ => rfl
  F__law_loose_codes := (fun_of (st := sLooseCodes) (fnx c 24) (fx c 97) (fx c 98))
  g__law_loose_codes := (PySem.W.mg_of X G (He.eqO_ok (fx c 99)))
  b__law_loose_codes := (fun_of (st := sLooseCodes) (fnx c 24) (fx c 97) (fx c 98)).binds (ps := ["_law_pot_here", "_law_pace", "_law_most", "_law_letters"]) fun _ _ _ _ _ _ us hl => match us, hl with | [_, _, _, _], _ => rfl
  F__law_words := (fun_of (st := sWords) (fnx c 25) (fx c 100) (fx c 101))
  g__law_words := (PySem.W.mg_of X G (He.eqO_ok (fx c 102)))
  b__law_words := (fun_of (st := sWords) (fnx c 25) (fx c 100) (fx c 101)).binds (ps := ["_law_pot_here", "_law_pace", "_law_size"]) fun _ _ _ _ _ _ us hl => match us, hl with | [_, _, _], _ => rfl
  F__law_made := (fun_of (st := sMade) (fnx c 26) (fx c 103) (fx c 104))
  g__law_made := (PySem.W.mg_of X G (He.eqO_ok (fx c 105)))
  b__law_made := (fun_of (st := sMade) (fnx c 26) (fx c 103) (fx c 104)).binds (ps := ["_law_pace", "_law_chart", "_law_start"]) fun _ _ _ _ _ _ us hl => match us, hl with | [_, _, _], _ => rfl
  F__law_told := (fun_of (st := sTold) (fnx c 27) (fx c 106) (fx c 107))
  g__law_told := (PySem.W.mg_of X G (He.eqO_ok (fx c 108)))
  b__law_told := (fun_of (st := sTold) (fnx c 27) (fx c 106) (fx c 107)).binds (ps := ["_law_made_here"]) fun _ _ _ _ _ _ us hl => match us, hl with | [_], _ => rfl
  F__law_turned := (fun_of (st := sTurned) (fnx c 28) (fx c 109) (fx c 110))
  g__law_turned := (PySem.W.mg_of X G (He.eqO_ok (fx c 111)))
  b__law_turned := (fun_of (st := sTurned) (fnx c 28) (fx c 109) (fx c 110)).binds (ps := ["_law_pot_here", "_law_chart"]) fun _ _ _ _ _ _ us hl => match us, hl with | [_, _], _ => rfl
  F__law_wider := (fun_of (st := sWider) (fnx c 29) (fx c 112) (fx c 113))
  g__law_wider := (PySem.W.mg_of X G (He.eqO_ok (fx c 114)))
  b__law_wider := (fun_of (st := sWider) (fnx c 29) (fx c 112) (fx c 113)).binds (ps := ["_law_pot_here", "_law_pace", "_law_chart"]) fun _ _ _ _ _ _ us hl => match us, hl with | [_, _, _], _ => rfl
  F__law_doubled := (fun_of (st := sDoubled) (fnx c 30) (fx c 115) (fx c 116))
  g__law_doubled := (PySem.W.mg_of X G (He.eqO_ok (fx c 117)))
  b__law_doubled := (fun_of (st := sDoubled) (fnx c 30) (fx c 115) (fx c 116)).binds (ps := ["_law_pot_here", "_law_chart"]) fun _ _ _ _ _ _ us hl => match us, hl with | [_, _], _ => rfl
  F__law_other := (fun_of (st := sOther) (fnx c 31) (fx c 118) (fx c 119))
  g__law_other := (PySem.W.mg_of X G (He.eqO_ok (fx c 120)))
  b__law_other := (fun_of (st := sOther) (fnx c 31) (fx c 118) (fx c 119)).binds (ps := ["_law_pot_here", "_law_chart"]) fun _ _ _ _ _ _ us hl => match us, hl with | [_, _], _ => rfl
  F__law_beside_right := (fun_of (st := sBesideRight) (fnx c 32) (fx c 121) (fx c 122))
  g__law_beside_right := (PySem.W.mg_of X G (He.eqO_ok (fx c 123)))
  b__law_beside_right := (fun_of (st := sBesideRight) (fnx c 32) (fx c 121) (fx c 122)).binds (ps := ["_law_pot_here", "_law_one", "_law_two", "_law_pace"]) fun _ _ _ _ _ _ us hl => match us, hl with | [_, _, _, _], _ => rfl
  F__law_right := (fun_of (st := sRight) (fnx c 33) (fx c 124) (fx c 125))
  g__law_right := (PySem.W.mg_of X G (He.eqO_ok (fx c 126)))
  b__law_right := (fun_of (st := sRight) (fnx c 33) (fx c 124) (fx c 125)).binds (ps := ["_law_pot_here"]) fun _ _ _ _ _ _ us hl => match us, hl with | [_], _ => rfl
  F_law := (fun_of (st := sLaw) (fnx c 34) (fx c 127) (fx c 128))
  g_law := (PySem.W.mg_of X G (He.eqO_ok (fx c 129)))
  b_law := (fun_of (st := sLaw) (fnx c 34) (fx c 127) (fx c 128)).binds (ps := ["_law_script"]) fun _ _ _ _ _ _ us hl => match us, hl with | [_], _ => rfl
theorem rateC (X : K.In h) (G : h.Ns mainGlobals mg) (c : obsK K = valK) : RateC K mg (adK K) (fdK K) where
  G := (PySem.W.mg_of X G (He.eqO_ok (fx c 130)))
  cl := ⟨(fx c 131), (fx c 132), (fx c 133), (of_decide_eq_true (fx c 134))⟩
  mks := ⟨(fx c 135), (of_decide_eq_true (fx c 136)), (fx c 137), (fx c 138)⟩
  np := He.eqO_ok (fx c 139)
  nq := He.eqO_ok (fx c 140)
  ml := ⟨(fx c 141), (of_decide_eq_true (fx c 142)), (fx c 143), (of_decide_eq_true (fx c 144)), (fx c 145), (of_decide_eq_true (fx c 146)), (of_decide_eq_true (fx c 147))⟩
  mro := (fx c 148)
  ob := (of_decide_eq_true (fx c 149))
  ca := (of_decide_eq_true (fx c 150))
  cn := (of_decide_eq_true (fx c 151))
  ct := (of_decide_eq_true (fx c 152))
  ne := (of_decide_eq_true (fx c 153))
  eq := (of_decide_eq_true (fx c 154))
  eqf := (fx c 155)
  st := (of_decide_eq_true (fx c 156))
  stf := (fx c 157)
  rp := (of_decide_eq_true (fx c 158))
  rpf := (fx c 159)
  rd := {
    rd := ⟨(fx c 160), (of_decide_eq_true (fx c 161))⟩
    at_ := smB_ok (fx c 162)
    rc := rec_ok (fx c 163)
    pg := (fx c 131)
    ic := (fx c 164)
    ai := (of_decide_eq_true (fx c 165))
    ty := (of_decide_eq_true (fx c 166))
    get := (of_decide_eq_true (fx c 167))
    tk := (of_decide_eq_true (fx c 168))
    cp := by decide +kernel
    kp := (fx c 169) }
  pp := ⟨(of_decide_eq_true (fx c 170)), (of_decide_eq_true (fx c 171)), (of_decide_eq_true (fx c 172)), rec_ok (fx c 173)⟩
  pq := ⟨(of_decide_eq_true (fx c 174)), (of_decide_eq_true (fx c 175)), (of_decide_eq_true (fx c 176)), rec_ok (fx c 177)⟩
  ps := ⟨(of_decide_eq_true (fx c 178)), (of_decide_eq_true (fx c 179)), (of_decide_eq_true (fx c 180)), rec_ok (fx c 181)⟩
  ty := ty_ok (fx c 182)
  F_init := (fun_of (st := sR_init) (fnx c 35) (fx c 183) (fx c 184))
  b_init := (fun_of (st := sR_init) (fnx c 35) (fx c 183) (fx c 184)).binds (ps := ["self", "p", "q"]) fun _ _ _ _ _ _ us hl => match us, hl with | [_, _, _], _ => rfl
  F_read := (fun_of (st := sR_read) (fnx c 36) (fx c 185) (fx c 186))
  b_read := (fun_of (st := sR_read) (fnx c 36) (fx c 185) (fx c 186)).binds (ps := ["string"]) fun _ _ _ _ _ _ us hl => match us, hl with | [_], _ => rfl
  F_p := (fun_of (st := sR_p) (fnx c 37) (fx c 187) (fx c 188))
  b_p := (fun_of (st := sR_p) (fnx c 37) (fx c 187) (fx c 188)).binds (ps := ["self"]) fun _ _ _ _ _ _ us hl => match us, hl with | [_], _ => rfl
  F_q := (fun_of (st := sR_q) (fnx c 38) (fx c 189) (fx c 190))
  b_q := (fun_of (st := sR_q) (fnx c 38) (fx c 189) (fx c 190)).binds (ps := ["self"]) fun _ _ _ _ _ _ us hl => match us, hl with | [_], _ => rfl
  F_size := (fun_of (st := sR_size) (fnx c 39) (fx c 191) (fx c 192))
  b_size := (fun_of (st := sR_size) (fnx c 39) (fx c 191) (fx c 192)).binds (ps := ["self"]) fun _ _ _ _ _ _ us hl => match us, hl with | [_], _ => rfl
  F_mul := (fun_of (st := sR_mul) (fnx c 40) (fx c 193) (fx c 194))
  b_mul := (fun_of (st := sR_mul) (fnx c 40) (fx c 193) (fx c 194)).binds (ps := ["self", "other"]) fun _ _ _ _ _ _ us hl => match us, hl with | [_, _], _ => rfl
  F_rmul := (fun_of (st := sR_rmul) (fnx c 41) (fx c 195) (fx c 196))
  b_rmul := (fun_of (st := sR_rmul) (fnx c 41) (fx c 195) (fx c 196)).binds (ps := ["self", "other"]) fun _ _ _ _ _ _ us hl => match us, hl with | [_, _], _ => rfl
  F_eq := (fun_of (st := sR_eq) (fnx c 42) (fx c 197) (fx c 198))
  b_eq := (fun_of (st := sR_eq) (fnx c 42) (fx c 197) (fx c 198)).binds (ps := ["self", "other"]) fun _ _ _ _ _ _ us hl => match us, hl with | [_, _], _ => rfl
  F_str := (fun_of (st := sR_str) (fnx c 43) (fx c 199) (fx c 200))
  b_str := (fun_of (st := sR_str) (fnx c 43) (fx c 199) (fx c 200)).binds (ps := ["self"]) fun _ _ _ _ _ _ us hl => match us, hl with | [_], _ => rfl
  F_repr := (fun_of (st := sR_repr) (fnx c 44) (fx c 201) (fx c 202))
  b_repr := (fun_of (st := sR_repr) (fnx c 44) (fx c 201) (fx c 202)).binds (ps := ["self"]) fun _ _ _ _ _ _ us hl => match us, hl with | [_], _ => rfl
theorem coderC (X : K.In h) (G : h.Ns mainGlobals mg) (c : obsK K = valK) : CoderC K mg (adK K) (fdK K) where
  G := (PySem.W.mg_of X G (He.eqO_ok (fx c 209)))
  cl := ⟨(fx c 210), (fx c 211), (fx c 212), (of_decide_eq_true (fx c 213))⟩
  mks := ⟨(fx c 214), (of_decide_eq_true (fx c 215)), (fx c 216), (fx c 217)⟩
  nr := He.eqO_ok (fx c 218)
  nl := He.eqO_ok (fx c 219)
  nc := He.eqO_ok (fx c 220)
  most := con_ok (fx c 221) (by decide +kernel)
  F_init := (funV_of (st := sC_init) (x := "Coder.__init__") (dvs := [.str ""]) (fnx c 45) (fx c 203) (fx c 204))
  b_init := binds_nil ((funV_of (st := sC_init) (x := "Coder.__init__") (dvs := [.str ""]) (fnx c 45) (fx c 203) (fx c 204)).binds1 (ps := ["self", "rate", "codes", "lead"]) 4 1 (by decide) rfl fun T kV doc pm an cdv ct us its hl hi => (match us, its, hl, hi with | [_, _, _, _], [_], _, _ => ⟨_, by first | rfl | with_unfolding_all rfl, rfl⟩))
theorem coderM (X : K.In h) (G : h.Ns mainGlobals mg) (c : obsK K = valK) : CoderM K mg (adK K) (fdK K) where
  F_rate := (fun_of (st := sC_rate) (fnx c 48) (fx c 222) (fx c 223))
  b_rate := (fun_of (st := sC_rate) (fnx c 48) (fx c 222) (fx c 223)).binds (ps := ["self"]) fun _ _ _ _ _ _ us hl => match us, hl with | [_], _ => rfl
  F_lead := (fun_of (st := sC_lead) (fnx c 49) (fx c 224) (fx c 225))
  b_lead := (fun_of (st := sC_lead) (fnx c 49) (fx c 224) (fx c 225)).binds (ps := ["self"]) fun _ _ _ _ _ _ us hl => match us, hl with | [_], _ => rfl
  F_codes := (fun_of (st := sC_codes) (fnx c 50) (fx c 226) (fx c 227))
  b_codes := (fun_of (st := sC_codes) (fnx c 50) (fx c 226) (fx c 227)).binds (ps := ["self"]) fun _ _ _ _ _ _ us hl => match us, hl with | [_], _ => rfl
  F_follow := (fun_of (st := sC_follow) (fnx c 51) (fx c 228) (fx c 229))
  b_follow := (fun_of (st := sC_follow) (fnx c 51) (fx c 228) (fx c 229)).binds (ps := ["self", "text", "state"]) fun _ _ _ _ _ _ us hl => match us, hl with | [_, _, _], _ => rfl
  F_len := (fun_of (st := sC_len) (fnx c 52) (fx c 230) (fx c 231))
  b_len := (fun_of (st := sC_len) (fnx c 52) (fx c 230) (fx c 231)).binds (ps := ["self"]) fun _ _ _ _ _ _ us hl => match us, hl with | [_], _ => rfl
theorem coderE (X : K.In h) (G : h.Ns mainGlobals mg) (c : obsK K = valK) : CoderE K mg (adK K) (fdK K) where
  F_eq := (fun_of (st := sC_eq) (fnx c 53) (fx c 232) (fx c 233))
  b_eq := (fun_of (st := sC_eq) (fnx c 53) (fx c 232) (fx c 233)).binds (ps := ["self", "other"]) fun _ _ _ _ _ _ us hl => match us, hl with | [_, _], _ => rfl
  ca := (of_decide_eq_true (fx c 234))
  ob := (of_decide_eq_true (fx c 235))
  ty := ty_ok (fx c 236)
  rt := (of_decide_eq_true (fx c 237))
theorem coderW (X : K.In h) (G : h.Ns mainGlobals mg) (c : obsK K = valK) : CoderW K mg (adK K) (fdK K) where
  m_follow := ⟨(of_decide_eq_true (fx c 238)), (fx c 239), (fx c 240)⟩
  ln := (of_decide_eq_true (fx c 241))
  lnf := (fx c 242)
  F_end := (funV_of (st := sC_end) (x := "Coder.end") (dvs := [.int 0]) (fnx c 46) (fx c 205) (fx c 206))
  F_blocks := (funV_of (st := sC_blocks) (x := "Coder.blocks") (dvs := [.int 0]) (fnx c 47) (fx c 207) (fx c 208))
theorem coderX (X : K.In h) (G : h.Ns mainGlobals mg) (c : obsK K = valK) : CoderX K mg (adK K) (fdK K) where
  m_blocks := ⟨(of_decide_eq_true (fx c 243)), (fx c 244), (fx c 245)⟩
  b_blocks := (funV_of (st := sC_blocks) (x := "Coder.blocks") (dvs := [.int 0]) (fnx c 47) (fx c 207) (fx c 208)).binds1 (ps := ["self", "text", "state"]) 2 0 (by decide) rfl fun T kV doc pm an cdv ct us its hl hi => (match us, its, hl, hi with | [_, _], [_], _, _ => ⟨_, by first | rfl | with_unfolding_all rfl, rfl⟩)
  F_call := (fun_of (st := sC_call) (fnx c 54) (fx c 246) (fx c 247))
theorem coderP (X : K.In h) (G : h.Ns mainGlobals mg) (c : obsK K = valK) : CoderP K mg (adK K) (fdK K) where
  pr := ⟨(of_decide_eq_true (fx c 248)), (of_decide_eq_true (fx c 249)), (of_decide_eq_true (fx c 250)), rec_ok (fx c 251)⟩
  pl := ⟨(of_decide_eq_true (fx c 252)), (of_decide_eq_true (fx c 253)), (of_decide_eq_true (fx c 254)), rec_ok (fx c 255)⟩
  m_codes := ⟨(of_decide_eq_true (fx c 256)), (fx c 257), (fx c 258)⟩
theorem coderQ (X : K.In h) (G : h.Ns mainGlobals mg) (c : obsK K = valK) : CoderQ K mg (adK K) (fdK K) where
  ne := (of_decide_eq_true (fx c 259))
  eq := (of_decide_eq_true (fx c 260))
  eqf := (fx c 261)
  m_end := ⟨(of_decide_eq_true (fx c 262)), (fx c 263), (fx c 264)⟩
  b_end := (funV_of (st := sC_end) (x := "Coder.end") (dvs := [.int 0]) (fnx c 46) (fx c 205) (fx c 206)).binds1 (ps := ["self", "text", "state"]) 2 0 (by decide) rfl fun T kV doc pm an cdv ct us its hl hi => (match us, its, hl, hi with | [_, _], [_], _, _ => ⟨_, by first | rfl | with_unfolding_all rfl, rfl⟩)
  call := ⟨(of_decide_eq_true (fx c 265)), (fx c 266), (fx c 267)⟩
  b_call := (fun_of (st := sC_call) (fnx c 54) (fx c 246) (fx c 247)).binds (ps := ["self", "text"]) fun _ _ _ _ _ _ us hl => match us, hl with | [_, _], _ => rfl
theorem coderR (X : K.In h) (G : h.Ns mainGlobals mg) (c : obsK K = valK) : CoderR K mg (adK K) (fdK K) where
  F_repr := (fun_of (st := sC_repr) (fnx c 55) (fx c 268) (fx c 269))
  b_repr := (fun_of (st := sC_repr) (fnx c 55) (fx c 268) (fx c 269)).binds (ps := ["self"]) fun _ _ _ _ _ _ us hl => match us, hl with | [_], _ => rfl
  rp := (of_decide_eq_true (fx c 270))
  rpf := (fx c 271)
  fm := (of_decide_eq_true (fx c 272))
theorem coderZ (X : K.In h) (G : h.Ns mainGlobals mg) (c : obsK K = valK) : CoderZ K mg (adK K) (fdK K) where
  rs := (fx c 273)
theorem errN (X : K.In h) (G : h.Ns mainGlobals mg) (c : obsK K = valK) : ErrV K mg "InvalidNumber" (adK K "InvalidNumber") (adK K "InvalidNumber.__init__") := ⟨(xb_of (fx c 274)), (xi_of (fx c 275)), (by
    obtain ⟨oc, od, doc, pm, an, cdv, ct, osl, ho, hc⟩ := fn_at (fnx c 56) (fx c 276)
    exact ⟨He.eqO_ok (fx c 277), oc, od, doc, pm, an, cdv, ct, osl, _, _, _, _, _, _, _, ho, hc⟩), (PySem.W.mg_of X G (He.eqO_ok (fx c 278)))⟩
end
end K52
end

section
set_option maxHeartbeats 0
namespace K52
open PySem PySem.W PySem.Calls PyProof.Rows
abbrev RW : OpenRow := OpenLaw.row PySem.Challenge.rw_barredrows_k52_whole_equal_coders
abbrev qv : Program := view RW.prog [58]
def names0 : List PySem.Str := ["_wall", "BarredError", "InvalidTable", "InvalidState", "InvalidRow", "InvalidNumber", "InvalidRate", "InvalidWord", "InvalidText", "LimitError", "TooMany", "ALL_SIGNS", "is_integer", "is_between", "is_row", "MOST_IN_ROW", "MOST_IN_TEXT", "is_list", "is_short_row", "check_row", "check_state", "check_word", "check_text", "is_block", "MOST_IN_RATE", "DIGITS", "Rate", "is_rate", "multiple", "check_times"]
def names1 : List PySem.Str := ["check_rate", "Coder", "kept_codes", "is_entry", "check_codes", "_law_pot", "_law_draw", "_law_pick", "_law_mixed", "_law_reached", "_law_kept", "_law_way", "_law_loose_codes", "_law_words", "_law_made", "_law_told", "_law_turned", "_law_wider", "_law_doubled", "_law_other", "_law_beside_right", "_law_right"]
def names : List PySem.Str := names0 ++ names1
/-- the top's run -/
noncomputable abbrev runT (w : World) (os : OsState) : Option SharedT := HandSHeadRun.endF (HandSHeadRun.stepQ (HandSHeadRun.denQ HandSHeadRun.tabQ) RW.prog w) 13000 RW.prog w os
noncomputable def partB (fs : List (PySem.W.Frag → Bool)) (s : SharedT) : Bool := fs.all fun f => f (He.frG (HandSHeadRun.getT s) addrs)
noncomputable def partF (s : SharedT) : List He.FnW := fnd.map fun p => fnA (He.frG (HandSHeadRun.getT s) addrs) (adK (He.frG (HandSHeadRun.getT s) addrs) p.1)
def factsA : List (PySem.W.Frag → Bool) := facts0 ++ (facts1 ++ (facts2 ++ facts3))
def factsB : List (PySem.W.Frag → Bool) := facts4 ++ (facts5 ++ facts6)
def factsC : List (PySem.W.Frag → Bool) := facts7 ++ (facts8 ++ facts9)
theorem facts_all (K : PySem.W.Frag) : (facts.all fun f => f K) = ((factsA.all fun f => f K) && ((factsB.all fun f => f K) && factsC.all fun f => f K)) := by
  unfold facts factsA factsB factsC
  simp only [List.all_append, Bool.and_assoc]
end K52
end

section
set_option maxHeartbeats 0
namespace K52
open PySem PySem.W PySem.Calls PyProof.Rows
theorem run0 (w : World) (os : OsState) : (runT w os).map (fun s => (HandSHeadRun.looksF RW.prog (boot_heap w.params) s.abs, HandSHeadRun.seenQ qv names (importedModules RW.prog.main.body) (fun s => xlAt qv [] s && recOk RW.toRowW.records s) s.abs)) = some (true, openGood qv names) := by
  kernel_rfl
end K52
end

section
set_option maxHeartbeats 0
namespace K52
open PySem PySem.W PySem.Calls PyProof.Rows
theorem runA (w : World) (os : OsState) : (runT w os).map (partB factsA) = some true := by
  kernel_rfl
end K52
end

section
set_option maxHeartbeats 0
namespace K52
open PySem PySem.W PySem.Calls PyProof.Rows
theorem runB (w : World) (os : OsState) : (runT w os).map (partB factsB) = some true := by
  kernel_rfl
end K52
end

section
set_option maxHeartbeats 0
namespace K52
open PySem PySem.W PySem.Calls PyProof.Rows
theorem runC (w : World) (os : OsState) : (runT w os).map (partB factsC) = some true := by
  kernel_rfl
end K52
end

section
set_option maxHeartbeats 0
namespace K52
open PySem PySem.W PySem.Calls PyProof.Rows
theorem runF (w : World) (os : OsState) : (runT w os).map partF = some (fnd.map fun p => some p.2) := by
  kernel_rfl
end K52
end

section
set_option maxHeartbeats 0
namespace K52
open PySem PySem.W PySem.Calls PyProof.Rows
theorem of_map {α β : Type} {x : Option α} {s : α} {f : α → β} {v : β} (e : x = some s) (h : x.map f = some v) : f s = v := by
  rw [e] at h
  exact Option.some.inj h
theorem runK (w : World) : HandSHeadRun.RunEq RW qv hookK ob 13000 names w := by
  intro os
  obtain ⟨s, es, e0⟩ := Option.map_eq_some_iff.mp (run0 w os)
  have eA := of_map es (runA w os)
  have eB := of_map es (runB w os)
  have eC := of_map es (runC w os)
  have eF := of_map es (runF w os)
  have eo : ob s = valK := by
    show ((facts.all fun f => f (He.frG (HandSHeadRun.getT s) addrs)), partF s) = valK
    rw [facts_all, show (factsA.all fun f => f (He.frG (HandSHeadRun.getT s) addrs)) = true from eA, show (factsB.all fun f => f (He.frG (HandSHeadRun.getT s) addrs)) = true from eB, show (factsC.all fun f => f (He.frG (HandSHeadRun.getT s) addrs)) = true from eC, eF]
    rfl
  obtain ⟨e1, e2⟩ := Prod.mk.inj e0
  show (runT w os).map _ = _
  rw [es]
  show some (_, _, ob s) = _
  rw [eo, e1, e2]
  rfl
end K52
end

section
set_option maxHeartbeats 0
namespace K52
open PySem PySem.Spec PyProof.Rows L2
theorem walkE {l : PySem.W.OpenLaw} {n k : Nat} {q : Program} {loose : List Str} {XP : (Str → Option Value) → Heap → Prop} {YP : World → Heap → Prop} {d : DefRec} {x : Str}
    (hn : l.most = some n) (hn2 : n ≤ sizeLine) (hdf : d.params.defaults = []) (hr : Room k callerA)
    (F : ∀ (w : World) (mg : Str → Option Value) (fa : Addr) (h : Heap), YP w h → h.Ns mainGlobals mg → mg d.name = some (.ref fa) →
      ∃ (K : PySem.W.Frag) (fd : FuncData) (sp : Sp), K.In h ∧ (∀ (s : Shared) (u : Value), BindsTo s fd ⟨[u], []⟩ [(x, u)]) ∧
        (∀ (H : Hp) (a : Addr) (ns : List Int), ns.length ≤ n → Only H → SqL K H a (ns.map V.int) → sp [.ref a] H (fun v _ => v = .bl true) fun _ _ _ => False) ∧
        ∀ base : Heap, K.In base → base.Ns mainGlobals mg → FnG l.prog w K mg base k fa fd [x] sp) :
    PySem.W.WalkO q loose XP YP l.row.toRowW d [] (fun f vs => PySem.call f vs) := by
  refine Att.attach_call hn hdf fun w s₀ s₁ mg mb fa o pm cd doc a vs ns G Y ho hd hcd hmg hobj hints hlen hg => ?_
  obtain ⟨K, fd, sp, KX, hb, hsp, hF⟩ := F w mg fa _ Y G.T.g hmg
  exact law_endG KX G.T.g G.T.b G.T.builtins G.T.nolimit hg hobj hints (Nat.le_trans hlen hn2) hr hF hb fun H hO hS => hsp H a ns hlen hO hS
theorem lawF {P : Program} {w : World} {K : PySem.W.Frag} {h : Heap} {mg : Str → Option Value} {fa : Addr} (X : K.In h) (G : h.Ns mainGlobals mg) (hfa : mg ("law" : Str) = some (.ref fa)) (c : obsK K = valK) :
    (∀ (s : Shared) (u : Value), BindsTo s (fdK K "law") ⟨[u], []⟩ [("_law_script", u)]) ∧ ∀ base : Heap, K.In base → base.Ns mainGlobals mg → FnG P w K mg base 9 fa (fdK K "law") ["_law_script"] (spLaw K) := by
  have T := txK X G c
  have e := hfa.symm.trans T.g_law
  cases e
  refine ⟨fun s u => ?_, fun base _ _ => ok_law T (rateC X G c) (errN X G c) (coderC X G c) (coderM X G c) (coderE X G c) (coderW X G c) (coderX X G c) (coderP X G c) (coderQ X G c) (coderR X G c) (coderZ X G c)⟩
  obtain ⟨oc, od, kV, doc, pm, an, cdv, ct, osl, ef, _⟩ := T.F_law.ex
  rw [ef]
  exact .of_eq rfl
end K52
open PySem PySem.W PySem.Calls PyProof.Rows
theorem PySem.Challenge.cw_barredrows_k52_whole_equal_coders_holds : PySem.Challenge.rw_barredrows_k52_whole_equal_coders.Holds := by
  w_on; o_law
  refine HandSHeadRun.head_any (r := OpenLaw.row PySem.Challenge.rw_barredrows_k52_whole_equal_coders) (q := K52.qv) (H := K52.hookK) (ob := K52.ob) (M := 13000) (loose := K52.names) (d := HandSHeadRun.topDef (OpenLaw.row PySem.Challenge.rw_barredrows_k52_whole_equal_coders).prog 58) (kwd := []) K52.ob_eq
    (by kernel_rfl) (fun s => by kernel_rfl) K52.runK (by kernel_rfl) (by kernel_rfl) (by kernel_rfl) (by rfl) (by first | assumption | decide +kernel) (by decide +kernel) ⟨rfl, rfl, rfl, rfl, rfl, by decide +kernel⟩ ?hw ?hc
  case hw => w_witness2
  case hc =>
    refine K52.walkE (l := PySem.Challenge.rw_barredrows_k52_whole_equal_coders) (n := 63) (k := 9) (x := "_law_script") rfl (by decide) (by kernel_rfl) ⟨rfl, by decide, by decide⟩ ?F
    intro w mg fa h Y G hmg0
    obtain ⟨K, KX, c⟩ := Y
    have hmg : mg ("law" : PySem.Str) = some (.ref fa) := by
      have e : (HandSHeadRun.topDef (OpenLaw.row PySem.Challenge.rw_barredrows_k52_whole_equal_coders).prog 58).name = ("law" : PySem.Str) := by kernel_rfl
      rw [← e]
      exact hmg0
    obtain ⟨hb, hF⟩ := K52.lawF (P := (PySem.Challenge.rw_barredrows_k52_whole_equal_coders).prog) (w := w) KX G hmg c
    exact ⟨K, _, K52.spLaw K, KX, hb, fun H a ns hl _ hS => ⟨a, ns, rfl, hS, fun _ => rfl⟩, hF⟩
end
