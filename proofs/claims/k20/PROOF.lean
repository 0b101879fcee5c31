import PyProof.Rows.All
import Wide.All
import OpenK.AllK
import Wide.FinOn
import HandS.ForMost
import HandS.Exc
import HandS.ExcInit
import HandS.IsInst
import HandS.Wide
import HandS.WideBits
import HandS.Defaults
import HandS.ExcField
import HandS.Walk
import HandS.Lambda
import HandS.EndTab
import HandS.Property
import HandS.FStr
import HandS.Star
import HandS.More
import HandS.DictComp
import HandS.TupLen
import HandS.DeepEq
import HandS.Flow
import PySem.Challenge.RW_barredrows_k20_rows_counted
import HandS.TryOnly
import HandS.TryMany
import HandS.ExcOwn
import HandS.Small
import HandS.ClsMeth
import HandS.RaiseMore
import HandS.HeadHook2
import HandS.Head0
import HandS.Head1
import HandS.Head2
import HandS.HeadHook1
import KE.KNestM
import KE.KStateDown
import Lean
import HandS.HeadEnd
set_option Elab.async false
set_option linter.all false
set_option maxRecDepth 100000
section
set_option maxHeartbeats 4000000
namespace K20
open PySem PySem.Spec PyProof.Rows L2
/-! ### the text by places -/
def topS (i : Nat) : Stmt := PySem.Challenge.pw_barredrows_k20_rows_counted.main.body.getD i (.Pass ⟨0, 0, 0, 0⟩)
def inS (i j : Nat) : Stmt := match topS i with
  | .ClassDef (body := b) .. => b.getD j (.Pass ⟨0, 0, 0, 0⟩)
  | _ => .Pass ⟨0, 0, 0, 0⟩
abbrev sIsInteger : Stmt := topS 18
abbrev sIsCount : Stmt := topS 19
abbrev sIsBetween : Stmt := topS 20
abbrev sIsSign : Stmt := topS 21
abbrev sIsRow : Stmt := topS 22
abbrev sIsList : Stmt := topS 27
abbrev sIsShortRow : Stmt := topS 28
abbrev sCheckMany : Stmt := topS 29
abbrev sCheckState : Stmt := topS 30
abbrev sCheckLength : Stmt := topS 31
abbrev sIsDictOfState : Stmt := topS 32
abbrev sCheckTable : Stmt := topS 33
abbrev sCheckSteps : Stmt := topS 34
abbrev sCheckBounds : Stmt := topS 35
abbrev sSumsTable : Stmt := topS 37
abbrev sLeadsOf : Stmt := topS 39
abbrev sOneSum : Stmt := topS 40
abbrev sEndsSums : Stmt := topS 41
abbrev sWalked : Stmt := topS 43
abbrev sLivingPart : Stmt := topS 44
abbrev sKindsOf : Stmt := topS 45
abbrev sNumbered : Stmt := topS 46
abbrev sLeastTable : Stmt := topS 47
abbrev sMeetTable : Stmt := topS 48
abbrev sMediumTable : Stmt := topS 51
abbrev sCheckMedium : Stmt := topS 52
abbrev sCheckMedia : Stmt := topS 53
abbrev sCount : Stmt := topS 55
abbrev sCheckStart : Stmt := topS 56
abbrev sOnes : Stmt := topS 57
abbrev sPot : Stmt := topS 59
abbrev sDraw : Stmt := topS 60
abbrev sPick : Stmt := topS 61
abbrev sRaw : Stmt := topS 62
abbrev sUnlike : Stmt := topS 63
abbrev sTable : Stmt := topS 64
abbrev sWalks : Stmt := topS 65
abbrev sCounts : Stmt := topS 66
abbrev sLengthRight : Stmt := topS 67
abbrev sRight : Stmt := topS 68
abbrev sLaw : Stmt := topS 69
abbrev sM_init : Stmt := inS 50 2
abbrev sM_free : Stmt := inS 50 3
abbrev sM_barring : Stmt := inS 50 4
abbrev sM_runs : Stmt := inS 50 5
abbrev sM_sums : Stmt := inS 50 6
abbrev sM_many : Stmt := inS 50 7
abbrev sM_signs : Stmt := inS 50 8
abbrev sM_table : Stmt := inS 50 9
abbrev sM_leads : Stmt := inS 50 10
abbrev sM_walk : Stmt := inS 50 11
abbrev sM_after : Stmt := inS 50 12
abbrev sM_least_row : Stmt := inS 50 13
abbrev sM_is_within : Stmt := inS 50 14
abbrev sM_len : Stmt := inS 50 15
abbrev sM_contains : Stmt := inS 50 16
abbrev sM_and : Stmt := inS 50 17
abbrev sM_rshift : Stmt := inS 50 18
abbrev sM_eq : Stmt := inS 50 19
abbrev sM_repr : Stmt := inS 50 20
/-! ### heaps -/
/-- all stands that stood, but perhaps p -/
def But (p : Addr) (H H' : Hp) : Prop := ∀ b o, b ≠ p → H b = some o → H' b = some o
theorem But.rfl {p : Addr} {H : Hp} : But p H H := fun _ _ _ e => e
theorem But.trans {p : Addr} {H1 H2 H3 : Hp} (a : But p H1 H2) (b : But p H2 H3) : But p H1 H3 := fun x o n e => b x o n (a x o n e)
theorem But.upd {p : Addr} {H : Hp} {o : HO} : But p H (upd H p o) := fun b u n e => by rw [upd_ne n]; exact e
theorem But.new {p q : Addr} {H : Hp} {o : HO} (h : H q = none) : But p H (L2.upd H q o) := fun b u n e => by rw [upd_ne (ne_of_none e h)]; exact e
theorem Same.refl {H : Hp} : Same H H := fun _ _ e => e
theorem Same.new {q : Addr} {H : Hp} {o : HO} (h : H q = none) : Same H (L2.upd H q o) := fun b u e => by rw [upd_ne (ne_of_none e h)]; exact e
theorem But.same {p : Addr} {H H' : Hp} (h : Same H H') : But p H H' := fun b o _ e => h b o e
/-- the pot that is drawn from -/
def PotAt (H : Hp) (p : Addr) : Prop := ∃ x y : Int, H p = some (.lst [.int x, .int y]) ∧ 0 ≤ x ∧ 0 ≤ y ∧ y < 2147483648
theorem PotAt.same {H H' : Hp} {p : Addr} (h : PotAt H p) (s : Same H H') : PotAt H' p := by
  obtain ⟨x, y, e, h1, h2, h3⟩ := h
  exact ⟨x, y, s _ _ e, h1, h2, h3⟩
theorem PotAt.ne {H : Hp} {p q : Addr} (h : PotAt H p) (e : H q = none) : q ≠ p := fun z => by
  obtain ⟨x, y, f, _⟩ := h
  rw [z, f] at e; cases e
/-- all stands that stood, but perhaps p and the tables -/
def ButN (p : Addr) (H H' : Hp) : Prop := ∀ b o, b ≠ p → H b = some o → (∀ ps, o ≠ .tbl ps) → H' b = some o
theorem ButN.of {p : Addr} {H H' : Hp} (b : But p H H') : ButN p H H' := fun x o n e _ => b x o n e
theorem ButN.ext {p : Addr} {H H' : Hp} (b : LamX.ExtN H H') : ButN p H H' := fun x o _ e n => b x o e n
theorem ButN.trans {p : Addr} {H1 H2 H3 : Hp} (a : ButN p H1 H2) (b : ButN p H2 H3) : ButN p H1 H3 := fun x o n e t => b x o n (a x o n e t) t
theorem ButN.same {p : Addr} {H H' : Hp} (h : Same H H') : ButN p H H' := fun b o _ e _ => h b o e
theorem ExtN.same {H H' : Hp} (h : Same H H') : LamX.ExtN H H' := fun b o e _ => h b o e
theorem PotAt.extN {H H' : Hp} {p : Addr} (h : PotAt H p) (s : LamX.ExtN H H') : PotAt H' p := by
  obtain ⟨x, y, e, h1, h2, h3⟩ := h
  exact ⟨x, y, s _ _ e (fun ps z => by cases z), h1, h2, h3⟩
/-! ### what the top has written -/
structure Tx (K : PySem.W.Frag) (mg : Str → Option Value) (ad : Str → Addr) (fd : Str → FuncData) : Prop where
  m_isinstance : mg "isinstance" = none
  m_int : mg "int" = none
  m_bool : mg "bool" = none
  m_str : mg "str" = none
  m_all : mg "all" = none
  m_any : mg "any" = none
  m_len : mg "len" = none
  m_abs : mg "abs" = none
  m_max : mg "max" = none
  m_min : mg "min" = none
  m_divmod : mg "divmod" = none
  m_range : mg "range" = none
  m_repr : mg "repr" = none
  m_dict : mg "dict" = none
  m_list : mg "list" = none
  m_tuple : mg "tuple" = none
  m_enumerate : mg "enumerate" = none
  m_sum : mg "sum" = none
  m_sorted : mg "sorted" = none
  m_ValueError : mg "ValueError" = none
  m_ArithmeticError : mg "ArithmeticError" = none
  sys : ∃ o, K.lookup sysModules = some o ∧ o.cls ≠ .type "list"
  g_ALL_SIGNS : ∃ t, mg "ALL_SIGNS" = some (.str "abcd" t)
  g_MOST_IN_ROW : ∃ t, mg "MOST_IN_ROW" = some (.int 2000 t)
  g_MOST_IN_TABLE : ∃ t, mg "MOST_IN_TABLE" = some (.int 64 t)
  g_MOST_LENGTH : ∃ t, mg "MOST_LENGTH" = some (.int 400 t)
  F_is_integer : Fun K "is_integer" "is_integer" sIsInteger (ad "is_integer") (fd "is_integer")
  g_is_integer : mg "is_integer" = some (.ref (ad "is_integer"))
  b_is_integer : Binds K (fd "is_integer") ["value"] []
  F_is_count : Fun K "is_count" "is_count" sIsCount (ad "is_count") (fd "is_count")
  g_is_count : mg "is_count" = some (.ref (ad "is_count"))
  b_is_count : Binds K (fd "is_count") ["value"] []
  F_is_between : Fun K "is_between" "is_between" sIsBetween (ad "is_between") (fd "is_between")
  g_is_between : mg "is_between" = some (.ref (ad "is_between"))
  b_is_between : Binds K (fd "is_between") ["value", "low", "high"] []
  F_is_sign : Fun K "is_sign" "is_sign" sIsSign (ad "is_sign") (fd "is_sign")
  g_is_sign : mg "is_sign" = some (.ref (ad "is_sign"))
  b_is_sign : Binds K (fd "is_sign") ["value", "signs"] []
  F_is_row : Fun K "is_row" "is_row" sIsRow (ad "is_row") (fd "is_row")
  g_is_row : mg "is_row" = some (.ref (ad "is_row"))
  b_is_row : Binds K (fd "is_row") ["value"] []
  F_is_list : Fun K "is_list" "is_list" sIsList (ad "is_list") (fd "is_list")
  g_is_list : mg "is_list" = some (.ref (ad "is_list"))
  b_is_list : Binds K (fd "is_list") ["value"] []
  F_is_short_row : Fun K "is_short_row" "is_short_row" sIsShortRow (ad "is_short_row") (fd "is_short_row")
  g_is_short_row : mg "is_short_row" = some (.ref (ad "is_short_row"))
  b_is_short_row : Binds K (fd "is_short_row") ["value"] []
  F_check_many : Fun K "check_many" "check_many" sCheckMany (ad "check_many") (fd "check_many")
  g_check_many : mg "check_many" = some (.ref (ad "check_many"))
  b_check_many : Binds K (fd "check_many") ["many"] []
  F_check_state : Fun K "check_state" "check_state" sCheckState (ad "check_state") (fd "check_state")
  g_check_state : mg "check_state" = some (.ref (ad "check_state"))
  b_check_state : Binds K (fd "check_state") ["state", "size"] []
  F_check_length : Fun K "check_length" "check_length" sCheckLength (ad "check_length") (fd "check_length")
  g_check_length : mg "check_length" = some (.ref (ad "check_length"))
  b_check_length : Binds K (fd "check_length") ["length", "least", "most"] []
  F_is_dict_of_state : Fun K "is_dict_of_state" "is_dict_of_state" sIsDictOfState (ad "is_dict_of_state") (fd "is_dict_of_state")
  g_is_dict_of_state : mg "is_dict_of_state" = some (.ref (ad "is_dict_of_state"))
  b_is_dict_of_state : Binds K (fd "is_dict_of_state") ["value", "signs", "size"] []
  F_check_table : Fun K "check_table" "check_table" sCheckTable (ad "check_table") (fd "check_table")
  g_check_table : mg "check_table" = some (.ref (ad "check_table"))
  b_check_table : Binds K (fd "check_table") ["table", "signs"] []
  F_check_steps : Fun K "check_steps" "check_steps" sCheckSteps (ad "check_steps") (fd "check_steps")
  g_check_steps : mg "check_steps" = some (.ref (ad "check_steps"))
  b_check_steps : Binds K (fd "check_steps") ["steps"] []
  F_check_bounds : Fun K "check_bounds" "check_bounds" sCheckBounds (ad "check_bounds") (fd "check_bounds")
  g_check_bounds : mg "check_bounds" = some (.ref (ad "check_bounds"))
  b_check_bounds : Binds K (fd "check_bounds") ["low", "high"] []
  F_sums_table : Fun K "sums_table" "sums_table" sSumsTable (ad "sums_table") (fd "sums_table")
  g_sums_table : mg "sums_table" = some (.ref (ad "sums_table"))
  b_sums_table : Binds K (fd "sums_table") ["signs", "steps", "low", "high"] []
  F_leads_of : Fun K "leads_of" "leads_of" sLeadsOf (ad "leads_of") (fd "leads_of")
  g_leads_of : mg "leads_of" = some (.ref (ad "leads_of"))
  b_leads_of : Binds K (fd "leads_of") ["table", "signs"] []
  F_one_sum : Fun K "one_sum" "one_sum" sOneSum (ad "one_sum") (fd "one_sum")
  g_one_sum : mg "one_sum" = some (.ref (ad "one_sum"))
  b_one_sum : Binds K (fd "one_sum") ["leads", "numbers"] []
  F_ends_sums : Fun K "ends_sums" "ends_sums" sEndsSums (ad "ends_sums") (fd "ends_sums")
  g_ends_sums : mg "ends_sums" = some (.ref (ad "ends_sums"))
  b_ends_sums : Binds K (fd "ends_sums") ["leads", "length", "numbers"] []
  F_walked : Fun K "walked" "walked" sWalked (ad "walked") (fd "walked")
  g_walked : mg "walked" = some (.ref (ad "walked"))
  b_walked : Binds K (fd "walked") ["table", "row", "state"] []
  F_living_part : Fun K "living_part" "living_part" sLivingPart (ad "living_part") (fd "living_part")
  g_living_part : mg "living_part" = some (.ref (ad "living_part"))
  b_living_part : Binds K (fd "living_part") ["table"] []
  F_kinds_of : Fun K "kinds_of" "kinds_of" sKindsOf (ad "kinds_of") (fd "kinds_of")
  g_kinds_of : mg "kinds_of" = some (.ref (ad "kinds_of"))
  b_kinds_of : Binds K (fd "kinds_of") ["table"] []
  F_numbered : Fun K "numbered" "numbered" sNumbered (ad "numbered") (fd "numbered")
  g_numbered : mg "numbered" = some (.ref (ad "numbered"))
  b_numbered : Binds K (fd "numbered") ["marks"] []
  F_least_table : FunD K "least_table" "least_table" (defArgs sLeastTable) (defBody sLeastTable) (defScope sLeastTable) [.int 0] [] (ad "least_table") (fd "least_table")
  g_least_table : mg "least_table" = some (.ref (ad "least_table"))
  F_meet_table : Fun K "meet_table" "meet_table" sMeetTable (ad "meet_table") (fd "meet_table")
  g_meet_table : mg "meet_table" = some (.ref (ad "meet_table"))
  b_meet_table : Binds K (fd "meet_table") ["one", "other"] []
  F_medium_table : FunD K "medium_table" "medium_table" (defArgs sMediumTable) (defBody sMediumTable) (defScope sMediumTable) [.int 0] [] (ad "medium_table") (fd "medium_table")
  g_medium_table : mg "medium_table" = some (.ref (ad "medium_table"))
  F_check_medium : Fun K "check_medium" "check_medium" sCheckMedium (ad "check_medium") (fd "check_medium")
  g_check_medium : mg "check_medium" = some (.ref (ad "check_medium"))
  b_check_medium : Binds K (fd "check_medium") ["medium"] []
  F_check_media : Fun K "check_media" "check_media" sCheckMedia (ad "check_media") (fd "check_media")
  g_check_media : mg "check_media" = some (.ref (ad "check_media"))
  b_check_media : Binds K (fd "check_media") ["one", "other"] []
  F_count : FunD K "count" "count" (defArgs sCount) (defBody sCount) (defScope sCount) [.int 0] [] (ad "count") (fd "count")
  g_count : mg "count" = some (.ref (ad "count"))
  F_check_start : Fun K "check_start" "check_start" sCheckStart (ad "check_start") (fd "check_start")
  g_check_start : mg "check_start" = some (.ref (ad "check_start"))
  b_check_start : Binds K (fd "check_start") ["medium", "length", "state"] []
  F_ones : Fun K "ones" "ones" sOnes (ad "ones") (fd "ones")
  g_ones : mg "ones" = some (.ref (ad "ones"))
  b_ones : Binds K (fd "ones") ["medium"] []
  F__law_pot : Fun K "_law_pot" "_law_pot" sPot (ad "_law_pot") (fd "_law_pot")
  g__law_pot : mg "_law_pot" = some (.ref (ad "_law_pot"))
  b__law_pot : Binds K (fd "_law_pot") ["_law_script", "_law_k"] []
  F__law_draw : Fun K "_law_draw" "_law_draw" sDraw (ad "_law_draw") (fd "_law_draw")
  g__law_draw : mg "_law_draw" = some (.ref (ad "_law_draw"))
  b__law_draw : Binds K (fd "_law_draw") ["_law_pot_here", "_law_width_now"] []
  F__law_pick : Fun K "_law_pick" "_law_pick" sPick (ad "_law_pick") (fd "_law_pick")
  g__law_pick : mg "_law_pick" = some (.ref (ad "_law_pick"))
  b__law_pick : Binds K (fd "_law_pick") ["_law_pot_here", "_law_some"] []
  F__law_raw : Fun K "_law_raw" "_law_raw" sRaw (ad "_law_raw") (fd "_law_raw")
  g__law_raw : mg "_law_raw" = some (.ref (ad "_law_raw"))
  b__law_raw : Binds K (fd "_law_raw") ["_law_pot_here", "_law_width_now"] []
  F__law_unlike : Fun K "_law_unlike" "_law_unlike" sUnlike (ad "_law_unlike") (fd "_law_unlike")
  g__law_unlike : mg "_law_unlike" = some (.ref (ad "_law_unlike"))
  b__law_unlike : Binds K (fd "_law_unlike") ["_law_book"] []
  F__law_table : Fun K "_law_table" "_law_table" sTable (ad "_law_table") (fd "_law_table")
  g__law_table : mg "_law_table" = some (.ref (ad "_law_table"))
  b__law_table : Binds K (fd "_law_table") ["_law_book"] []
  F__law_walks : Fun K "_law_walks" "_law_walks" sWalks (ad "_law_walks") (fd "_law_walks")
  g__law_walks : mg "_law_walks" = some (.ref (ad "_law_walks"))
  b__law_walks : Binds K (fd "_law_walks") ["_law_chart", "_law_span", "_law_spot"] []
  F__law_counts : Fun K "_law_counts" "_law_counts" sCounts (ad "_law_counts") (fd "_law_counts")
  g__law_counts : mg "_law_counts" = some (.ref (ad "_law_counts"))
  b__law_counts : Binds K (fd "_law_counts") ["_law_chart", "_law_span"] []
  F__law_length_right : Fun K "_law_length_right" "_law_length_right" sLengthRight (ad "_law_length_right") (fd "_law_length_right")
  g__law_length_right : mg "_law_length_right" = some (.ref (ad "_law_length_right"))
  b__law_length_right : Binds K (fd "_law_length_right") ["_law_tome", "_law_chart", "_law_span", "_law_due"] []
  F__law_right : Fun K "_law_right" "_law_right" sRight (ad "_law_right") (fd "_law_right")
  g__law_right : mg "_law_right" = some (.ref (ad "_law_right"))
  b__law_right : Binds K (fd "_law_right") ["_law_pot_here"] []
  F_law : Fun K "law" "law" sLaw (ad "law") (fd "law")
  g_law : mg "law" = some (.ref (ad "law"))
  b_law : Binds K (fd "law") ["_law_script"] []
end K20
end

section
set_option maxHeartbeats 4000000
/-! defs that call repr: the same promises as FnOk, where it is known that no repr is under way -/
namespace K20
open PySem PySem.Spec PyProof.Rows L2
structure RoomG (k : Nat) (A : Around) : Prop where
  rm : Room k A
  gd : A.guards = some []
theorem RoomG.mono {j k : Nat} {A : Around} (r : RoomG k A) (h : j ≤ k) : RoomG j A := ⟨r.rm.mono h, r.gd⟩
theorem RoomG.deeper {k : Nat} {A : Around} (r : RoomG (k + 1) A) (env : Env) : RoomG k (A.deeper env) := ⟨r.rm.deeper env, r.gd⟩
structure FnG (P : Program) (w : World) (K : PySem.W.Frag) (mg : Str → Option Value) (base : Heap) (k : Nat) (f : Addr) (fd : FuncData) (ps : List Str) (sp : Sp) : Prop where
  len : ∀ vs H Q E, sp vs H Q E → vs.length = ps.length
  run : ∀ (A : Around) (outer : List Env) (s : Shared) (H : Hp) (args : Args) (us : List Value) (vs : List V) (Q : VK) (E : XK), RoomG k A → Env0 P w K mg base A outer s H → BindsTo s fd args (ps.zip us) → Vals vs us → sp vs H Q E →
    codeAny (model P w) A (.call (.ref f) args) (CR CX0 outer P w H s Q E) s
section
variable {P : Program} {w : World} {K : PySem.W.Frag} {mg : Str → Option Value} {base : Heap}
theorem fnG_body {x qual : Str} {st : Stmt} {f : Addr} {fd : FuncData} {N ps : List Str} {k : Nat} {sp : Sp} (F : Fun K x qual st f fd) (S : FnScope N ps (defScope st)) (ln : ∀ vs H Q E, sp vs H Q E → vs.length = ps.length)
    (hb0 : ∀ (cdv : Value) (A : Around) (outer : List Env) (s : Shared) (H : Hp) (vs : List V) (Q : VK) (E : XK), RoomG k (A.deeper (envOfC qual (defScope st) s.heap.objs.size f cdv)) → sp vs H Q E →
      ∃ t, PSs (cxOf CX0 P w K mg base N qual (defScope st) f cdv A outer s H E).nox (defBody st) t ∧ t { nx := fun _ H' => Q .non H', rt := Q } (start N vs) H) : FnG P w K mg base (k + 1) f fd ps sp where
  len := ln
  run A outer s H args us vs Q E hr e0 hbd rv hs := by
    obtain ⟨oc, od, kV, doc, pm, an, cdv, ct, osl, rfl, lk, hcd⟩ := F.ex
    have old := fun b o (e : base.get? b = some o) => (e0.bs b o e).1
    have inK : K.In s.heap := e0.mod.kin.keeps old
    have hkn : ∀ q ∈ ps.zip us, (defScope st).names.lookup q.1 = some .local ∨ ((defScope st).names.lookup q.1 = some .cell ∧ ((cellsFrom (s.heap.objs.size + 1) (defScope st).names []).lookup q.1).isSome = true) := by
      rintro ⟨n, v⟩ hq
      exact (S.par n (List.of_mem_zip hq).1).elim .inl fun c => .inr ⟨c, PySem.W.cellsFrom_some _ _ _ (.inl c)⟩
    have body : ∀ s1 : Shared, InCallC s s.heap.objs.size (bindL (envOfC qual (defScope st) s.heap.objs.size f cdv).kindOf (ps.zip us) fun _ => none) (cellsFrom (s.heap.objs.size + 1) (defScope st).names []) (bindC (envOfC qual (defScope st) s.heap.objs.size f cdv).kindOf (ps.zip us) fun _ => none) s1 →
        wpAny (model P w) (A.deeper (envOfC qual (defScope st) s.heap.objs.size f cdv)) (execs (defBody st) (envOfC qual (defScope st) s.heap.objs.size f cdv)) (fun fl s' => match fl with | .next => CE outer P w H s Q Value.none s' | .ret u => CE outer P w H s Q u s' | _ => False) (cxOf CX0 P w K mg base N qual (defScope st) f cdv A outer s H E).xe s1 := by
      intro s1 hx
      obtain ⟨t, ht, hq⟩ := hb0 cdv A outer s H vs Q E (hr.deeper _) hs
      have J := inv_start (CX := CX0) (E := E) S hr.rm.hd e0 (ln _ _ _ _ hs) rv hx
      refine wpAny_mono (ht.nox.run [] s1 (start N vs) H _ J hq) (fun fl s' hf => ?_) (fun e s' hf => hf)
      match fl, hf with
      | .next, ⟨σ', H', I', q⟩ => exact ⟨.non, H', I'.os, I'.bare, I'.base, I'.hok, rfl, q⟩
      | .ret u, ⟨v, σ', H', I', r', q⟩ => exact ⟨v, H', I'.os, I'.bare, I'.base, I'.hok, r', q⟩
      | .brk, ⟨_, _, _, q⟩ => exact (show False from q).elim
      | .cont, ⟨_, _, _, q⟩ => exact (show False from q).elim
    refine codeAny_call_function hr.rm.depth (inK _ _ lk) rfl S.co S.gen rfl (PySem.W.codeRec_of inK hcd) (hbd _ _ _ _ ?_)
    refine wpAny_newFunctionEnv_cells S.kind hkn fun env he s1 hx => ?_
    subst he
    refine ⟨(e0.mod.nolimit.keeps old).keeps hx.toInCall.keep, codeAny_func ?_⟩
    refine wpAny_mono (body s1 hx) (fun fl s' hf => ?_) (fun e s' hf => hf)
    cases fl with
    | ret u => exact hf
    | next => exact hf
    | brk => exact (show False from hf).elim
    | cont => exact (show False from hf).elim
theorem FnG.of {k : Nat} {f : Addr} {fd : FuncData} {ps : List Str} {sp : Sp} (F : FnOk P w K mg base CX0 k f fd ps sp) : FnG P w K mg base k f fd ps sp := ⟨F.len, fun A o s H a us vs Q E r => F.run A o s H a us vs Q E r.rm⟩
end
section
variable {X : Cx} {k : Nat} {f : Addr} {fd : FuncData} {ps : List Str} {sp : Sp} {E : XK} {x : Str} {p pos : Pos} {e : Expr} {es : List Expr} {t : TA}
theorem run_g {pins : List (Addr × Obj)} {σ : L2.St} {H : Hp} {s : Shared} {Q : VK} {us : List Value} {vs : List V} (F : FnG X.prog X.w X.K X.mg X.base k f fd ps sp) (hr : RoomG k X.A) (hb : Binds X.K fd ps [])
    (I : Inv X pins σ H s) (r : Vals vs us) (h : sp vs H Q E) : wpAny (model X.prog X.w) X.A (call (.ref f) us) (EP X pins σ Q) X.xe s := by
  have hl : us.length = ps.length := r.length.symm.trans (F.len _ _ _ _ h)
  have hb' := hb s us I.kIn (by rw [List.append_nil]; exact hl)
  rw [List.append_nil] at hb'
  refine wpAny_call (codeAny_mono (F.run X.A X.stack s H ⟨us, []⟩ us vs Q E hr I.env0 hb' r h) ?_)
  intro res s' hq
  match res, hq with
  | .ok (.ret u), hq => exact I.after hq
theorem pe_callG (F : FnG X.prog X.w X.K X.mg X.base k f fd ps sp) (hr : RoomG k X.A) (hg : Gl X x) (hm : X.mg x = some (.ref f)) (hk : PySem.W.keepIn X.K (.ref f) = true) (hb : Binds X.K fd ps [])
    (ha : PA X (e :: es) t) (hdb : (x == ("__debug__" : Str)) = false := by decide) (he : starEach (e :: es) X.env = (false, eval e X.env) :: starEach es X.env := by rfl) (hpl : (backTo pos (starEach es X.env)).any (·.1) = false := by rfl) :
    PE X (.Call (.Name x p) (e :: es) [] pos) (tCall sp [] E t) :=
  ⟨fun pins s σ H Q I h => wpAny_Call_Name_kw (ld_glob I hg hm (PySem.W.callWith_K (h₀ := X.base) I.ok.mod.kin hk (thn (ha.run pos pins s σ H _ I h) fun us s1 ⟨vs, H1, I1, r, q⟩ => ⟨I1.kIn, run_g (E := E) F hr hb I1 r (by have q' : sp (vs ++ []) H1 Q E := q; rw [List.append_nil] at q'; exact q')⟩) he hpl) hdb)⟩
end
end K20
end

section
set_option maxHeartbeats 4000000
/-! repr of data -/
namespace K20
open PySem PySem.Spec PyProof.Rows L2
def keyD : Key → PyData
  | .inl i => .int i
  | .inr x => .str x
mutual
/-- the value v reads as the data d -/
inductive Dx (H : Hp) : V → PyData → Prop
  | non : Dx H .non .none
  | bl (b : Bool) : Dx H (.bl b) (.bool b)
  | int (i : Int) : Dx H (.int i) (.int i)
  | str (x : Str) : Dx H (.str x) (.str x)
  | lst {a : Addr} {xs : List V} {ds : List PyData} : H a = some (.lst xs) → DxAll H xs ds → Dx H (.ref a) (.list ds)
  | tup {a : Addr} {xs : List V} {ds : List PyData} : H a = some (.tup xs) → DxAll H xs ds → Dx H (.ref a) (.tuple ds)
  | dic {a : Addr} {kvs : List (Key × V)} {ds : List PyData} : Rd H a (.dK kvs) → DxAll H (kvs.map (·.2)) ds → Dx H (.ref a) (.dict ((kvs.map fun p => keyD p.1).zip ds))
inductive DxAll (H : Hp) : List V → List PyData → Prop
  | nil : DxAll H [] []
  | cons {v : V} {vs : List V} {d : PyData} {ds : List PyData} : Dx H v d → DxAll H vs ds → DxAll H (v :: vs) (d :: ds)
end
theorem DxAll.length {H : Hp} : ∀ {vs : List V} {ds : List PyData}, DxAll H vs ds → vs.length = ds.length
  | _, _, .nil => rfl
  | _, _, .cons _ t => by rw [List.length_cons, List.length_cons, t.length]
theorem Rd.same {H H' : Hp} (s : Same H H') {a : Addr} {u : HO} (h : Rd H a u) : Rd H' a u := h.imp (fun e => s _ _ e) fun ⟨o, e⟩ => ⟨o, s _ _ e⟩
mutual
theorem Dx.same {H H' : Hp} (s : Same H H') : ∀ {v : V} {d : PyData}, Dx H v d → Dx H' v d
  | _, _, .non => .non
  | _, _, .bl b => .bl b
  | _, _, .int i => .int i
  | _, _, .str x => .str x
  | _, _, .lst e h => .lst (s _ _ e) (DxAll.same s h)
  | _, _, .tup e h => .tup (s _ _ e) (DxAll.same s h)
  | _, _, .dic e h => .dic (Rd.same s e) (DxAll.same s h)
theorem DxAll.same {H H' : Hp} (s : Same H H') : ∀ {vs : List V} {ds : List PyData}, DxAll H vs ds → DxAll H' vs ds
  | _, _, .nil => .nil
  | _, _, .cons a b => .cons (Dx.same s a) (DxAll.same s b)
end
/-- what stands at an address is no dict of sys.modules -/
def Apart (h : Heap) (as : List Addr) : Prop := ∀ a ∈ as, (∃ o, h.get? a = some o ∧ o.cls = .type "list") ∨ (a == sysModules) = false
theorem Apart.nil {h : Heap} : Apart h [] := fun _ z => nomatch z
theorem Apart.app {h : Heap} {as bs : List Addr} (x : Apart h as) (y : Apart h bs) : Apart h (as ++ bs) := fun a z => (List.mem_append.mp z).elim (x a) (y a)
theorem Apart.cons {h : Heap} {a : Addr} {as : List Addr} (x : (∃ o, h.get? a = some o ∧ o.cls = .type "list") ∨ (a == sysModules) = false) (y : Apart h as) : Apart h (a :: as) := fun b z => (List.mem_cons.mp z).elim (fun e => by rw [e]; exact x) (y b)
theorem map_zip_fst {α β : Type} : ∀ (xs : List α) (ys : List β), xs.length = ys.length → (xs.zip ys).map (·.1) = xs
  | [], _, _ => rfl
  | x :: xs, [], h => by cases h
  | x :: xs, y :: ys, h => by rw [List.zip_cons_cons, List.map_cons, map_zip_fst xs ys (by simpa using h)]
theorem map_zip_snd {α β : Type} : ∀ (xs : List α) (ys : List β), xs.length = ys.length → (xs.zip ys).map (·.2) = ys
  | [], [], _ => rfl
  | [], _ :: _, h => by cases h
  | x :: xs, [], h => by cases h
  | x :: xs, y :: ys, h => by rw [List.zip_cons_cons, List.map_cons, map_zip_snd xs ys (by simpa using h)]
theorem key_reads {h : Heap} {P : Program} {w : World} {k : Key} {v : Value} (e : (mixKind P w).is k v = true) : Reads h v (keyD k) [] := by
  rcases keyIs_shape e with ⟨i, t, rfl, rfl⟩ | ⟨x, t, rfl, rfl⟩
  · exact .int i t
  · exact .str x t
theorem keys_read {h : Heap} {P : Program} {w : World} : ∀ {es : List DictEntry} {vs : List (Key × Value)}, Pairs (mixKind P w) es vs → ReadsAll h (es.map (·.key)) (vs.map fun p => keyD p.1) []
  | _, _, .nil => .nil
  | _, _, .cons a b c => .cons (as := []) (bs := []) (key_reads a) (keys_read c)
theorem vals_eq {P : Program} {w : World} : ∀ {es : List DictEntry} {vs : List (Key × Value)}, Pairs (mixKind P w) es vs → es.map (·.val) = vs.map (·.2)
  | _, _, .nil => rfl
  | _, _, .cons a b c => by rw [List.map_cons, List.map_cons, b, vals_eq c]
theorem kv_fst : ∀ {kvs : List (Key × V)} {vs : List (Key × Value)}, KV kvs vs → kvs.map (fun p => keyD p.1) = vs.map fun p => keyD p.1
  | _, _, .nil => rfl
  | _, _, .cons a c => by rw [List.map_cons, List.map_cons, a.1, kv_fst c]
theorem kv_snd : ∀ {kvs : List (Key × V)} {vs : List (Key × Value)}, KV kvs vs → Vals (kvs.map (·.2)) (vs.map (·.2))
  | _, _, .nil => .nil
  | _, _, .cons a c => .cons a.2 (kv_snd c)
section
variable {X : Cx} {pins : List (Addr × Obj)} {σ : L2.St} {H : Hp} {s : Shared}
mutual
theorem Dx.reads (I : L2.Inv X pins σ H s) : ∀ {v : V} {d : PyData} {u : Value}, Dx H v d → RelV v u → ∃ as, Reads s.heap u d as ∧ Apart s.heap as
  | _, _, _, .non, r => by cases r; exact ⟨_, .none, .nil⟩
  | _, _, _, .bl b, r => by cases r; exact ⟨_, .bool b, .nil⟩
  | _, _, _, .int i, r => by obtain ⟨t, rfl⟩ := r; exact ⟨_, .int i t, .nil⟩
  | _, _, _, .str x, r => by obtain ⟨t, rfl⟩ := r; exact ⟨_, .str x t, .nil⟩
  | _, _, _, .lst (a := a) e h, r => by
    cases r
    obtain ⟨_, its, n, rv, ho⟩ := (show ObjOk X.prog X.w H s.heap a (.lst _) from I.hok a _ e)
    obtain ⟨as, hr, ap⟩ := DxAll.reads I h rv
    exact ⟨_, .list ho rfl rfl (by rw [List.toList_toArray]; exact hr), .cons (.inl ⟨_, ho, rfl⟩) ap⟩
  | _, _, _, .tup (a := a) e h, r => by
    cases r
    obtain ⟨_, its, rv, o, ho, hc, n, hd⟩ := (show ObjOk X.prog X.w H s.heap a (.tup _) from I.hok a _ e)
    obtain ⟨as, hr, ap⟩ := DxAll.reads I h rv
    exact ⟨_, .tuple ho hc hd (by rw [List.toList_toArray]; exact hr), ap⟩
  | _, _, _, .dic (a := a) (kvs := kvs) (ds := ds) e h, r => by
    cases r
    obtain ⟨_, hy, vs, kv, o, es, ep, ho, hc, hd, _, ps, _⟩ := (show ObjOk X.prog X.w H s.heap a (.dK _) from e.ok I.hok)
    obtain ⟨bs, hr, ap⟩ := DxAll.reads I h (kv_snd kv)
    have el : (kvs.map fun p => keyD p.1).length = ds.length := by rw [List.length_map, ← h.length, List.length_map]
    refine ⟨_, .dict ho hc.1 hd (as := []) (bs := bs) ?_ ?_, ?_⟩
    · rw [map_zip_fst _ _ el, kv_fst kv]
      exact keys_read ps
    · rw [map_zip_snd _ _ el, vals_eq ps]
      exact hr
    · exact Apart.cons (.inr hy) ap
theorem DxAll.reads (I : L2.Inv X pins σ H s) : ∀ {vs : List V} {ds : List PyData} {us : List Value}, DxAll H vs ds → Vals vs us → ∃ as, ReadsAll s.heap us ds as ∧ Apart s.heap as
  | _, _, _, .nil, r => by cases r; exact ⟨_, .nil, .nil⟩
  | _, _, _, .cons a b, r => by
    cases r with
    | cons r1 r2 =>
      obtain ⟨as, q1, p1⟩ := Dx.reads I a r1
      obtain ⟨bs, q2, p2⟩ := DxAll.reads I b r2
      exact ⟨_, .cons q1 q2, p1.app p2⟩
end
/-- repr(x), x an object that reads as data -/
def rRepr : List V → Hp → VK → Prop := fun xs H Q => ∃ (a : Addr) (d : PyData), xs = [.ref a] ∧ Dx H (.ref a) d ∧ d.showable = true ∧ d.depth ≤ 40 ∧ d.shown.length ≤ sizeLine ∧ Q (.str d.shown) H
theorem call_repr {X : Cx} (hg : X.A.guards = some []) (hu : X.A.units + 64 < cLine) (hs : ∃ o, X.K.lookup sysModules = some o ∧ o.cls ≠ .type "list") : CallR X (.builtin "repr") rRepr := by
  intro pins s σ H xs us Q I r h
  obtain ⟨a, d, rfl, hd, sh, dp, sz, q⟩ := h
  cases r with
  | cons r0 rr =>
    cases rr
    rename_i u
    have eu : u = Value.ref a := r0
    subst eu
    obtain ⟨as, rd, ap⟩ := Dx.reads I hd r0
    refine repr_of_reads' rd sh (fun _ hm => ?_) hg (by omega) (fun b o e => e) (fun h' u tk k => ⟨.str d.shown, H, I.kept (t' := tk) k, ⟨u, rfl⟩, q⟩) sz
    rcases ap _ hm with ⟨o, ho, hc⟩ | z
    · obtain ⟨o2, e2, n2⟩ := hs
      have z := (I.kIn _ _ e2).symm.trans ho
      cases z
      exact n2 hc
    · simp at z
end
end K20
end

section
set_option maxHeartbeats 4000000
/-! what kind of value it is -/
namespace K20
open PySem PySem.Spec PyProof.Rows L2
def tyN : PyData → String
  | .none => "NoneType"
  | .bool _ => "bool"
  | .int _ => "int"
  | .str _ => "str"
  | .list _ => "list"
  | .tuple _ => "tuple"
  | .dict _ => "dict"
theorem dx_ty {K : PySem.W.Frag} {H : Hp} {v : V} {d : PyData} (h : Dx H v d) : TyX K H v (.type (tyN d)) := by
  cases h with
  | non => exact .base .non
  | bl b => exact .base (.bl b)
  | int i => exact .base (.int i)
  | str x => exact .base (.str x)
  | lst e _ => exact .base (.lst e)
  | tup e _ => exact .base (.tup e)
  | dic e _ =>
    rcases e with e | ⟨o, e⟩
    · exact .base (.dK e)
    · exact .fDict e
def isI : PyData → Bool
  | .int _ => true
  | .bool _ => true
  | _ => false
def isB : PyData → Bool
  | .bool _ => true
  | _ => false
def isS : PyData → Bool
  | .str _ => true
  | _ => false
theorem kit_i (d : PyData) : kitB (tyN d) "int" = some (isI d) :=
  match d with
  | .none => (by decide +kernel : kitB "NoneType" "int" = some false)
  | .bool _ => (by decide +kernel : kitB "bool" "int" = some true)
  | .int _ => (by decide +kernel : kitB "int" "int" = some true)
  | .str _ => (by decide +kernel : kitB "str" "int" = some false)
  | .list _ => (by decide +kernel : kitB "list" "int" = some false)
  | .tuple _ => (by decide +kernel : kitB "tuple" "int" = some false)
  | .dict _ => (by decide +kernel : kitB "dict" "int" = some false)
theorem kit_b (d : PyData) : kitB (tyN d) "bool" = some (isB d) :=
  match d with
  | .none => (by decide +kernel : kitB "NoneType" "bool" = some false)
  | .bool _ => (by decide +kernel : kitB "bool" "bool" = some true)
  | .int _ => (by decide +kernel : kitB "int" "bool" = some false)
  | .str _ => (by decide +kernel : kitB "str" "bool" = some false)
  | .list _ => (by decide +kernel : kitB "list" "bool" = some false)
  | .tuple _ => (by decide +kernel : kitB "tuple" "bool" = some false)
  | .dict _ => (by decide +kernel : kitB "dict" "bool" = some false)
theorem kit_s (d : PyData) : kitB (tyN d) "str" = some (isS d) :=
  match d with
  | .none => (by decide +kernel : kitB "NoneType" "str" = some false)
  | .bool _ => (by decide +kernel : kitB "bool" "str" = some false)
  | .int _ => (by decide +kernel : kitB "int" "str" = some false)
  | .str _ => (by decide +kernel : kitB "str" "str" = some true)
  | .list _ => (by decide +kernel : kitB "list" "str" = some false)
  | .tuple _ => (by decide +kernel : kitB "tuple" "str" = some false)
  | .dict _ => (by decide +kernel : kitB "dict" "str" = some false)
/-- a whole number; a count; a text of signs -/
def wholeD : PyData → Bool := fun d => isI d && !isB d
def countD : PyData → Bool
  | .int i => decide (0 ≤ i)
  | _ => false
def sgn (c : Nat) : Bool := decide (c ∈ (PySem.Str.ofString "abcd").cps.toList)
def wordD : PyData → Bool
  | .str z => z.cps.toList.all sgn
  | _ => false
/-- what is asked of a thing -/
structure Tame (d : PyData) : Prop where
  len : ∀ z, d = .str z → z.length ≤ 5000 ∧ ∀ c ∈ z.cps.toList, c < 1114112
  sh : d.showable = true
  dp : d.depth ≤ 10
  sz : d.shown.length ≤ 60000
def spB (f : PyData → Bool) : Sp := fun vs H Q _ => ∃ (v : V) (d : PyData), vs = [v] ∧ Dx H v d ∧ Tame d ∧ ∀ H', Same H H' → Q (.bl (f d)) H'
theorem take_snoc {α : Type} {l : List α} {i : Nat} {x : α} (h : l[i]? = some x) : l.take (i + 1) = l.take i ++ [x] := by
  rw [List.take_add_one, h]; rfl
end K20
end

section
/-! tables of code, walked -/
namespace K20
open PySem
abbrev Ch := List (List (Str × Nat))
def rowC (c : Ch) (i : Nat) : List (Str × Nat) := c.getD i []
def addN (o : List Nat) (t : Nat) : List Nat := if t ∈ o then o else o ++ [t]
def addAll (o : List Nat) (r : List (Str × Nat)) : List Nat := r.foldl (fun o e => addN o e.2) o
def goR (c : Ch) : Nat → Nat → List Nat → List Nat
  | 0, _, o => o
  | f + 1, a, o => match o[a]? with
    | some i => goR c f (a + 1) (addAll o (rowC c i))
    | none => o
def reached (c : Ch) : List Nat := goR c (c.length + 1) 0 [0]
def keptF (c : Ch) : Ch := (reached c).map fun i => (rowC c i).map fun e => (e.1, (reached c).idxOf e.2)
def WfC (c : Ch) : Prop := 0 < c.length ∧ ∀ r ∈ c, ∀ e ∈ r, e.2 < c.length
theorem rowC_lt {c : Ch} (w : WfC c) {i : Nat} {e : Str × Nat} (h : e ∈ rowC c i) : e.2 < c.length := by
  unfold rowC at h
  rw [List.getD_eq_getElem?_getD] at h
  cases k : c[i]? with
  | none => rw [k] at h; cases h
  | some r => rw [k] at h; exact w.2 r (List.mem_of_getElem? k) e h
theorem mem_addN {o : List Nat} {t x : Nat} : x ∈ addN o t ↔ x ∈ o ∨ x = t := by
  unfold addN
  split
  · constructor
    · exact .inl
    · rintro (h | h)
      · exact h
      · rw [h]; assumption
  · simp
theorem mem_addAll {r : List (Str × Nat)} : ∀ {o : List Nat} {x : Nat}, x ∈ addAll o r ↔ x ∈ o ∨ ∃ e ∈ r, x = e.2 := by
  induction r with
  | nil => intro o x; simp [addAll]
  | cons e r ih =>
    intro o x
    show x ∈ addAll (addN o e.2) r ↔ _
    rw [ih, mem_addN]
    constructor
    · rintro ((h | h) | ⟨e', h1, h2⟩)
      · exact .inl h
      · exact .inr ⟨e, List.mem_cons_self .., h⟩
      · exact .inr ⟨e', List.mem_cons_of_mem _ h1, h2⟩
    · rintro (h | ⟨e', h1, h2⟩)
      · exact .inl (.inl h)
      · rcases List.mem_cons.mp h1 with rfl | h1
        · exact .inl (.inr h2)
        · exact .inr ⟨e', h1, h2⟩
theorem addN_pre (o : List Nat) (t : Nat) : ∃ s, addN o t = o ++ s := by
  unfold addN
  split
  · exact ⟨[], (List.append_nil o).symm⟩
  · exact ⟨[t], rfl⟩
theorem addAll_pre {r : List (Str × Nat)} : ∀ (o : List Nat), ∃ s, addAll o r = o ++ s := by
  induction r with
  | nil => exact fun o => ⟨[], (List.append_nil o).symm⟩
  | cons e r ih =>
    intro o
    obtain ⟨s, h⟩ := addN_pre o e.2
    obtain ⟨s', h'⟩ := ih (addN o e.2)
    exact ⟨s ++ s', by show addAll (addN o e.2) r = _; rw [h', h, List.append_assoc]⟩
theorem nodup_addN {o : List Nat} (t : Nat) (h : o.Nodup) : (addN o t).Nodup := by
  unfold addN
  split
  · exact h
  · rename_i k
    rw [List.nodup_append]
    refine ⟨h, by simp, fun x hx y hy => ?_⟩
    rw [List.mem_singleton.mp hy]
    exact fun z => k (by rw [← z]; exact hx)
theorem nodup_addAll {r : List (Str × Nat)} : ∀ {o : List Nat}, o.Nodup → (addAll o r).Nodup := by
  induction r with
  | nil => exact fun h => h
  | cons e r ih => exact fun h => ih (nodup_addN e.2 h)
theorem nodup_len : ∀ {n : Nat} {o : List Nat}, o.Nodup → (∀ x ∈ o, x < n) → o.length ≤ n
  | 0, o, _, h => by
    cases o with
    | nil => exact Nat.le_refl _
    | cons x r => exact absurd (h x (List.mem_cons_self ..)) (Nat.not_lt_zero _)
  | n + 1, o, h1, h2 => by
    by_cases k : n ∈ o
    · have r := nodup_len (n := n) (h1.erase n) fun x hx => by
        obtain ⟨a, b⟩ := h1.mem_erase_iff.mp hx
        have := h2 x b
        omega
      have := List.length_erase_of_mem k
      have := List.length_pos_of_mem k
      omega
    · have r := nodup_len (n := n) h1 fun x hx => by
        have := h2 x hx
        have : x ≠ n := fun z => k (z ▸ hx)
        omega
      omega
/-- enough steps are enough -/
theorem goR_stop {c : Ch} (w : WfC c) : ∀ (f a : Nat) (o : List Nat), o.Nodup → (∀ x ∈ o, x < c.length) → c.length + 1 ≤ f + a → goR c (f + 1) a o = goR c f a o
  | 0, a, o, h1, h2, h3 => by
    have : o.length ≤ c.length := nodup_len h1 h2
    unfold goR
    rw [List.getElem?_eq_none (by omega)]
  | f + 1, a, o, h1, h2, h3 => by
    rw [show goR c (f + 1 + 1) a o = (match o[a]? with | some i => goR c (f + 1) (a + 1) (addAll o (rowC c i)) | none => o) from rfl, show goR c (f + 1) a o = (match o[a]? with | some i => goR c f (a + 1) (addAll o (rowC c i)) | none => o) from rfl]
    cases e : o[a]? with
    | none => rfl
    | some i => exact goR_stop w f (a + 1) _ (nodup_addAll h1) (fun x hx => (mem_addAll.mp hx).elim (h2 x) fun ⟨e, he, z⟩ => by rw [z]; exact rowC_lt w he) (by omega)
theorem goR_more {c : Ch} (w : WfC c) {f a : Nat} {o : List Nat} (h1 : o.Nodup) (h2 : ∀ x ∈ o, x < c.length) (h3 : c.length + 1 ≤ f + a) : ∀ k, goR c (f + k) a o = goR c f a o
  | 0 => rfl
  | k + 1 => (goR_stop w (f + k) a o h1 h2 (by omega)).trans (goR_more w h1 h2 h3 k)
theorem addN_map {g : Nat → Nat} {o : List Nat} {t : Nat} (inj : ∀ x ∈ o, g x = g t → x = t) : addN (o.map g) (g t) = (addN o t).map g := by
  unfold addN
  by_cases h : t ∈ o
  · rw [if_pos h, if_pos (List.mem_map_of_mem h)]
  · rw [if_neg h, if_neg]
    · rw [List.map_append]; rfl
    · intro z
      obtain ⟨x, hx, e⟩ := List.mem_map.mp z
      exact h (inj x hx e ▸ hx)
theorem addAll_map {g : Nat → Nat} {D : Nat → Prop} (inj : ∀ x y, D x → D y → g x = g y → x = y) : ∀ (r : List (Str × Nat)) (o : List Nat), (∀ x ∈ o, D x) → (∀ e ∈ r, D e.2) → addAll (o.map g) (r.map fun e => (e.1, g e.2)) = (addAll o r).map g
  | [], o, _, _ => rfl
  | e :: r, o, ho, hr => by
    show addAll (addN (o.map g) (g e.2)) (r.map fun e => (e.1, g e.2)) = (addAll (addN o e.2) r).map g
    rw [addN_map fun x hx z => inj x e.2 (ho x hx) (hr e (List.mem_cons_self ..)) z]
    exact addAll_map inj r _ (fun x hx => (mem_addN.mp hx).elim (ho x) fun z => z ▸ hr e (List.mem_cons_self ..)) fun e' h => hr e' (List.mem_cons_of_mem _ h)
/-- g takes the walk of c' to that of c -/
structure Iso (c c' : Ch) (g : Nat → Nat) (D : Nat → Prop) : Prop where
  z : g 0 = 0
  d0 : D 0
  row : ∀ i, D i → rowC c (g i) = (rowC c' i).map fun e => (e.1, g e.2)
  closed : ∀ i, D i → ∀ e ∈ rowC c' i, D e.2
  inj : ∀ x y, D x → D y → g x = g y → x = y
theorem Iso.go {c c' : Ch} {g : Nat → Nat} {D : Nat → Prop} (I : Iso c c' g D) : ∀ (f a : Nat) (o : List Nat), (∀ x ∈ o, D x) → goR c f a (o.map g) = (goR c' f a o).map g ∧ ∀ x ∈ goR c' f a o, D x
  | 0, a, o, h => ⟨rfl, h⟩
  | f + 1, a, o, h => by
    unfold goR
    rw [List.getElem?_map]
    cases e : o[a]? with
    | none => exact ⟨rfl, h⟩
    | some i =>
      have di := h i (List.mem_of_getElem? e)
      have r := I.go f (a + 1) (addAll o (rowC c' i)) fun x hx => (mem_addAll.mp hx).elim (h x) fun ⟨e, he, z⟩ => z ▸ I.closed i di e he
      refine ⟨?_, r.2⟩
      show goR c f (a + 1) (addAll (o.map g) (rowC c (g i))) = _
      rw [I.row i di, addAll_map I.inj _ _ h (I.closed i di)]
      exact r.1
theorem one_nodup : ([0] : List Nat).Nodup := by simp
theorem reached_is {c : Ch} (w : WfC c) {f : Nat} (h : c.length + 1 ≤ f) : goR c f 0 [0] = reached c := by
  obtain ⟨k, rfl⟩ := Nat.le.dest h
  exact goR_more w one_nodup (fun x hx => by rw [List.mem_singleton.mp hx]; exact w.1) (by omega) k
theorem Iso.reached {c c' : Ch} {g : Nat → Nat} {D : Nat → Prop} (I : Iso c c' g D) (w : WfC c) (w' : WfC c') : K20.reached c = (K20.reached c').map g ∧ ∀ x ∈ K20.reached c', D x := by
  obtain ⟨h1, h2⟩ := I.go (c.length + 1 + (c'.length + 1)) 0 [0] fun x hx => by rw [List.mem_singleton.mp hx]; exact I.d0
  rw [reached_is w' (by omega)] at h1 h2
  rw [show List.map g [0] = [0] by simp [I.z], reached_is w (by omega)] at h1
  exact ⟨h1, h2⟩
theorem idx_map {g : Nat → Nat} {t : Nat} : ∀ {o : List Nat}, (∀ x ∈ o, g x = g t → x = t) → (o.map g).idxOf (g t) = o.idxOf t
  | [], _ => rfl
  | x :: o, h => by
    rw [List.map_cons, List.idxOf_cons, List.idxOf_cons]
    by_cases e : x = t
    · rw [e]; simp
    · have ne : ¬ g x = g t := fun z => e (h x (List.mem_cons_self ..) z)
      rw [show (g x == g t) = false from beq_eq_false_iff_ne.mpr ne, show (x == t) = false from beq_eq_false_iff_ne.mpr e]
      simp only [cond_false]
      rw [idx_map fun y hy => h y (List.mem_cons_of_mem _ hy)]
theorem Iso.kept {c c' : Ch} {g : Nat → Nat} {D : Nat → Prop} (I : Iso c c' g D) (w : WfC c) (w' : WfC c') : keptF c = keptF c' := by
  obtain ⟨h1, h2⟩ := I.reached w w'
  unfold keptF
  rw [h1, List.map_map]
  refine List.map_congr_left fun i hi => ?_
  show (rowC c (g i)).map _ = _
  rw [I.row i (h2 i hi), List.map_map]
  refine List.map_congr_left fun e he => ?_
  show (e.1, _) = (e.1, _)
  rw [idx_map fun x hx z => I.inj x e.2 (h2 x hx) (I.closed i (h2 i hi) e he) z]
/-! the walk is closed -/
theorem goR_pre {c : Ch} : ∀ (f a : Nat) (o : List Nat), ∃ s, goR c f a o = o ++ s
  | 0, a, o => ⟨[], (List.append_nil o).symm⟩
  | f + 1, a, o => by
    unfold goR
    cases e : o[a]? with
    | none => exact ⟨[], (List.append_nil o).symm⟩
    | some i =>
      obtain ⟨s, h⟩ := addAll_pre (r := rowC c i) o
      obtain ⟨s', h'⟩ := goR_pre (c := c) f (a + 1) (addAll o (rowC c i))
      exact ⟨s ++ s', by show goR c f (a + 1) (addAll o (rowC c i)) = _; rw [h', h, List.append_assoc]⟩
/-- the first a ones have been gone through -/
def Done (c : Ch) (a : Nat) (o : List Nat) : Prop := ∀ m i, m < a → o[m]? = some i → ∀ e ∈ rowC c i, e.2 ∈ o
theorem Done.step {c : Ch} {a i : Nat} {o : List Nat} (d : Done c a o) (h : o[a]? = some i) : Done c (a + 1) (addAll o (rowC c i)) := by
  intro m j hm hj e he
  obtain ⟨s, hs⟩ := addAll_pre (r := rowC c i) o
  have la : a < o.length := (List.getElem?_eq_some_iff.mp h).1
  rw [hs, List.getElem?_append_left (by omega)] at hj
  by_cases k : m < a
  · exact mem_addAll.mpr (.inl (d m j k hj e he))
  · have : m = a := by omega
    subst this
    rw [h] at hj
    cases hj
    exact mem_addAll.mpr (.inr ⟨e, he, rfl⟩)
theorem goR_done {c : Ch} (w : WfC c) : ∀ (f a : Nat) (o : List Nat), o.Nodup → (∀ x ∈ o, x < c.length) → a ≤ o.length → c.length + 1 ≤ f + a → Done c a o →
    (goR c f a o).Nodup ∧ (∀ x ∈ goR c f a o, x < c.length) ∧ ∀ x ∈ goR c f a o, ∀ e ∈ rowC c x, e.2 ∈ goR c f a o
  | 0, a, o, h1, h2, h3, h4, d => by
    have : o.length ≤ c.length := nodup_len h1 h2
    omega
  | f + 1, a, o, h1, h2, h3, h4, d => by
    unfold goR
    cases e : o[a]? with
    | none =>
      refine ⟨h1, h2, fun x (hx : x ∈ o) e' he => ?_⟩
      obtain ⟨m, hm, em⟩ := List.mem_iff_getElem.mp hx
      have : o.length ≤ a := List.getElem?_eq_none_iff.mp e
      exact d m x (by omega) (by rw [List.getElem?_eq_getElem hm, em]) e' he
    | some i =>
      have la : a < o.length := (List.getElem?_eq_some_iff.mp e).1
      obtain ⟨s, hs⟩ := addAll_pre (r := rowC c i) o
      exact goR_done w f (a + 1) _ (nodup_addAll h1) (fun x hx => (mem_addAll.mp hx).elim (h2 x) fun ⟨e, he, z⟩ => by rw [z]; exact rowC_lt w he) (by rw [hs, List.length_append]; omega) (by omega) (d.step e)
theorem reached_ok {c : Ch} (w : WfC c) : (reached c).Nodup ∧ (∀ x ∈ reached c, x < c.length) ∧ (∀ x ∈ reached c, ∀ e ∈ rowC c x, e.2 ∈ reached c) ∧ (reached c)[0]? = some 0 := by
  obtain ⟨h1, h2, h3⟩ := goR_done w (c.length + 1) 0 [0] one_nodup (fun x hx => by rw [List.mem_singleton.mp hx]; exact w.1) (Nat.zero_le _) (Nat.le_refl _) fun m i hm => absurd hm (Nat.not_lt_zero _)
  obtain ⟨s, hs⟩ := goR_pre (c := c) (c.length + 1) 0 [0]
  refine ⟨h1, h2, h3, ?_⟩
  show (goR c (c.length + 1) 0 [0])[0]? = _
  rw [hs]
  rfl
theorem reached_pos {c : Ch} (w : WfC c) : 0 < (reached c).length := (List.getElem?_eq_some_iff.mp (reached_ok w).2.2.2).1
theorem keptF_length (c : Ch) : (keptF c).length = (reached c).length := by unfold keptF; rw [List.length_map]
theorem keptF_row {c : Ch} {i : Nat} (h : i < (reached c).length) : rowC (keptF c) i = (rowC c ((reached c)[i])).map fun e => (e.1, (reached c).idxOf e.2) := by
  unfold rowC keptF
  rw [List.getD_eq_getElem?_getD, List.getElem?_map, List.getElem?_eq_getElem h]
  rfl
theorem keptF_wf {c : Ch} (w : WfC c) : WfC (keptF c) := by
  obtain ⟨h1, h2, h3, h4⟩ := reached_ok w
  rw [WfC, keptF_length]
  refine ⟨reached_pos w, fun r hr e he => ?_⟩
  unfold keptF at hr
  obtain ⟨i, hi, rfl⟩ := List.mem_map.mp hr
  obtain ⟨e', he', rfl⟩ := List.mem_map.mp he
  exact List.idxOf_lt_length_of_mem (h3 i hi e' he')
theorem kept_kept {c : Ch} (w : WfC c) : keptF (keptF c) = keptF c := by
  obtain ⟨h1, h2, h3, h4⟩ := reached_ok w
  have I : Iso c (keptF c) (fun i => (reached c).getD i 0) (fun i => i < (reached c).length) := {
    z := by rw [List.getD_eq_getElem?_getD, h4]; rfl
    d0 := reached_pos w
    row := fun i hi => by
      rw [keptF_row hi, List.map_map, List.getD_eq_getElem?_getD, List.getElem?_eq_getElem hi]
      refine (List.map_id (rowC c (reached c)[i])).symm.trans (List.map_congr_left fun e he => ?_)
      have m := h3 _ (List.getElem_mem hi) e he
      show e = (e.1, (reached c).getD ((reached c).idxOf e.2) 0)
      rw [List.getD_eq_getElem?_getD, List.getElem?_eq_getElem (List.idxOf_lt_length_of_mem m), List.getElem_idxOf]
      rfl
    closed := fun i hi e he => by
      rw [keptF_row hi] at he
      obtain ⟨e', he', rfl⟩ := List.mem_map.mp he
      exact List.idxOf_lt_length_of_mem (h3 _ (List.getElem_mem hi) e' he')
    inj := fun x y hx hy e => by
      have e : (reached c).getD x 0 = (reached c).getD y 0 := e
      rw [List.getD_eq_getElem?_getD, List.getD_eq_getElem?_getD, List.getElem?_eq_getElem hx, List.getElem?_eq_getElem hy] at e
      exact (List.getElem_inj (h₀ := hx) (h₁ := hy) h1).mp e }
  exact (I.kept w (keptF_wf w)).symm
end K20
end

section
/-! tables of media: states that are like, the least table -/
namespace K20
open PySem
def lkp (r : List (Str × Nat)) (z : Str) : Option Nat := (r.find? fun e => decide (e.1 = z)).map (·.2)
def keysR (r : List (Str × Nat)) : List Str := r.map (·.1)
theorem lkp_nil (z : Str) : lkp [] z = none := rfl
theorem lkp_cons (e : Str × Nat) (r : List (Str × Nat)) (z : Str) : lkp (e :: r) z = if e.1 = z then some e.2 else lkp r z := by
  unfold lkp
  rw [List.find?_cons]
  by_cases h : e.1 = z
  · rw [decide_eq_true h, if_pos h]; rfl
  · rw [decide_eq_false h, if_neg h]
theorem lkp_mem {z : Str} {a : Nat} : ∀ {r : List (Str × Nat)}, lkp r z = some a → (z, a) ∈ r
  | [], h => by cases h
  | e :: r, h => by
    rw [lkp_cons] at h
    by_cases k : e.1 = z
    · rw [if_pos k] at h
      cases h
      rw [← k]
      exact List.mem_cons_self
    · rw [if_neg k] at h
      exact List.mem_cons_of_mem _ (lkp_mem h)
theorem lkp_has {z : Str} : ∀ {r : List (Str × Nat)}, z ∈ keysR r → ∃ a, lkp r z = some a
  | [], h => by cases h
  | e :: r, h => by
    rw [lkp_cons]
    by_cases k : e.1 = z
    · exact ⟨e.2, if_pos k⟩
    · rw [if_neg k]
      refine lkp_has ((List.mem_cons.mp h).resolve_left fun q => k q.symm)
theorem lkp_none {z : Str} {r : List (Str × Nat)} (h : z ∉ keysR r) : lkp r z = none := by
  cases e : lkp r z with
  | none => rfl
  | some a => exact absurd (List.mem_map_of_mem (f := (·.1)) (lkp_mem e)) h
theorem lkp_keys {z : Str} {a : Nat} {r : List (Str × Nat)} (h : lkp r z = some a) : z ∈ keysR r := List.mem_map_of_mem (f := (·.1)) (lkp_mem h)
theorem lkp_at {r : List (Str × Nat)} (nd : (keysR r).Nodup) {e : Str × Nat} (h : e ∈ r) : lkp r e.1 = some e.2 := by
  induction r with
  | nil => cases h
  | cons x r ih =>
    rw [lkp_cons]
    obtain ⟨n1, n2⟩ := List.nodup_cons.mp nd
    rcases List.mem_cons.mp h with rfl | h
    · exact if_pos rfl
    · have q : x.1 ≠ e.1 := fun z => n1 (by show x.1 ∈ _; rw [z]; exact List.mem_map_of_mem (f := (·.1)) h)
      rw [if_neg q]
      exact ih n2 h
/-! ### like to some depth -/
def Lk (c : Ch) : Nat → Nat → Nat → Prop
  | 0, _, _ => True
  | k + 1, s, t => keysR (rowC c s) = keysR (rowC c t) ∧ ∀ z a b, lkp (rowC c s) z = some a → lkp (rowC c t) z = some b → Lk c k a b
def Lw (c : Ch) (s t : Nat) : Prop := ∀ k, Lk c k s t
theorem Lk.refl (c : Ch) : ∀ k s, Lk c k s s
  | 0, _ => True.intro
  | k + 1, s => ⟨rfl, fun z a b h1 h2 => by rw [h1] at h2; cases h2; exact Lk.refl c k a⟩
theorem Lk.symm {c : Ch} : ∀ {k s t}, Lk c k s t → Lk c k t s
  | 0, _, _, _ => True.intro
  | k + 1, s, t, ⟨h, g⟩ => ⟨h.symm, fun z a b h1 h2 => (g z b a h2 h1).symm⟩
theorem Lk.trans {c : Ch} : ∀ {k s t u}, Lk c k s t → Lk c k t u → Lk c k s u
  | 0, _, _, _, _, _ => True.intro
  | k + 1, s, t, u, ⟨h, g⟩, ⟨h', g'⟩ => ⟨h.trans h', fun z a b h1 h2 => by
    obtain ⟨m, hm⟩ := lkp_has (h ▸ lkp_keys h1)
    exact (g z a m h1 hm).trans (g' z m b hm h2)⟩
theorem Lk.less {c : Ch} : ∀ {k s t}, Lk c (k + 1) s t → Lk c k s t
  | 0, _, _, _ => True.intro
  | k + 1, s, t, ⟨h, g⟩ => ⟨h, fun z a b h1 h2 => (g z a b h1 h2).less⟩
theorem Lk.mono {c : Ch} {s t : Nat} {k : Nat} : ∀ j, Lk c (k + j) s t → Lk c k s t
  | 0, h => h
  | j + 1, h => Lk.mono j h.less
theorem Lw.refl (c : Ch) (s : Nat) : Lw c s s := fun k => Lk.refl c k s
theorem Lw.symm {c : Ch} {s t : Nat} (h : Lw c s t) : Lw c t s := fun k => (h k).symm
theorem Lw.trans {c : Ch} {s t u : Nat} (h : Lw c s t) (g : Lw c t u) : Lw c s u := fun k => (h k).trans (g k)
theorem Lw.keys {c : Ch} {s t : Nat} (h : Lw c s t) : keysR (rowC c s) = keysR (rowC c t) := (h 1).1
theorem Lw.goal {c : Ch} {s t a b : Nat} {z : Str} (h : Lw c s t) (h1 : lkp (rowC c s) z = some a) (h2 : lkp (rowC c t) z = some b) : Lw c a b := fun k => (h (k + 1)).2 z a b h1 h2
theorem lkp_lt {c : Ch} (w : WfC c) {s a : Nat} {z : Str} (h : lkp (rowC c s) z = some a) : a < c.length := rowC_lt w (lkp_mem h)
theorem stable {c : Ch} (w : WfC c) {r : Nat} (h : ∀ s t, s < c.length → t < c.length → Lk c r s t → Lk c (r + 1) s t) {s t : Nat} (hs : s < c.length) (ht : t < c.length) (l : Lk c r s t) : Lw c s t := by
  have S : ∀ j s t, s < c.length → t < c.length → Lk c (r + j) s t → Lk c (r + j + 1) s t := by
    intro j
    induction j with
    | zero => exact h
    | succ j ih =>
      intro s t hs ht ⟨l1, l2⟩
      exact ⟨l1, fun z a b h1 h2 => ih a b (lkp_lt w h1) (lkp_lt w h2) (l2 z a b h1 h2)⟩
  have up : ∀ j, Lk c (r + j) s t := by
    intro j
    induction j with
    | zero => exact l
    | succ j ih => exact S j s t hs ht ih
  intro k
  by_cases q : k ≤ r
  · obtain ⟨j, rfl⟩ := Nat.le.dest q
    exact l.mono j
  · have := up (k - r)
    rwa [show r + (k - r) = k by omega] at this
/-! ### numbers for marks -/
section
variable {α : Type} [DecidableEq α]
def addM (o : List α) (m : α) : List α := if m ∈ o then o else o ++ [m]
def nubsO (o ms : List α) : List α := ms.foldl addM o
def nubs (ms : List α) : List α := nubsO [] ms
def ixM (o : List α) (x : α) : Nat := o.idxOf x
def numF (ms : List α) : List Nat := ms.map fun m => ixM (nubs ms) m
theorem mem_addM {o : List α} {m x : α} : x ∈ addM o m ↔ x ∈ o ∨ x = m := by
  unfold addM
  split
  · exact ⟨.inl, fun h => h.elim id fun e => e ▸ (by assumption)⟩
  · simp
theorem mem_nubsO {x : α} : ∀ {ms o : List α}, x ∈ nubsO o ms ↔ x ∈ o ∨ x ∈ ms
  | [], o => by show x ∈ o ↔ _; simp
  | m :: ms, o => by
    show x ∈ nubsO (addM o m) ms ↔ _
    rw [mem_nubsO, mem_addM, List.mem_cons, or_assoc]
theorem nd_addM {o : List α} (m : α) (h : o.Nodup) : (addM o m).Nodup := by
  unfold addM
  split
  · exact h
  · rename_i k
    rw [List.nodup_append]
    exact ⟨h, by simp, fun a ha b hb => by rw [List.mem_singleton.mp hb]; exact fun z => k (z ▸ ha)⟩
theorem nd_nubsO : ∀ {ms o : List α}, o.Nodup → (nubsO o ms).Nodup
  | [], _, h => h
  | m :: ms, _, h => nd_nubsO (ms := ms) (nd_addM m h)
theorem addM_pre (o : List α) (m : α) : ∃ t, addM o m = o ++ t := by
  unfold addM
  split
  · exact ⟨[], (List.append_nil o).symm⟩
  · exact ⟨[m], rfl⟩
theorem nubsO_pre : ∀ (ms o : List α), ∃ t, nubsO o ms = o ++ t
  | [], o => ⟨[], (List.append_nil o).symm⟩
  | m :: ms, o => by
    obtain ⟨t, h⟩ := addM_pre o m
    obtain ⟨t', h'⟩ := nubsO_pre ms (addM o m)
    exact ⟨t ++ t', by show nubsO (addM o m) ms = _; rw [h', h, List.append_assoc]⟩
theorem nubsO_app (o as bs : List α) : nubsO o (as ++ bs) = nubsO (nubsO o as) bs := List.foldl_append
theorem mem_nubs {ms : List α} {x : α} : x ∈ nubs ms ↔ x ∈ ms := by
  unfold nubs
  rw [mem_nubsO]
  simp
theorem nd_nubs (ms : List α) : (nubs ms).Nodup := nd_nubsO List.nodup_nil
theorem idx_pre {o t : List α} {x : α} (h : x ∈ o) : ixM (o ++ t) x = ixM o x := by
  unfold ixM
  induction o with
  | nil => cases h
  | cons y o ih =>
    rw [List.cons_append, List.idxOf_cons, List.idxOf_cons]
    by_cases e : y = x
    · rw [e]; simp
    · rw [show (y == x) = false from beq_eq_false_iff_ne.mpr e]
      simp only [cond_false]
      rw [ih ((List.mem_cons.mp h).resolve_left fun z => e z.symm)]
theorem idx_inj {o : List α} {x y : α} (hx : x ∈ o) (hy : y ∈ o) (h : ixM o x = ixM o y) : x = y := by
  unfold ixM at h
  have h1 := List.getElem_idxOf (List.idxOf_lt_length_of_mem hx)
  have h2 := List.getElem_idxOf (List.idxOf_lt_length_of_mem hy)
  rw [← h1, ← h2]
  congr 1
theorem numF_len (ms : List α) : (numF ms).length = ms.length := List.length_map ..
theorem numF_at {ms : List α} {i : Nat} {m : α} (h : ms[i]? = some m) : (numF ms).getD i 0 = ixM (nubs ms) m := by
  unfold numF
  rw [List.getD_eq_getElem?_getD, List.getElem?_map, h]; rfl
theorem numF_eq {ms : List α} {i j : Nat} {m m' : α} (h : ms[i]? = some m) (h' : ms[j]? = some m') : (numF ms).getD i 0 = (numF ms).getD j 0 ↔ m = m' := by
  rw [numF_at h, numF_at h']
  exact ⟨fun e => idx_inj (mem_nubs.mpr (List.mem_of_getElem? h)) (mem_nubs.mpr (List.mem_of_getElem? h')) e, fun e => by rw [e]⟩
theorem numF_lt {ms : List α} {x : Nat} (h : x ∈ numF ms) : x < (nubs ms).length := by
  obtain ⟨m, hm, rfl⟩ := List.mem_map.mp h
  exact List.idxOf_lt_length_of_mem (mem_nubs.mpr hm)
theorem numF_all {ms : List α} {v : Nat} (h : v < (nubs ms).length) : v ∈ numF ms := by
  refine List.mem_map.mpr ⟨(nubs ms)[v], mem_nubs.mp (List.getElem_mem h), ?_⟩
  have hm := List.getElem_mem h
  have e := List.getElem_idxOf (List.idxOf_lt_length_of_mem hm)
  exact (List.getElem_inj (h₀ := List.idxOf_lt_length_of_mem hm) (h₁ := h) (nd_nubs ms)).mp e
end
/-! ### the signs -/
def sgs : List Str := [PySem.Str.ofString "a", PySem.Str.ofString "b", PySem.Str.ofString "c", PySem.Str.ofString "d"]
theorem sgs_nd : sgs.Nodup := by decide +kernel
/-- a row of w signs, in order -/
def okR (w : Nat) (r : List (Str × Nat)) : Prop := keysR r = (sgs.take w).filter fun z => decide (z ∈ keysR r)
def okT (w : Nat) (c : Ch) : Prop := ∀ r ∈ c, okR w r ∧ r ≠ []
theorem okR_nd {w : Nat} {r : List (Str × Nat)} (h : okR w r) : (keysR r).Nodup := by
  rw [show keysR r = (sgs.take w).filter _ from h]
  exact (sgs_nd.sublist (List.take_sublist w sgs)).filter _
theorem okR_in {w : Nat} {r : List (Str × Nat)} (h : okR w r) {z : Str} (hz : z ∈ keysR r) : z ∈ sgs.take w := by
  rw [show keysR r = (sgs.take w).filter _ from h] at hz
  exact (List.mem_filter.mp hz).1
theorem okR_eq {w : Nat} {r r' : List (Str × Nat)} (h : okR w r) (h' : okR w r') (e : ∀ z ∈ sgs, (lkp r z).isSome = (lkp r' z).isSome) : keysR r = keysR r' := by
  have key : ∀ z ∈ sgs.take w, decide (z ∈ keysR r) = decide (z ∈ keysR r') := fun z hz => by
    have := e z (List.mem_of_mem_take hz)
    refine decide_eq_decide.mpr ⟨fun q => ?_, fun q => ?_⟩
    · obtain ⟨a, ha⟩ := lkp_has q
      rw [ha] at this
      cases k : lkp r' z with
      | none => rw [k] at this; cases this
      | some b => exact lkp_keys k
    · obtain ⟨a, ha⟩ := lkp_has q
      rw [ha] at this
      cases k : lkp r z with
      | none => rw [k] at this; cases this
      | some b => exact lkp_keys k
  rw [show keysR r = (sgs.take w).filter _ from h, show keysR r' = (sgs.take w).filter _ from h']
  exact List.filter_congr key
def rowOk {w : Nat} {c : Ch} (k : okT w c) {s : Nat} (h : s < c.length) : okR w (rowC c s) ∧ rowC c s ≠ [] := by
  refine k _ ?_
  unfold rowC
  rw [List.getD_eq_getElem?_getD, List.getElem?_eq_getElem h]
  exact List.getElem_mem h
/-- the mark of a state, from the kinds so far -/
def knO (ks : List Nat) : Option Nat → Int
  | some g => (ks.getD g 0 : Nat)
  | none => -1
def mk (ks : List Nat) (r : List (Str × Nat)) : List Int := sgs.map fun z => knO ks (lkp r z)
def kindsF (c : Ch) : Nat → List Nat
  | 0 => List.replicate c.length 0
  | r + 1 => numF (c.map (mk (kindsF c r)))
structure Kd (c : Ch) (r : Nat) (ks : List Nat) (m : Nat) : Prop where
  len : ks.length = c.length
  eq : ∀ s t, s < c.length → t < c.length → (ks.getD s 0 = ks.getD t 0 ↔ Lk c r s t)
  lt : ∀ x ∈ ks, x < m
  all : ∀ v, v < m → v ∈ ks
theorem row_get {c : Ch} {s : Nat} (h : s < c.length) : c[s]? = some (rowC c s) := by
  unfold rowC
  rw [List.getD_eq_getElem?_getD, List.getElem?_eq_getElem h]; rfl
theorem knO_eq {c : Ch} {r m : Nat} {ks : List Nat} (K : Kd c r ks m) {x y : Option Nat} (hx : ∀ a, x = some a → a < c.length) (hy : ∀ a, y = some a → a < c.length) :
    knO ks x = knO ks y ↔ (x = none ∧ y = none) ∨ ∃ a b, x = some a ∧ y = some b ∧ Lk c r a b := by
  cases x with
  | none => cases y with
    | none => simp [knO]
    | some b =>
      simp [knO]
  | some a => cases y with
    | none => simp [knO]
    | some b =>
      have := K.eq a b (hx a rfl) (hy b rfl)
      constructor
      · intro h
        refine .inr ⟨a, b, rfl, rfl, this.mp ?_⟩
        have h : ((ks.getD a 0 : Nat) : Int) = (ks.getD b 0 : Nat) := h
        omega
      · rintro (⟨h, _⟩ | ⟨a', b', h1, h2, h3⟩)
        · cases h
        · cases h1
          cases h2
          show ((ks.getD a 0 : Nat) : Int) = (ks.getD b 0 : Nat)
          rw [this.mpr h3]
theorem mk_eq {c : Ch} {w r m : Nat} {ks : List Nat} (wf : WfC c) (ok : okT w c) (K : Kd c r ks m) {s t : Nat} (hs : s < c.length) (ht : t < c.length) : mk ks (rowC c s) = mk ks (rowC c t) ↔ Lk c (r + 1) s t := by
  have e1 : mk ks (rowC c s) = mk ks (rowC c t) ↔ ∀ z ∈ sgs, knO ks (lkp (rowC c s) z) = knO ks (lkp (rowC c t) z) := by
    unfold mk
    constructor
    · intro h z hz
      exact List.map_inj_left.mp h z hz
    · intro h
      exact List.map_congr_left h
  have lt : ∀ {u z a}, lkp (rowC c u) z = some a → a < c.length := fun h => lkp_lt wf h
  rw [e1]
  constructor
  · intro h
    have h' : ∀ z ∈ sgs, _ := fun z hz => (knO_eq K (fun a e => lt e) (fun a e => lt e)).mp (h z hz)
    refine ⟨okR_eq (rowOk ok hs).1 (rowOk ok ht).1 fun z hz => ?_, fun z a b h1 h2 => ?_⟩
    · rcases h' z hz with ⟨p, q⟩ | ⟨a, b, p, q, _⟩ <;> rw [p, q] <;> rfl
    · have hz := List.mem_of_mem_take (okR_in (rowOk ok hs).1 (lkp_keys h1))
      rcases h' z hz with ⟨p, q⟩ | ⟨a', b', p, q, l⟩
      · rw [p] at h1; cases h1
      · rw [p] at h1; rw [q] at h2
        cases h1; cases h2
        exact l
  · rintro ⟨h, g⟩ z hz
    refine (knO_eq K (fun a e => lt e) (fun a e => lt e)).mpr ?_
    cases e : lkp (rowC c s) z with
    | none =>
      refine .inl ⟨rfl, lkp_none fun q => ?_⟩
      obtain ⟨a, ha⟩ := lkp_has (h ▸ q : z ∈ keysR (rowC c s))
      rw [ha] at e; cases e
    | some a =>
      obtain ⟨b, hb⟩ := lkp_has (h ▸ lkp_keys e : z ∈ keysR (rowC c t))
      exact .inr ⟨a, b, rfl, hb, g z a b e hb⟩
theorem kd_next {c : Ch} {w r m : Nat} {ks : List Nat} (wf : WfC c) (ok : okT w c) (K : Kd c r ks m) : Kd c (r + 1) (numF (c.map (mk ks))) (nubs (c.map (mk ks))).length := by
  refine ⟨by rw [numF_len, List.length_map], fun s t hs ht => ?_, fun x hx => numF_lt hx, fun v hv => numF_all hv⟩
  rw [numF_eq (m := mk ks (rowC c s)) (m' := mk ks (rowC c t)) (by rw [List.getElem?_map, row_get hs]; rfl) (by rw [List.getElem?_map, row_get ht]; rfl)]
  exact mk_eq wf ok K hs ht
theorem kd_zero {c : Ch} (wf : WfC c) : Kd c 0 (kindsF c 0) 1 := by
  refine ⟨List.length_replicate .., fun s t hs ht => ⟨fun _ => True.intro, fun _ => ?_⟩, fun x hx => ?_, fun v hv => ?_⟩
  · show (List.replicate c.length 0).getD s 0 = (List.replicate c.length 0).getD t 0
    rw [List.getD_eq_getElem?_getD, List.getD_eq_getElem?_getD, List.getElem?_replicate, List.getElem?_replicate, if_pos hs, if_pos ht]
  · rw [(List.mem_replicate.mp hx).2]; omega
  · have : v = 0 := by omega
    subst this
    exact List.mem_replicate.mpr ⟨by have := wf.1; omega, rfl⟩
theorem kd_all {c : Ch} {w : Nat} (wf : WfC c) (ok : okT w c) : ∀ r, ∃ m, Kd c r (kindsF c r) m
  | 0 => ⟨1, kd_zero wf⟩
  | r + 1 => let ⟨_, K⟩ := kd_all wf ok r; ⟨_, kd_next wf ok K⟩
theorem getD_in {l : List Nat} {i : Nat} (h : i < l.length) : l.getD i 0 ∈ l := by
  rw [List.getD_eq_getElem?_getD, List.getElem?_eq_getElem h]
  exact List.getElem_mem h
/-- finer kinds are no fewer; if they are as many, nothing was parted -/
theorem kd_more {c : Ch} {r m m' : Nat} {ks ks' : List Nat} (K : Kd c r ks m) (K' : Kd c (r + 1) ks' m') : m ≤ m' ∧ m' ≤ c.length ∧ (m = m' → ∀ s t, s < c.length → t < c.length → Lk c r s t → Lk c (r + 1) s t) := by
  have at_ : ∀ {l : List Nat} {v : Nat}, v ∈ l → ∃ i, i < l.length ∧ l.getD i 0 = v := fun {l v} h => by
    obtain ⟨i, hi, e⟩ := List.mem_iff_getElem.mp h
    exact ⟨i, hi, by rw [List.getD_eq_getElem?_getD, List.getElem?_eq_getElem hi]; exact e⟩
  have rho : ∀ v, ∃ i, v < m → i < c.length ∧ ks.getD i 0 = v := fun v => by
    by_cases h : v < m
    · obtain ⟨i, hi, e⟩ := at_ (K.all v h)
      exact ⟨i, fun _ => ⟨by rw [← K.len]; exact hi, e⟩⟩
    · exact ⟨0, fun z => absurd z h⟩
  let ρ := fun v => (rho v).choose
  have hρ : ∀ v, v < m → ρ v < c.length ∧ ks.getD (ρ v) 0 = v := fun v => (rho v).choose_spec
  have nd : ((List.range m).map fun v => ks'.getD (ρ v) 0).Nodup := by
    refine List.pairwise_map.mpr (List.Pairwise.imp_of_mem (fun {a b} ha hb hne e => hne ?_) List.nodup_range)
    have h1 := hρ a (List.mem_range.mp ha)
    have h2 := hρ b (List.mem_range.mp hb)
    have l := (K'.eq _ _ h1.1 h2.1).mp e
    have := (K.eq _ _ h1.1 h2.1).mpr l.less
    rw [h1.2, h2.2] at this
    exact this
  have lt' : ∀ x ∈ ((List.range m).map fun v => ks'.getD (ρ v) 0), x < m' := fun x hx => by
    obtain ⟨v, hv, rfl⟩ := List.mem_map.mp hx
    exact K'.lt _ (getD_in (by rw [K'.len]; exact (hρ v (List.mem_range.mp hv)).1))
  have le := nodup_len nd lt'
  rw [List.length_map, List.length_range] at le
  refine ⟨le, ?_, fun e s t hs ht l => ?_⟩
  · have rho' : ∀ v, ∃ i, v < m' → i < c.length ∧ ks'.getD i 0 = v := fun v => by
      by_cases h : v < m'
      · obtain ⟨i, hi, e⟩ := at_ (K'.all v h)
        exact ⟨i, fun _ => ⟨by rw [← K'.len]; exact hi, e⟩⟩
      · exact ⟨0, fun z => absurd z h⟩
    have nd2 : ((List.range m').map fun v => (rho' v).choose).Nodup := by
      refine List.pairwise_map.mpr (List.Pairwise.imp_of_mem (fun {a b} ha hb hne e => hne ?_) List.nodup_range)
      have h1 := (rho' a).choose_spec (List.mem_range.mp ha)
      have h2 := (rho' b).choose_spec (List.mem_range.mp hb)
      rw [← h1.2, ← h2.2, e]
    have := nodup_len nd2 (n := c.length) fun x hx => by
      obtain ⟨v, hv, rfl⟩ := List.mem_map.mp hx
      exact ((rho' v).choose_spec (List.mem_range.mp hv)).1
    rwa [List.length_map, List.length_range] at this
  · subst e
    have full : ∀ x, x < m → x ∈ ((List.range m).map fun v => ks'.getD (ρ v) 0) := fun x hx => by
      refine Classical.byContradiction fun q => ?_
      have := nodup_len (List.nodup_cons.mpr ⟨q, nd⟩) (n := m) fun y hy => by
        rcases List.mem_cons.mp hy with rfl | hy
        · exact hx
        · exact lt' y hy
      rw [List.length_cons, List.length_map, List.length_range] at this
      omega
    have one : ∀ u, u < c.length → ks'.getD u 0 = ks'.getD (ρ (ks.getD u 0)) 0 := fun u hu => by
      obtain ⟨v, hv, e⟩ := List.mem_map.mp (full _ (K'.lt _ (getD_in (by rw [K'.len]; exact hu))))
      have hv := List.mem_range.mp hv
      have h1 := hρ v hv
      have l := (K'.eq _ _ h1.1 hu).mp e
      have := (K.eq _ _ h1.1 hu).mpr l.less
      rw [h1.2] at this
      rw [← this]
      exact e.symm
    refine (K'.eq s t hs ht).mp ?_
    rw [one s hs, one t ht, (K.eq s t hs ht).mpr l]
/-- as deep as there are states is deep enough -/
theorem deep {c : Ch} {w : Nat} (wf : WfC c) (ok : okT w c) {s t : Nat} (hs : s < c.length) (ht : t < c.length) (h : Lk c c.length s t) : Lw c s t := by
  refine Classical.byContradiction fun no => ?_
  have un : ∀ r, r ≤ c.length → ¬ ∀ s t, s < c.length → t < c.length → Lk c r s t → Lk c (r + 1) s t := fun r hr z => by
    refine no (stable wf z hs ht ?_)
    obtain ⟨j, hj⟩ := Nat.le.dest hr
    rw [← hj] at h
    exact h.mono j
  have grow : ∀ r, r ≤ c.length → ∃ m, Kd c r (kindsF c r) m ∧ r + 1 ≤ m := by
    intro r
    induction r with
    | zero => exact fun _ => ⟨1, kd_zero wf, Nat.le_refl _⟩
    | succ r ih =>
      intro hr
      obtain ⟨m, K, hm⟩ := ih (by omega)
      have K' := kd_next wf ok K
      obtain ⟨a, b, d⟩ := kd_more K K'
      refine ⟨_, K', ?_⟩
      have : m ≠ (nubs (c.map (mk (kindsF c r)))).length := fun e => un r (by omega) (d e)
      omega
  obtain ⟨m, K, hm⟩ := grow c.length (Nat.le_refl _)
  have K' := kd_next wf ok K
  obtain ⟨a, b, _⟩ := kd_more K K'
  omega
/-! ### a state for each kind -/
open Classical in
noncomputable def rep (c : Ch) (s : Nat) : Nat := ((List.range c.length).find? fun t => decide (Lw c s t)).getD 0
open Classical in
theorem rep_ok {c : Ch} {s : Nat} (h : s < c.length) : rep c s < c.length ∧ Lw c s (rep c s) ∧ ∀ t, t < rep c s → ¬ Lw c s t := by
  unfold rep
  cases e : (List.range c.length).find? fun t => decide (Lw c s t) with
  | none =>
    have := List.find?_eq_none.mp e s (List.mem_range.mpr h)
    exact absurd (Lw.refl c s) (by simpa using this)
  | some t =>
    have h1 := List.find?_some e
    have h2 := List.mem_of_find?_eq_some e
    refine ⟨List.mem_range.mp h2, by simpa using h1, fun u hu l => ?_⟩
    obtain ⟨_, as, bs, e1, e2⟩ := List.find?_eq_some_iff_append.mp e
    have hu : u < t := hu
    have : u ∈ as := by
      have hm : u ∈ List.range c.length := List.mem_range.mpr (by have := List.mem_range.mp h2; omega)
      rw [e1] at hm
      rcases List.mem_append.mp hm with q | q
      · exact q
      · exfalso
        have pw : (as ++ t :: bs).Pairwise (· < ·) := e1 ▸ List.pairwise_lt_range
        rcases List.mem_cons.mp q with q | q
        · omega
        · have := (List.pairwise_cons.mp (List.pairwise_append.mp pw).2.1).1 u q
          omega
    have := e2 u this
    simp at this
    exact this l
theorem rep_eq {c : Ch} {s t : Nat} (hs : s < c.length) (ht : t < c.length) : rep c s = rep c t ↔ Lw c s t := by
  obtain ⟨a1, a2, a3⟩ := rep_ok hs
  obtain ⟨b1, b2, b3⟩ := rep_ok ht
  constructor
  · intro e
    rw [e] at a2
    exact a2.trans b2.symm
  · intro l
    rcases Nat.lt_trichotomy (rep c s) (rep c t) with q | q | q
    · exact absurd (l.symm.trans a2) (b3 _ q)
    · exact q
    · exact absurd (l.trans b2) (a3 _ q)
theorem rep_rep {c : Ch} {s : Nat} (hs : s < c.length) : rep c (rep c s) = rep c s := (rep_eq (rep_ok hs).1 hs).mpr (rep_ok hs).2.1.symm
theorem rep_zero {c : Ch} (h : 0 < c.length) : rep c 0 = 0 := by
  have := (rep_ok h).2.2 0
  by_cases q : rep c 0 = 0
  · exact q
  · exact absurd (Lw.refl c 0) (this (by omega))
noncomputable def quoR (c : Ch) (r : List (Str × Nat)) : List (Str × Nat) := r.map fun e => (e.1, rep c e.2)
noncomputable def quo (c : Ch) : Ch := c.map (quoR c)
noncomputable def chart (c : Ch) : Ch := keptF (quo c)
theorem quo_row {c : Ch} {s : Nat} (h : s < c.length) : rowC (quo c) s = quoR c (rowC c s) := by
  unfold rowC quo
  rw [List.getD_eq_getElem?_getD, List.getD_eq_getElem?_getD, List.getElem?_map, List.getElem?_eq_getElem h]; rfl
theorem quo_wf {c : Ch} (w : WfC c) : WfC (quo c) := by
  refine ⟨by unfold quo; rw [List.length_map]; exact w.1, fun r hr e he => ?_⟩
  obtain ⟨r', hr', rfl⟩ := List.mem_map.mp hr
  obtain ⟨e', he', rfl⟩ := List.mem_map.mp he
  unfold quo
  rw [List.length_map]
  exact (rep_ok (w.2 r' hr' e' he')).1
theorem quoR_keys (c : Ch) (r : List (Str × Nat)) : keysR (quoR c r) = keysR r := by
  unfold keysR quoR
  rw [List.map_map]; rfl
theorem lkp_quo (c : Ch) (z : Str) : ∀ r : List (Str × Nat), lkp (quoR c r) z = (lkp r z).map (rep c)
  | [] => rfl
  | e :: r => by
    show lkp ((e.1, rep c e.2) :: quoR c r) z = _
    rw [lkp_cons, lkp_cons, lkp_quo c z r]
    by_cases h : e.1 = z
    · rw [if_pos h, if_pos h]; rfl
    · rw [if_neg h, if_neg h]
theorem row_ext {r r' : List (Str × Nat)} (nd : (keysR r).Nodup) (h : keysR r = keysR r') (g : ∀ z ∈ keysR r, lkp r z = lkp r' z) : r = r' := by
  have nd' : (keysR r').Nodup := h ▸ nd
  have l : r.length = r'.length := by
    have := congrArg List.length h
    unfold keysR at this
    rwa [List.length_map, List.length_map] at this
  refine List.ext_getElem l fun i h1 h2 => ?_
  have k : r[i].1 = r'[i].1 := by
    have := List.getElem_of_eq h (i := i) (by unfold keysR; rw [List.length_map]; exact h1)
    unfold keysR at this
    rwa [List.getElem_map, List.getElem_map] at this
  have e1 := lkp_at nd (List.getElem_mem h1)
  have e2 := lkp_at nd' (List.getElem_mem h2)
  have := g r[i].1 (List.mem_map_of_mem (f := (·.1)) (List.getElem_mem h1))
  rw [e1, k, e2] at this
  exact Prod.ext k (Option.some.inj this)
/-- like states have one row of the quotient -/
theorem quo_like {c : Ch} {w s t : Nat} (wf : WfC c) (ok : okT w c) (hs : s < c.length) (ht : t < c.length) (l : Lw c s t) : quoR c (rowC c s) = quoR c (rowC c t) := by
  refine row_ext (by rw [quoR_keys]; exact okR_nd (rowOk ok hs).1) (by rw [quoR_keys, quoR_keys]; exact l.keys) fun z hz => ?_
  rw [quoR_keys] at hz
  obtain ⟨a, ha⟩ := lkp_has hz
  obtain ⟨b, hb⟩ := lkp_has (l.keys ▸ hz)
  rw [lkp_quo, lkp_quo, ha, hb]
  show some (rep c a) = some (rep c b)
  rw [(rep_eq (lkp_lt wf ha) (lkp_lt wf hb)).mpr (l.goal ha hb)]
end K20
end

section
/-! the walk of the program, the chart of a chart, counts -/
namespace K20
open PySem
noncomputable def addP (c : Ch) (o : List Nat) (g : Nat) : List Nat := open Classical in if rep c g ∈ o.map (rep c) then o else o ++ [g]
noncomputable def addPs (c : Ch) (o : List Nat) (r : List (Str × Nat)) : List Nat := r.foldl (fun o e => addP c o e.2) o
theorem addP_map (c : Ch) (o : List Nat) (g : Nat) : (addP c o g).map (rep c) = addN (o.map (rep c)) (rep c g) := by
  unfold addP addN
  by_cases h : rep c g ∈ o.map (rep c)
  · rw [if_pos h, if_pos h]
  · rw [if_neg h, if_neg h, List.map_append]; rfl
theorem addPs_map (c : Ch) : ∀ (r : List (Str × Nat)) (o : List Nat), (addPs c o r).map (rep c) = addAll (o.map (rep c)) (quoR c r)
  | [], o => rfl
  | e :: r, o => by
    show (addPs c (addP c o e.2) r).map (rep c) = addAll (addN (o.map (rep c)) (rep c e.2)) (quoR c r)
    rw [addPs_map c r, addP_map]
theorem addP_lt {c : Ch} {o : List Nat} {g : Nat} (ho : ∀ x ∈ o, x < c.length) (hg : g < c.length) : ∀ x ∈ addP c o g, x < c.length := fun x hx => by
  unfold addP at hx
  split at hx
  · exact ho x hx
  · rcases List.mem_append.mp hx with h | h
    · exact ho x h
    · rw [List.mem_singleton.mp h]; exact hg
/-! ### the chart -/
theorem chart_len (c : Ch) : (chart c).length = (reached (quo c)).length := keptF_length _
theorem quo_len (c : Ch) : (quo c).length = c.length := List.length_map ..
theorem chart_wf {c : Ch} (w : WfC c) : WfC (chart c) := keptF_wf (quo_wf w)
theorem reached_lt {c : Ch} (w : WfC c) {x : Nat} (h : x ∈ reached (quo c)) : x < c.length := by
  have := (reached_ok (quo_wf w)).2.1 x h
  rwa [quo_len] at this
/-- what stands in the walk are first ones of their kinds -/
theorem reached_rep {c : Ch} (w : WfC c) : ∀ x ∈ reached (quo c), rep c x = x := by
  have key : ∀ (f a : Nat) (o : List Nat), (∀ x ∈ o, rep c x = x ∧ x < c.length) → ∀ x ∈ goR (quo c) f a o, rep c x = x ∧ x < c.length := by
    intro f
    induction f with
    | zero => exact fun a o h => h
    | succ f ih =>
      intro a o h
      unfold goR
      cases e : o[a]? with
      | none => exact h
      | some i =>
        refine ih (a + 1) _ fun x hx => ?_
        rcases mem_addAll.mp hx with q | ⟨e', he, rfl⟩
        · exact h x q
        · have hi := (h i (List.mem_of_getElem? e)).2
          rw [quo_row hi] at he
          obtain ⟨e2, h2, rfl⟩ := List.mem_map.mp he
          have l := rowC_lt w h2
          exact ⟨rep_rep l, (rep_ok l).1⟩
  intro x hx
  exact (key _ _ _ (fun x hx => by rw [List.mem_singleton.mp hx]; exact ⟨rep_zero w.1, w.1⟩) x hx).1
theorem chart_row {c : Ch} (w : WfC c) {k : Nat} (h : k < (chart c).length) : ∃ i, (reached (quo c))[k]? = some i ∧ i < c.length ∧ rowC (chart c) k = (rowC c i).map fun e => (e.1, (reached (quo c)).idxOf (rep c e.2)) := by
  rw [chart_len] at h
  have hm := List.getElem_mem h
  refine ⟨_, List.getElem?_eq_getElem h, reached_lt w hm, ?_⟩
  show rowC (keptF (quo c)) k = _
  rw [keptF_row h, quo_row (reached_lt w hm)]
  unfold quoR
  rw [List.map_map]; rfl
theorem keys_map {r : List (Str × Nat)} {f : Str × Nat → Nat} : keysR (r.map fun e => (e.1, f e)) = keysR r := by
  unfold keysR
  rw [List.map_map]; rfl
theorem okR_keys {w : Nat} {r r' : List (Str × Nat)} (h : okR w r) (e : keysR r = keysR r') : okR w r' := by
  unfold okR at *
  rw [← e]
  exact h
theorem chart_ok {c : Ch} {w : Nat} (wf : WfC c) (ok : okT w c) : okT w (chart c) := fun r hr => by
  obtain ⟨k, hk, e⟩ := List.mem_iff_getElem.mp hr
  obtain ⟨i, h1, h2, h3⟩ := chart_row wf hk
  have : r = rowC (chart c) k := by
    unfold rowC
    rw [List.getD_eq_getElem?_getD, List.getElem?_eq_getElem hk, ← e]; rfl
  rw [this, h3]
  refine ⟨okR_keys (rowOk ok h2).1 keys_map.symm, fun z => (rowOk ok h2).2 ?_⟩
  exact List.map_eq_nil_iff.mp z
theorem lkp_map (z : Str) (f : Nat → Nat) : ∀ r : List (Str × Nat), lkp (r.map fun e => (e.1, f e.2)) z = (lkp r z).map f
  | [] => rfl
  | e :: r => by
    show lkp ((e.1, f e.2) :: (r.map fun e => (e.1, f e.2))) z = _
    rw [lkp_cons, lkp_cons, lkp_map z f r]
    by_cases h : e.1 = z
    · rw [if_pos h, if_pos h]; rfl
    · rw [if_neg h, if_neg h]
theorem reached_closed {c : Ch} (w : WfC c) {i a : Nat} {z : Str} (h : i ∈ reached (quo c)) (e : lkp (rowC c i) z = some a) : rep c a ∈ reached (quo c) := by
  refine (reached_ok (quo_wf w)).2.2.1 i h (z, rep c a) ?_
  rw [quo_row (reached_lt w h)]
  exact List.mem_map.mpr ⟨(z, a), lkp_mem e, rfl⟩
theorem chart_like {c : Ch} (w : WfC c) {k l : Nat} (hk : k < (chart c).length) (hl : l < (chart c).length) (h : Lw (chart c) k l) : k = l := by
  have key : ∀ (m k l i j : Nat), k < (chart c).length → l < (chart c).length → (reached (quo c))[k]? = some i → (reached (quo c))[l]? = some j → Lk (chart c) m k l → Lk c m i j := by
    intro m
    induction m with
    | zero => exact fun _ _ _ _ _ _ _ _ _ => True.intro
    | succ m ih =>
      rintro k l i j hk hl ei ej ⟨g1, g2⟩
      obtain ⟨i', e1, i1, r1⟩ := chart_row w hk
      obtain ⟨j', e2, j1, r2⟩ := chart_row w hl
      rw [ei] at e1; cases e1
      rw [ej] at e2; cases e2
      rw [r1, r2] at g1 g2
      rw [keys_map (f := fun e => (reached (quo c)).idxOf (rep c e.2)), keys_map (f := fun e => (reached (quo c)).idxOf (rep c e.2))] at g1
      refine ⟨g1, fun z a b ha hb => ?_⟩
      have ma := reached_closed w (List.mem_of_getElem? ei) ha
      have mb := reached_closed w (List.mem_of_getElem? ej) hb
      have la := List.idxOf_lt_length_of_mem ma
      have lb := List.idxOf_lt_length_of_mem mb
      have L := ih _ _ (rep c a) (rep c b) (by rw [chart_len]; exact la) (by rw [chart_len]; exact lb) (by rw [List.getElem?_eq_getElem la, List.getElem_idxOf]) (by rw [List.getElem?_eq_getElem lb, List.getElem_idxOf])
        (g2 z _ _ (by rw [lkp_map z (fun g => (reached (quo c)).idxOf (rep c g)), ha]; rfl) (by rw [lkp_map z (fun g => (reached (quo c)).idxOf (rep c g)), hb]; rfl))
      exact (((rep_ok (lkp_lt w ha)).2.1 m).trans L).trans ((rep_ok (lkp_lt w hb)).2.1 m).symm
  obtain ⟨i, ei, i1, _⟩ := chart_row w hk
  obtain ⟨j, ej, j1, _⟩ := chart_row w hl
  have L : Lw c i j := fun m => key m k l i j hk hl ei ej (h m)
  have e := (rep_eq i1 j1).mpr L
  rw [reached_rep w i (List.mem_of_getElem? ei), reached_rep w j (List.mem_of_getElem? ej)] at e
  subst e
  obtain ⟨a1, a2⟩ := List.getElem?_eq_some_iff.mp ei
  obtain ⟨b1, b2⟩ := List.getElem?_eq_some_iff.mp ej
  exact (List.getElem_inj (h₀ := a1) (h₁ := b1) (reached_ok (quo_wf w)).1).mp (a2.trans b2.symm)
theorem chart_quo {c : Ch} (w : WfC c) : quo (chart c) = chart c := by
  have wc := chart_wf w
  unfold quo
  refine (List.map_congr_left fun r hr => ?_).trans (List.map_id _)
  unfold quoR
  refine (List.map_congr_left fun e he => ?_).trans (List.map_id _)
  have l := wc.2 r hr e he
  have := chart_like w (rep_ok l).1 l (rep_ok l).2.1.symm
  show (e.1, rep (chart c) e.2) = e
  rw [this]
theorem chart_chart {c : Ch} (w : WfC c) : chart (chart c) = chart c := by
  show keptF (quo (chart c)) = _
  rw [chart_quo w]
  exact kept_kept (quo_wf w)
theorem chart_le {c : Ch} (w : WfC c) : (chart c).length ≤ c.length := by
  rw [chart_len]
  exact nodup_len (reached_ok (quo_wf w)).1 fun x hx => reached_lt w hx
/-! ### counts -/
def cnt (c : Ch) : Nat → Nat → Nat
  | 0, _ => 1
  | k + 1, s => ((rowC c s).map fun e => cnt c k e.2).sum
theorem sum_filter (p : Str → Bool) (f : Str → Nat) : ∀ l : List Str, ((l.filter p).map f).sum = (l.map fun z => if p z = true then f z else 0).sum
  | [] => rfl
  | z :: l => by
    rw [List.filter_cons, List.map_cons, List.sum_cons, ← sum_filter p f l]
    by_cases h : p z = true
    · rw [if_pos h, if_pos h, List.map_cons, List.sum_cons]
    · rw [if_neg h, if_neg h, Nat.zero_add]
def atO (f : Nat → Nat) : Option Nat → Nat
  | some g => f g
  | none => 0
theorem sum_row {w : Nat} {r : List (Str × Nat)} (ok : okR w r) (f : Nat → Nat) : ((sgs.take w).map fun z => atO f (lkp r z)).sum = (r.map fun e => f e.2).sum := by
  have e1 : (r.map fun e => f e.2) = (keysR r).map fun z => atO f (lkp r z) := by
    unfold keysR
    rw [List.map_map]
    refine List.map_congr_left fun e he => ?_
    show f e.2 = atO f (lkp r e.1)
    rw [lkp_at (okR_nd ok) he]; rfl
  rw [e1, show keysR r = (sgs.take w).filter _ from ok, sum_filter]
  congr 1
  refine List.map_congr_left fun z hz => ?_
  by_cases h : z ∈ keysR r
  · rw [decide_eq_true h, if_pos rfl]
  · rw [decide_eq_false h, lkp_none h]; rfl
theorem cnt_le (c : Ch) {w : Nat} (wf : WfC c) (ok : okT w c) : ∀ k s, s < c.length → cnt c k s ≤ 4 ^ k
  | 0, _, _ => Nat.le_refl _
  | k + 1, s, hs => by
    have key : ∀ r : List (Str × Nat), (∀ e ∈ r, e.2 < c.length) → (r.map fun e => cnt c k e.2).sum ≤ r.length * 4 ^ k := by
      intro r
      induction r with
      | nil => intro _; simp
      | cons e r ih =>
        intro h
        rw [List.map_cons, List.sum_cons, List.length_cons, Nat.add_mul, Nat.one_mul]
        have := ih fun e' h' => h e' (List.mem_cons_of_mem _ h')
        have := cnt_le c wf ok k e.2 (h e List.mem_cons_self)
        omega
    have h1 := key (rowC c s) fun e he => rowC_lt wf he
    have h2 : (rowC c s).length ≤ 4 := by
      have := congrArg List.length (show keysR (rowC c s) = _ from (rowOk ok hs).1)
      unfold keysR at this
      rw [List.length_map] at this
      rw [this]
      refine Nat.le_trans (List.length_filter_le ..) ?_
      rw [List.length_take]
      exact Nat.le_trans (Nat.min_le_right ..) (Nat.le_refl 4)
    show ((rowC c s).map fun e => cnt c k e.2).sum ≤ _
    rw [Nat.pow_succ, Nat.mul_comm]
    exact Nat.le_trans h1 (Nat.mul_le_mul_right _ h2)
end K20
end

section
set_option maxHeartbeats 4000000
/-! shared rules; tables in the heap -/
namespace K20
open PySem PySem.Spec PyProof.Rows L2
section
variable {X : Cx} {K : PySem.W.Frag}
theorem ps_never {st : Stmt} : PS X st (fun _ _ _ => False) := ⟨fun _ _ _ _ _ _ h => h.elim⟩
theorem ix_listK (e : X.K = K) : IxR X (rIxL K) := by
  subst e
  exact ix_list
theorem pi_listK {tg l : Expr} {tl : TE} (e : X.K = K) (hl : PE X l tl) : PI X tg l (iList K tl) := by
  subst e
  exact pi_list hl
theorem pg_tupK {es : List Expr} {k : Nat} {t : TGs} {n : Nat} {pos : Pos} (e : X.K = K) (hc : X.calm = true) (h : PGs X es t)
    (hn : (assignEach es X.env).length = n := by rfl) (hst : (assignEach es X.env).findIdx? (·.1) = none := by rfl) : PG X (.Tuple es k pos) (gTup K n t) := by
  subst e
  exact pg_tup hc h hn hst
end
section
variable {X : Cx} {K : PySem.W.Frag}
theorem call_tuple_ofK (e : X.K = K) : CallR X (.type "tuple") (fun xs H Q => ∃ p ys, xs = [.ref p] ∧ ((SqL K H p ys ∧ ∀ l, H l = none → Q (.ref l) (upd H l (.tup ys))) ∨ (SqT K H p ys ∧ Q (.ref p) H))) := by
  subst e
  exact call_tuple_of
theorem pi_tupK {tg l : Expr} {tl : TE} (e : X.K = K) (hl : PE X l tl) : PI X tg l (iTup K tl) := by
  subst e
  exact pi_tup hl
theorem ix_tupK (e : X.K = K) : IxR X (rIxT K) := by
  subst e
  exact ix_tup
theorem cr_allK (e : X.K = K) (hc : X.calm = true := by rfl) : CallR X (.builtin "all") (rAll K) := by
  subst e
  exact cr_all hc
theorem cr_anyK (e : X.K = K) (hc : X.calm = true := by rfl) : CallR X (.builtin "any") (rAny K) := by
  subst e
  exact cr_any hc
theorem cr_sumK (e : X.K = K) (hc : X.calm = true := by rfl) : CallR X (.builtin "sum") (rSum K) := by
  subst e
  exact cr_sum hc
theorem cr_maxK (e : X.K = K) (hc : X.calm = true := by rfl) : CallR X (.builtin "max") (rMax K) := by
  subst e
  exact cr_max hc
theorem cr_minK (e : X.K = K) (hc : X.calm = true := by rfl) : CallR X (.builtin "min") (rMin K) := by
  subst e
  exact cr_min hc
end
theorem Dx.list {H : Hp} {v : V} {ds : List PyData} (h : Dx H v (.list ds)) : ∃ a vs, v = .ref a ∧ H a = some (.lst vs) ∧ DxAll H vs ds := by
  cases h with
  | lst e h => exact ⟨_, _, rfl, e, h⟩
theorem DxAll.at_ {H : Hp} : ∀ {vs : List V} {ds : List PyData} {i : Nat} {d : PyData}, DxAll H vs ds → ds[i]? = some d → ∃ v, vs[i]? = some v ∧ Dx H v d
  | _, _, _, _, .nil, h => by cases h
  | _, _, 0, _, .cons a b, h => by cases h; exact ⟨_, rfl, a⟩
  | _, _, i + 1, _, .cons a b, h => DxAll.at_ b (i := i) (by simpa using h)
theorem DxAll.from_ {H : Hp} : ∀ {vs : List V} {ds : List PyData} {i : Nat} {v : V}, DxAll H vs ds → vs[i]? = some v → ∃ d, ds[i]? = some d ∧ Dx H v d
  | _, _, _, _, .nil, h => by cases h
  | _, _, 0, _, .cons a b, h => by cases h; exact ⟨_, rfl, a⟩
  | _, _, i + 1, _, .cons a b, h => DxAll.from_ b (i := i) (by simpa using h)
def placesK (k : Nat) (o : List Nat) : List (Key × V) := (o.zipIdx k).map fun p => ((.inl (p.1 : Int) : Key), V.int (p.2 : Int))
theorem places_val : ∀ (o : List Nat) (k t : Nat), valV (placesK k o) (.inl (t : Int)) = if t ∈ o then some (.int ((k + o.idxOf t : Nat) : Int)) else none
  | [], k, t => by simp [placesK, valV]
  | x :: o, k, t => by
    have e : placesK k (x :: o) = ((.inl (x : Int) : Key), V.int (k : Int)) :: placesK (k + 1) o := rfl
    have ih := places_val o (k + 1) t
    unfold valV at ih ⊢
    rw [e]
    by_cases h : x = t
    · subst h
      simp
    · have ne : ¬ ((.inl (x : Int) : Key) = .inl (t : Int)) := fun z => h (by have := Sum.inl.inj z; omega)
      rw [List.find?_cons_of_neg (by simpa using ne), ih]
      have hb : (x == t) = false := beq_eq_false_iff_ne.mpr h
      rw [List.idxOf_cons, hb]
      simp only [cond_false, List.mem_cons]
      by_cases m : t ∈ o
      · rw [if_pos m, if_pos (.inr m), show k + 1 + o.idxOf t = k + (o.idxOf t + 1) by omega]
      · rw [if_neg m, if_neg (by rintro (z | z); exact h z.symm; exact m z)]
theorem placesK_len (k : Nat) (o : List Nat) : (placesK k o).length = o.length := by unfold placesK; rw [List.length_map, List.length_zipIdx]
theorem places_put {o : List Nat} {t : Nat} (h : t ∉ o) : putK (placesK 0 o) (.inl (t : Int)) (.int ((o.map fun (t : Nat) => V.int (t : Int)).length : Nat)) = placesK 0 (o ++ [t]) := by
  have no : ((placesK 0 o).any fun kv => decide (kv.1 = (.inl (t : Int) : Key))) = false := by
    have := places_val o 0 t
    rw [if_neg h] at this
    unfold valV at this
    cases e : (placesK 0 o).find? fun kv => decide (kv.1 = (.inl (t : Int) : Key)) with
    | some z => rw [e] at this; cases this
    | none =>
      rw [List.any_eq_false]
      intro x hx z
      exact List.find?_eq_none.mp e x hx z
  unfold putK
  rw [no]
  unfold placesK
  rw [List.zipIdx_append, List.map_append, List.length_map]
  simp
def intsV (o : List Nat) : List V := o.map fun (t : Nat) => V.int (t : Int)
theorem dxAll_of {H : Hp} : ∀ {vs : List V} {ds : List PyData}, vs.length = ds.length → (∀ (j : Nat) (v : V), vs[j]? = some v → ∃ d, ds[j]? = some d ∧ Dx H v d) → DxAll H vs ds
  | [], [], _, _ => .nil
  | [], _ :: _, h, _ => by cases h
  | _ :: _, [], h, _ => by cases h
  | v :: vs, d :: ds, h, k => by
    obtain ⟨d', e, x⟩ := k 0 v rfl
    cases e
    exact .cons x (dxAll_of (by simpa using h) fun j u hu => k (j + 1) u hu)
theorem yes_of {σ : L2.St} {H : Hp} {f : Bool → Hp → Prop} (h : f true H) : tYes σ H f := h
theorem call_lenK {X : Cx} {K : PySem.W.Frag} (e : X.K = K) : CallR X (.builtin "len") (fun xs H Q => ∃ x n, xs = [x] ∧ LenV K x H n ∧ Q (.int n) H) := by
  subst e
  exact call_len
abbrev FunV (K : PySem.W.Frag) (x qual : Str) (st : Stmt) (dvs : List V) (f : Addr) (fd : FuncData) : Prop := FunD K x qual (defArgs st) (defBody st) (defScope st) dvs [] f fd
theorem FunV.okV {P : Program} {w : World} {K : PySem.W.Frag} {mg : Str → Option Value} {base : Heap} {x qual : Str} {st : Stmt} {dvs : List V} {f : Addr} {fd : FuncData} {N ps : List Str} {k : Nat} {sp : Sp} (F : FunV K x qual st dvs f fd) (S : FnScope N ps (defScope st)) (len : ∀ vs H Q E, sp vs H Q E → vs.length = ps.length)
    (hbody : ∀ (cdv : Value) (A : Around) (outer : List Env) (s : Shared) (H : Hp) (vs : List V) (Q : VK) (E : XK), Room k (A.deeper (envOfC qual (defScope st) s.heap.objs.size f cdv)) → sp vs H Q E →
      ∃ t, PSs (cxOf CX0 P w K mg base N qual (defScope st) f cdv A outer s H E).nox (defBody st) t ∧ t { nx := fun _ H' => Q .non H', rt := Q } (L2.start N vs) H) : FnOk P w K mg base CX0 (k + 1) f fd ps sp :=
  F.ok S len fun cdv A outer s H vs Q E hr hs => let ⟨t, h, q⟩ := hbody cdv A outer s H vs Q E hr hs; ⟨t, h.nox, q⟩
theorem cmpBack {X : Cx} {pins : List (Addr × Obj)} {σ : L2.St} {Q : VK} {u : Value} {s : Shared} (h : EP X pins σ Q u s) : PySem.W.CmpBack (EP X pins σ Q) u s := by
  obtain ⟨v, H', I, r, q⟩ := id h
  cases u <;> first | exact h | skip
  cases v with
  | int i => obtain ⟨t, e⟩ := r; cases e
  | str i => obtain ⟨t, e⟩ := r; cases e
  | byt i => obtain ⟨t, e⟩ := r; cases e
  | flt i => obtain ⟨t, e⟩ := r; cases e
  | _ => cases r
section
variable {X : Cx} {CX : CXT} {k : Nat} {f C g : Addr} {fd : FuncData} {ps : List Str} {sp : Sp} {E : XK} {A : Around} {pins : List (Addr × Obj)} {σ : L2.St} {H : Hp} {s : Shared} {Q : VK} {us : List Value} {vs : List V}
theorem run_at (F : FnOk X.prog X.w X.K X.mg X.base CX k f fd ps sp) (hr : Room k A) (hA : A.frames = X.A.frames) (hb : Binds X.K fd ps []) (hx : Passes CX X E) (I : Inv X pins σ H s) (r : Vals vs us) (h : sp vs H Q E) :
    wpAny (model X.prog X.w) A (call (.ref f) us) (EP X pins σ Q) X.xe s := by
  have hl : us.length = ps.length := r.length.symm.trans (F.len _ _ _ _ h)
  have hb' := hb s us I.kIn (by rw [List.append_nil]; exact hl)
  rw [List.append_nil] at hb'
  have e := I.env0
  have e0 : Env0 X.prog X.w X.K X.mg X.base A X.stack s H := ⟨by rw [hA]; exact e.frames, e.mod, e.bs, e.bsz, e.funs, e.frf, e.hok, e.bare⟩
  refine wpAny_call (codeAny_mono (F.run A X.stack s H ⟨us, []⟩ us vs Q E hr e0 hb' r h) fun res s' hq => ?_)
  match res, hq with
  | .error e, hq => exact hx pins σ H s e s' I hq
  | .ok (.ret u), hq => exact I.after hq
theorem looks_ty {x : V} {u t : Value} (I : Inv X pins σ H s) (rx : RelV x u) (ty : TyX X.K H x t) : PySem.W.Looks (model X.prog X.w) s.heap (typeOf u) t := by
  obtain ⟨P, k, hp, _⟩ := kit_of I rx ty
  exact k.ty _ _ I.kIn hp
theorem ins_inst {a dx : Addr} {fs : List (Str × V)} (I : Inv X pins σ H s) (e : H a = some (.ins C dx fs)) : ∃ od, PySem.W.InstAt s.heap a (PySem.W.instObj C dx) C (some od) := by
  obtain ⟨mA, O, _⟩ := ins_get I.hok e
  obtain ⟨od, J, _⟩ := O.look
  exact ⟨od, J⟩
/-- x == y, x an instance with == of its own -/
def rOwnE (K : PySem.W.Frag) (C : Addr) (sp : Sp) : R2 := fun x y H Q => ∃ a dx fs t, x = .ref a ∧ H a = some (.ins C dx fs) ∧ TyX K H y t ∧ PySem.W.notFirst K C t = true ∧ sp [x, y] H Q E0
theorem op_eqO (F : FnOk X.prog X.w X.K X.mg X.base CX0 k f fd ps sp) (hr : Room k X.A) (hb : Binds X.K fd ps []) (hs : PySem.W.findIn X.K (.ref C) "__eq__" = some (some (.ref f))) (hf : PySem.W.isFn X.K (.ref f) = true) : OpR X (compareOp .Eq) (rOwnE X.K C sp) := by
  intro pins s σ H x y v u Q I rx ry h
  obtain ⟨a, dx, fs, t, rfl, ha, ty, nf, q⟩ := h
  obtain rfl : v = Value.ref a := rx
  obtain ⟨od, J⟩ := ins_inst I ha
  obtain ⟨m, hF⟩ := I.fr
  exact PySem.W.cmp_K (op := .Eq) hr.units0 hF I.ok.mod.kin J (looks_ty I ry ty) nf hs hf (wpAny_mono (run_at F hr rfl hb pass0 I (.cons (show RelV (.ref a) (.ref a) from rfl) (.cons ry .nil)) q) (fun _ _ z => cmpBack z) fun _ _ z => z)
end
section
variable {X : Cx} {k : Nat} {f C : Addr} {fd : FuncData} {ps : List Str} {sp : Sp}
/-- len(x), x an instance with a length of its own -/
def rOwnI (C : Addr) (sp : Sp) : List V → Hp → VK → Prop := fun xs H Q => ∃ a dx fs, xs = [.ref a] ∧ H a = some (.ins C dx fs) ∧ sp [.ref a] H (fun v H' => ∃ n : Int, v = .int n ∧ (0 ≤ n ∧ n < 2 ^ 63) ∧ Q (.int n) H') E0
theorem call_lenO (F : FnOk X.prog X.w X.K X.mg X.base CX0 k f fd ps sp) (hr : Room (k + 1) X.A) (hb : Binds X.K fd ps []) (hs : PySem.W.findIn X.K (.ref C) "__len__" = some (some (.ref f))) (hf : PySem.W.isFn X.K (.ref f) = true) : CallR X (.builtin "len") (rOwnI C sp) := by
  intro pins s σ H xs us Q I r h
  obtain ⟨a, dx, fs, rfl, ha, q⟩ := h
  obtain ⟨u, rfl, ru⟩ := vals1 r
  obtain rfl : u = Value.ref a := ru
  obtain ⟨od, J⟩ := ins_inst I ha
  obtain ⟨m, hF⟩ := I.fr
  refine PySem.W.len_K hF I.ok.mod.kin J hs hf (wpAny_mono (run_at F hr.in1 rfl hb pass0 I (.cons (show RelV (.ref a) (.ref a) from rfl) .nil) q) (fun r s' z => ?_) fun _ _ z => z)
  obtain ⟨v', H', I', rv, n, rfl, hn, q'⟩ := z
  obtain ⟨t, rfl⟩ := rv
  exact ⟨hn, ⟨.int n, H', I'.tok _, ⟨_, rfl⟩, q'⟩⟩
end
theorem dec_nat {a b : Nat} : decide (V.int (a : Int) = V.int (b : Int)) = decide (a = b) := by
  rw [Bool.eq_iff_iff, decide_eq_true_iff, decide_eq_true_iff]
  constructor
  · intro h
    exact Int.ofNat.inj (V.int.inj h)
  · intro h; rw [h]
theorem ifT {b : Bool} {A B : Prop} (h : b = true) (x : A) : if b = true then A else B := by rw [if_pos h]; exact x
theorem ifF {b : Bool} {A B : Prop} (h : b = false) (x : B) : if b = true then A else B := by rw [if_neg (by rw [h]; exact Bool.false_ne_true)]; exact x
theorem tif_of {c : TT} {t u : TS} {D : Ends} {σ : L2.St} {H : Hp} (b : Bool) (hc : ∀ Q : Bool → Hp → Prop, Q b H → c σ H Q) (h : if b = true then t D σ H else u D σ H) : tIfS c t u D σ H := hc _ h
/-- a comprehension that gives f i at the i-th turn -/
theorem lc_map {J : It} {n : Nat} {G : Hp → Prop} {Y : Nat → Hp → V → Hp → Prop} (w : Walk J n G Y) {j : Nat} {te : TE} {vs : List Nat} {σ : L2.St} {H1 : Hp} {D : Addr} {Qd : Hp → Prop} (f : Nat → V) (hn : H1 D = none) (hsz : n ≤ 100000)
    (hG : ∀ i H, i ≤ n → Same H1 H → G H) (hw : ∀ x, wipe ((wipe σ vs).set j (some x)) vs = wipe σ vs)
    (hstep : ∀ i x H H', i < n → Same H1 H → Y i H x H' → Same H H' ∧ ∀ Q : VK, (∀ H2, Same H' H2 → Q (f i) H2) → te ((wipe σ vs).set j (some x)) H' Q)
    (hend : ∀ H', Same H1 H' → H' D = some (.lst ((List.range n).map f)) → Qd H') :
    ∃ W : Nat → Nat → Hp → Prop, (∃ m, W 0 m (upd H1 D (.lst []))) ∧ ∀ i m H, W i m H →
      (J.stop i H ∧ Qd H) ∨ (J.go i H ∧ ∃ Nx : Hp → Prop, (∀ H', Nx H' → ∃ m', m' < m ∧ W (i + 1) m' H') ∧ ∀ x H', J.yld i H x H' → gName j x (wipe σ vs) H' fun σ2 H2 => wipe σ2 vs = wipe σ vs ∧ tYes σ2 H2 fun b H3 =>
        if b = true then te σ2 H3 fun y H4 => ∃ acc, H4 D = some (.lst acc) ∧ acc.length < sizeLine ∧ Nx (upd H4 D (.lst (acc ++ [y]))) else Nx H3) := by
  refine lc_it (w := w) (g := gName j) (tt := tYes) (fun i H' => Same H1 H' ∧ H' D = some (.lst ((List.range i).map f))) ⟨Same.new hn, upd_same⟩ (fun i H hi hP => hG i H hi hP.1) (fun i x H' H2 hi hP hy => ?_) (fun H' hP => hend H' hP.1 hP.2)
  obtain ⟨s, eD⟩ := hP
  obtain ⟨s2, st⟩ := hstep i x H' H2 hi s hy
  refine ⟨hw x, ?_⟩
  show te _ _ _
  refine st _ fun H3 s3 => ⟨_, s3 _ _ (s2 _ _ eD), ?_, ?_, ?_⟩
  · rw [List.length_map, List.length_range, sizeLine_eq]; omega
  · intro c o e
    rw [upd_ne (ne_of_none e hn)]
    exact s3 _ _ (s2 _ _ (s _ _ e))
  · rw [upd_same, List.range_succ, List.map_append]; rfl
theorem range_map {α β : Type} {l : List α} {f : Nat → β} {g : α → β} (h : ∀ (i : Nat) (x : α), l[i]? = some x → f i = g x) : (List.range l.length).map f = l.map g := by
  refine List.ext_getElem (by simp) fun i h1 h2 => ?_
  rw [List.getElem_map, List.getElem_map, List.getElem_range]
  exact h i _ (List.getElem?_eq_getElem _)
/-- a def called by keywords alone -/
structure KB (K : PySem.W.Frag) (fd : FuncData) (ps ks : List Str) (g : List Value → List Value) (gV : List V → List V) : Prop where
  to : ∀ (s : Shared) (ws : List Value), K.In s.heap → (g ws).length = ps.length → BindsTo s fd ⟨[], ks.zip ws⟩ (ps.zip (g ws))
  rel : ∀ {zs : List V} {ws : List Value}, Vals zs ws → Vals (gV zs) (g ws)
theorem Fun.kb {K : PySem.W.Frag} {x qual : Str} {st : Stmt} {f : Addr} {fd : FuncData} {ps ks : List Str} {g : List Value → List Value} {gV : List V → List V} (F : Fun K x qual st f fd) (rel : ∀ {zs : List V} {ws : List Value}, Vals zs ws → Vals (gV zs) (g ws))
    (h : ∀ (kV doc pm : Value) (an : Option Addr) (cdv ct : Value) (ws : List Value), (g ws).length = ps.length → bindArgs (PySem.W.fnOf x qual (defArgs st) (defBody st) (defScope st) .none kV doc pm an cdv ct) ⟨[], ks.zip ws⟩ = pure (ps.zip (g ws))) : KB K fd ps ks g gV := by
  obtain ⟨oc, od, kV, doc, pm, an, cdv, ct, osl, rfl, lk, hcd⟩ := F.ex
  exact ⟨fun s ws _ hl => BindsTo.of_eq (h kV doc pm an cdv ct ws hl), rel⟩
theorem vals_rev {zs : List V} {ws : List Value} (r : Vals zs ws) : Vals zs.reverse ws.reverse := by
  induction r with
  | nil => exact .nil
  | cons a _ ih =>
    rw [List.reverse_cons, List.reverse_cons]
    exact ih.append (.cons a .nil)
section
variable {X : Cx} {CX : CXT} {k : Nat} {f : Addr} {fd : FuncData} {ps ks : List Str} {sp : Sp} {E : L2.St → XK} {x : Str} {p pos : Pos} {kws : List Keyword} {tk : TA} {g : List Value → List Value} {gV : List V → List V}
def tCallKW (sp : Sp) (gV : List V → List V) (E : L2.St → XK) (tk : TA) : TE := fun σ H Q => tk σ H fun zs H1 => sp (gV zs) H1 Q (E σ)
theorem pe_callKWS (F : FnOk X.prog X.w X.K X.mg X.base CX k f fd ps sp) (hr : Room k X.A) (hg : Gl X x) (hm : X.mg x = some (.ref f)) (hk : PySem.W.keepIn X.K (.ref f) = true) (hb : KB X.K fd ps ks g gV) (hx : ∀ σ, PassesAt CX X σ (E σ)) (hkw : PK X kws tk)
    (hall : (backToKw pos (keywordEach kws X.env)).all (·.1.isSome) = true := by rfl) (hks : (backToKw pos (keywordEach kws X.env)).filterMap (·.1) = ks := by rfl) (hdb : (x == ("__debug__" : Str)) = false := by decide)
    (hpl : ((backTo pos (starEach [] X.env)).any (·.1) || (backToKw pos (keywordEach kws X.env)).any (·.1.isNone)) = false := by rfl) : PE X (.Call (.Name x p) [] kws pos) (tCallKW sp gV E tk) := by
  refine ⟨fun pins s σ H Q I h => wpAny_Call_Name_kw (ld_glob I hg hm (PySem.W.callWith_KW0 (h₀ := X.base) I.ok.mod.kin hk hall (thn (hkw.run pos pins s σ H _ I h) fun ws s2 hh => ?_) hpl) hdb)⟩
  obtain ⟨zs, H1, I1, r, q⟩ := hh
  refine ⟨I1.kIn, ?_⟩
  rw [hks]
  have r2 := hb.rel r
  have hl : (g ws).length = ps.length := r2.length.symm.trans (F.len _ _ _ _ q)
  refine wpAny_call (codeAny_mono (F.run X.A X.stack s2 H1 ⟨[], ks.zip ws⟩ (g ws) (gV zs) Q (E σ) hr I1.env0 (hb.to s2 ws I1.kIn hl) r2 q) fun res s' hq => ?_)
  match res, hq with
  | .error e, hq => exact hx σ pins H1 s2 e s' I1 hq
  | .ok (.ret u), hq => exact I1.after hq
theorem pe_callKW (F : FnOk X.prog X.w X.K X.mg X.base CX0 k f fd ps sp) (hr : Room k X.A) (hg : Gl X x) (hm : X.mg x = some (.ref f)) (hk : PySem.W.keepIn X.K (.ref f) = true) (hb : KB X.K fd ps ks g gV) (hkw : PK X kws tk)
    (hall : (backToKw pos (keywordEach kws X.env)).all (·.1.isSome) = true := by rfl) (hks : (backToKw pos (keywordEach kws X.env)).filterMap (·.1) = ks := by rfl) (hdb : (x == ("__debug__" : Str)) = false := by decide)
    (hpl : ((backTo pos (starEach [] X.env)).any (·.1) || (backToKw pos (keywordEach kws X.env)).any (·.1.isNone)) = false := by rfl) : PE X (.Call (.Name x p) [] kws pos) (tCallKW sp gV (fun _ => E0) tk) :=
  pe_callKWS (E := fun _ => E0) F hr hg hm hk hb (fun _ _ _ _ _ _ _ h => h.elim) hkw hall hks hdb hpl
end
theorem gN {i : Nat} {x : V} {σ : L2.St} {H : Hp} {k : L2.St → Hp → Prop} (h : k (σ.set i (some x)) H) : gName i x σ H k := h
theorem seq_set {te : TE} {i : Nat} {S : TS} {D : Ends} {σ : L2.St} {H : Hp} (h : te σ H (fun v H' => S D (σ.set i (some v)) H')) : tSeq (tAsg te (gName i)) S D σ H := h
theorem none_back {H0 H : Hp} (s : Same H0 H) {a : Addr} (e : H a = none) : H0 a = none := by
  cases z : H0 a with
  | none => rfl
  | some u => rw [s _ _ z] at e; cases e
theorem Same.at_ {H0 H : Hp} (s : Same H0 H) {a : Addr} {o : HO} (e : H0 a = none) : Same H0 (upd H a o) := fun b u eb => by rw [upd_ne (ne_of_none eb e)]; exact s b u eb
theorem sz1 {a : V} : [a].length ≤ sizeLine := by rw [sizeLine_eq]; exact (by decide : 1 ≤ 16777216)
theorem sz2 {a b : V} : [a, b].length ≤ sizeLine := by rw [sizeLine_eq]; exact (by decide : 2 ≤ 16777216)
theorem sz4 {a b c d : V} : [a, b, c, d].length ≤ sizeLine := by rw [sizeLine_eq]; exact (by decide : 4 ≤ 16777216)
/-- a target that hands on what is wanted -/
def Mn (t : TGs) : Prop := ∀ (xs : List V) (σ : L2.St) (H : Hp) (A B : L2.St → Hp → Prop), (∀ σ' H', A σ' H' → B σ' H') → t xs σ H A → t xs σ H B
def MnG (g : TG) : Prop := ∀ (x : V) (σ : L2.St) (H : Hp) (A B : L2.St → Hp → Prop), (∀ σ' H', A σ' H' → B σ' H') → g x σ H A → g x σ H B
theorem mn_nil : Mn gNil := fun xs σ H A B h q => ⟨q.1, h _ _ q.2⟩
theorem mn_cons {g : TG} {u : TGs} (hg : MnG g) (hu : Mn u) : Mn (gCons g u) := fun xs σ H A B h q => by
  obtain ⟨v, r, e, q⟩ := q
  exact ⟨v, r, e, hg _ _ _ _ _ (fun σ' H' z => hu _ _ _ _ _ h z) q⟩
theorem mn_name (j : Nat) : MnG (gName j) := fun x σ H A B h q => h _ _ q
theorem mn_tup {K : PySem.W.Frag} {n : Nat} {t : TGs} (ht : Mn t) : MnG (gTup K n t) := fun x σ H A B h q => by
  obtain ⟨a, xs, e1, e2, e3, q⟩ := q
  exact ⟨a, xs, e1, e2, e3, ht _ _ _ _ _ h q⟩
/-- a comprehension: the i-th thing has R i -/
theorem lc_rel {J : It} {n : Nat} {G : Hp → Prop} {Y : Nat → Hp → V → Hp → Prop} (w : Walk J n G Y) {g : TG} {te : TE} {vs : List Nat} {σ : L2.St} {H1 : Hp} {D : Addr} {Qd : Hp → Prop} (R : Nat → V → Hp → Prop) (hn : H1 D = none) (hsz : n ≤ 100000)
    (hG : ∀ i H, i ≤ n → Same H1 H → G H)
    (hR : ∀ i v H H', (∀ b o, b ≠ D → H b = some o → H' b = some o) → R i v H → R i v H')
    (hstep : ∀ i x H H', i < n → Same H1 H → (∃ acc, H D = some (.lst acc)) → Y i H x H' → ∀ Nx : V → Hp → Prop, (∀ v H2, Same H H2 → R i v H2 → Nx v H2) → g x (wipe σ vs) H' fun σ2 H2 => wipe σ2 vs = wipe σ vs ∧ te σ2 H2 Nx)
    (hmono : MnG g)
    (hend : ∀ H' zs, Same H1 H' → H' D = some (.lst zs) → zs.length = n → (∀ i z, zs[i]? = some z → R i z H') → Qd H') :
    ∃ W : Nat → Nat → Hp → Prop, (∃ m, W 0 m (upd H1 D (.lst []))) ∧ ∀ i m H, W i m H →
      (J.stop i H ∧ Qd H) ∨ (J.go i H ∧ ∃ Nx : Hp → Prop, (∀ H', Nx H' → ∃ m', m' < m ∧ W (i + 1) m' H') ∧ ∀ x H', J.yld i H x H' → g x (wipe σ vs) H' fun σ2 H2 => wipe σ2 vs = wipe σ vs ∧ tYes σ2 H2 fun b H3 =>
        if b = true then te σ2 H3 fun y H4 => ∃ acc, H4 D = some (.lst acc) ∧ acc.length < sizeLine ∧ Nx (upd H4 D (.lst (acc ++ [y]))) else Nx H3) := by
  refine lc_it (w := w) (g := g) (tt := tYes) (fun i H' => Same H1 H' ∧ ∃ zs, H' D = some (.lst zs) ∧ zs.length = i ∧ ∀ j z, zs[j]? = some z → R j z H') ⟨Same.new hn, [], upd_same, rfl, fun j z h => by cases h⟩ (fun i H hi hP => hG i H hi hP.1) (fun i x H' H2 hi hP hy => ?_) (fun H' hP => ?_)
  · obtain ⟨s, zs, eD, lz, rz⟩ := hP
    refine hmono _ _ _ _ _ (fun σ' H3 h => ⟨h.1, yes_of ?_⟩) (hstep i x H' H2 hi s ⟨zs, eD⟩ hy (fun y H4 => ∃ acc, H4 D = some (.lst acc) ∧ acc.length < sizeLine ∧ (fun i H' => Same H1 H' ∧ ∃ zs, H' D = some (.lst zs) ∧ zs.length = i ∧ ∀ j z, zs[j]? = some z → R j z H') (i + 1) (upd H4 D (.lst (acc ++ [y])))) fun v H4 s4 rv => ?_)
    · rw [if_pos rfl]
      exact h.2
    · refine ⟨zs, s4 _ _ eD, by rw [lz, sizeLine_eq]; omega, fun c o e => ?_, zs ++ [v], upd_same, by rw [List.length_append, lz]; rfl, fun j z hz => ?_⟩
      · rw [upd_ne (ne_of_none e hn)]
        exact s4 _ _ (s _ _ e)
      · have keep : ∀ b o, b ≠ D → H4 b = some o → (upd H4 D (.lst (zs ++ [v]))) b = some o := fun b o n e => by rw [upd_ne n]; exact e
        by_cases q : j < zs.length
        · rw [List.getElem?_append_left q] at hz
          exact hR j z _ _ keep (hR j z _ _ (fun b o _ e => s4 b o e) (rz j z hz))
        · rw [List.getElem?_append_right (by omega)] at hz
          have z0 : j - zs.length = 0 := by
            by_cases q2 : j - zs.length = 0
            · exact q2
            · rw [List.getElem?_eq_none (by simp; omega)] at hz; cases hz
          rw [z0] at hz
          cases hz
          have : j = i := by omega
          subst this
          exact hR _ _ _ _ keep rv
  · obtain ⟨s, zs, eD, lz, rz⟩ := hP
    exact hend H' zs s eD lz rz
/-- a dict's comprehension over a walk -/
theorem dc_it {J : It} {n : Nat} {G : Hp → Prop} {Y : Nat → Hp → V → Hp → Prop} (w : Walk J n G Y) {g : TG} {tt : TT} {tk tv : TE} {vs : List Nat} {σ : L2.St} {H1 : Hp} {D : Addr} {Qd : Hp → Prop} (Pv : Nat → Hp → Prop) (h0 : Pv 0 (upd H1 D (.dK []))) (hG : ∀ i H, i ≤ n → Pv i H → G H)
    (hs : ∀ i x H H', i < n → Pv i H → Y i H x H' → g x (wipe σ vs) H' fun σ2 H2 => wipe σ2 vs = wipe σ vs ∧ tt σ2 H2 fun b H3 =>
      if b = true then tk σ2 H3 fun y H4 => tv σ2 H4 fun z H5 => ∃ kvs k, y = kV k ∧ H5 D = some (.dK kvs) ∧ kvs.length < sizeLine ∧ Pv (i + 1) (upd H5 D (.dK (putK kvs k z))) else Pv (i + 1) H3) (hd : ∀ H, Pv n H → Qd H) :
    ∃ W : Nat → Nat → Hp → Prop, (∃ m, W 0 m (upd H1 D (.dK []))) ∧ ∀ i m H, W i m H →
      (J.stop i H ∧ Qd H) ∨ (J.go i H ∧ ∃ Nx : Hp → Prop, (∀ H', Nx H' → ∃ m', m' < m ∧ W (i + 1) m' H') ∧ ∀ x H', J.yld i H x H' → g x (wipe σ vs) H' fun σ2 H2 => wipe σ2 vs = wipe σ vs ∧ tt σ2 H2 fun b H3 =>
        if b = true then tk σ2 H3 fun y H4 => tv σ2 H4 fun z H5 => ∃ kvs k, y = kV k ∧ H5 D = some (.dK kvs) ∧ kvs.length < sizeLine ∧ Nx (upd H5 D (.dK (putK kvs k z))) else Nx H3) := by
  refine ⟨fun i m H => m = n - i ∧ i ≤ n ∧ Pv i H, ⟨n, by simp, Nat.zero_le _, h0⟩, ?_⟩
  rintro i m H ⟨rfl, hi, p⟩
  have q := hG i H hi p
  by_cases hlt : i < n
  · exact .inr ⟨w.goes i H hlt q, Pv (i + 1), fun H' p' => ⟨n - (i + 1), by omega, rfl, hlt, p'⟩, fun x H' y => hs i x H H' hlt p (w.yields i H x H' hlt q y)⟩
  · have e : i = n := by omega
    subst e
    exact .inl ⟨w.stops H q, hd H p⟩
/-! ### locking -/
/-- the dicts of p are locked, all else stands -/
def LockP (p : Addr → Prop) (H H' : Hp) : Prop := ∀ b, (p b → ∀ kvs, H b = some (.dK kvs) → ∃ o, H' b = some (.frz o (.dK kvs))) ∧ ((¬ p b ∨ ∀ kvs, H b ≠ some (.dK kvs)) → H' b = H b)
theorem lock_list {X : Cx} {pins : List (Addr × Obj)} {σ : L2.St} {s : Shared} : ∀ (D : List Addr) (H : Hp), Inv X pins σ H s → ∃ H', Inv X pins σ H' s ∧ LockP (fun b => b ∈ D) H H'
  | [], H, I => ⟨H, I, fun b => ⟨(fun h => by cases h), fun _ => rfl⟩⟩
  | d :: D, H, I => by
    obtain ⟨H1, I1, L⟩ := lock_list D H I
    by_cases z : d ∈ D ∨ ∀ kvs, H d ≠ some (.dK kvs)
    · refine ⟨H1, I1, fun b => ⟨fun hb kvs e => ?_, fun h => (L b).2 ?_⟩⟩
      · rcases List.mem_cons.mp hb with y | y
        · subst y
          rcases z with z | z
          · exact (L b).1 z kvs e
          · exact absurd e (z kvs)
        · exact (L b).1 y kvs e
      · rcases h with h | h
        · exact .inl fun y => h (List.mem_cons_of_mem _ y)
        · exact .inr h
    · have z1 : d ∉ D := fun y => z (.inl y)
      obtain ⟨kvs, e⟩ : ∃ kvs, H d = some (.dK kvs) := Classical.byContradiction fun y => z (.inr fun kvs e => y ⟨kvs, e⟩)
      have e1 : H1 d = some (.dK kvs) := by rw [(L d).2 (.inl z1)]; exact e
      obtain ⟨od, I2⟩ := I1.lock e1 True.intro
      refine ⟨_, I2, fun b => ⟨fun hb kvs' e' => ?_, fun h => ?_⟩⟩
      · by_cases y : b = d
        · subst y
          rw [e] at e'
          cases e'
          exact ⟨od, upd_same⟩
        · rw [upd_ne y]
          exact (L b).1 ((List.mem_cons.mp hb).resolve_left y) kvs' e'
      · have y : b ≠ d := fun y => by
          subst y
          rcases h with h | h
          · exact h List.mem_cons_self
          · exact h kvs e
        rw [upd_ne y]
        refine (L b).2 ?_
        rcases h with h | h
        · exact .inl fun y => h (List.mem_cons_of_mem _ y)
        · exact .inr h
theorem Inv.lockP {X : Cx} {pins : List (Addr × Obj)} {σ : L2.St} {s : Shared} {H : Hp} (I : Inv X pins σ H s) (p : Addr → Prop) : ∃ H', Inv X pins σ H' s ∧ LockP p H H' := by
  classical
  obtain ⟨H', I', L⟩ := lock_list ((List.range s.heap.objs.size).filter fun b => decide (p b)) H I
  refine ⟨H', I', fun b => ⟨fun hp kvs e => (L b).1 (List.mem_filter.mpr ⟨List.mem_range.mpr (I.hok.lt e), by simpa using hp⟩) kvs e, fun h => (L b).2 ?_⟩⟩
  rcases h with h | h
  · exact .inl fun y => h (by simpa using (List.mem_filter.mp y).2)
  · exact .inr h
/-- dicts are locked behind an expression, which ones is the reading's choice -/
def tLk (td : TE) : TE := fun σ H Q => td σ H fun x H1 => ∃ p : Addr → Prop, ∀ H', LockP p H1 H' → Q x H'
theorem pe_lock {X : Cx} {e : Expr} {td : TE} (he : PE X e td) : PE X e (tLk td) := by
  refine ⟨fun pins s σ H Q I h => ?_⟩
  refine thn (he.run pins s σ H _ I h) fun v s1 ⟨x, H1, I1, r1, p, q⟩ => ?_
  obtain ⟨H', I', L⟩ := Inv.lockP I1 p
  exact ⟨x, H', I', r1, q H' L⟩
theorem LockP.same {Hs H H' : Hp} (L : LockP (fun b => Hs b = none) H H') (s : Same Hs H) : Same Hs H' := fun b o e => by
  rw [(L b).2 (.inl (show ¬ (Hs b = none) by rw [e]; simp))]
  exact s _ _ e
/-! ### plain data -/
theorem can_map {α : Type} {f : α → PyData} : ∀ {l : List α}, (∀ x ∈ l, PyData.canLay0 (f x) = true) → PyData.canLayAll0 (l.map f) = true
  | [], _ => by simp [PyData.canLayAll0]
  | x :: l, h => by
    rw [List.map_cons]
    simp only [PyData.canLayAll0, Bool.and_eq_true]
    exact ⟨h x (List.mem_cons_self ..), can_map fun y hy => h y (List.mem_cons_of_mem _ hy)⟩
theorem depth_map {α : Type} {f : α → PyData} {n : Nat} : ∀ {l : List α}, (∀ x ∈ l, PyData.depth (f x) ≤ n) → PyData.depthAll (l.map f) ≤ n
  | [], _ => by simp [PyData.depthAll]
  | x :: l, h => by
    rw [List.map_cons]
    simp only [PyData.depthAll]
    exact Nat.max_le.mpr ⟨h x (List.mem_cons_self ..), depth_map fun y hy => h y (List.mem_cons_of_mem _ hy)⟩
theorem eqv_map {α : Type} [DecidableEq α] {f : α → PyData} (h : ∀ x y, PyData.eqv (f x) (f y) = decide (x = y)) : ∀ (l m : List α), PyData.eqvAll (l.map f) (m.map f) = decide (l = m)
  | [], [] => by simp [PyData.eqvAll]
  | [], y :: m => by simp [PyData.eqvAll]
  | x :: l, [] => by simp [PyData.eqvAll]
  | x :: l, y :: m => by
    rw [List.map_cons, List.map_cons]
    simp only [PyData.eqvAll]
    rw [h x y, eqv_map h l m]
    rw [Bool.eq_iff_iff]
    simp
mutual
def plainD : PyData → Bool
  | .dict _ => false
  | .list ds => plainAll ds
  | .tuple ds => plainAll ds
  | _ => true
def plainAll : List PyData → Bool
  | [] => true
  | d :: ds => plainD d && plainAll ds
end
theorem plain_map {α : Type} {f : α → PyData} : ∀ {l : List α}, (∀ x ∈ l, plainD (f x) = true) → plainAll (l.map f) = true
  | [], _ => by simp [plainAll]
  | x :: l, h => by
    rw [List.map_cons]
    simp only [plainAll, Bool.and_eq_true]
    exact ⟨h x (List.mem_cons_self ..), plain_map fun y hy => h y (List.mem_cons_of_mem _ hy)⟩
mutual
theorem Dx.dp {K : PySem.W.Frag} {H : Hp} : ∀ {v : V} {d : PyData}, Dx H v d → plainD d = true → Dp K H v d
  | _, _, .non, _ => .non
  | _, _, .bl b, _ => .bl b
  | _, _, .int i, _ => .int i
  | _, _, .str x, _ => .str x
  | _, _, .lst e h, k => .lst (SqL.of e) (DxAll.dp h k)
  | _, _, .tup e h, k => .tup (SqT.of e) (DxAll.dp h k)
  | _, _, .dic e h, k => by cases k
theorem DxAll.dp {K : PySem.W.Frag} {H : Hp} : ∀ {vs : List V} {ds : List PyData}, DxAll H vs ds → plainAll ds = true → DpAll K H vs ds
  | _, _, .nil, _ => .nil
  | _, _, .cons a b, k => .cons (Dx.dp a (Bool.and_eq_true_iff.mp k).1) (DxAll.dp b (Bool.and_eq_true_iff.mp k).2)
end
/-! ### places of things -/
section
variable {α κ : Type} [DecidableEq α] [DecidableEq κ]
def plc (φ : α → κ) (k : Nat) (o : List α) : List (κ × V) := (o.zipIdx k).map fun p => (φ p.1, V.int (p.2 : Int))
theorem plc_len (φ : α → κ) (k : Nat) (o : List α) : (plc φ k o).length = o.length := by unfold plc; rw [List.length_map, List.length_zipIdx]
theorem plc_val {φ : α → κ} (inj : ∀ a b, φ a = φ b → a = b) (t : α) : ∀ (o : List α) (k : Nat), valV (plc φ k o) (φ t) = if t ∈ o then some (.int ((k + ixM o t : Nat) : Int)) else none
  | [], k => by simp [plc, valV]
  | x :: o, k => by
    have e : plc φ k (x :: o) = (φ x, V.int (k : Int)) :: plc φ (k + 1) o := rfl
    rw [e]
    by_cases h : x = t
    · subst h
      rw [valV_pos rfl]
      unfold ixM
      simp
    · rw [valV_neg (fun z => h (inj _ _ z)), plc_val inj t o (k + 1)]
      unfold ixM
      rw [List.idxOf_cons, show (x == t) = false from beq_eq_false_iff_ne.mpr h]
      simp only [cond_false, List.mem_cons]
      by_cases m : t ∈ o
      · rw [if_pos m, if_pos (.inr m)]
        congr 3
        omega
      · rw [if_neg m, if_neg (by rintro (z | z); exact h z.symm; exact m z)]
theorem plc_put {φ : α → κ} (inj : ∀ a b, φ a = φ b → a = b) {o : List α} {t : α} (h : t ∉ o) {n : Int} (hn : n = (o.length : Nat)) : putK (plc φ 0 o) (φ t) (.int n) = plc φ 0 (o ++ [t]) := by
  subst hn
  rw [putK_new _ (by rw [plc_val inj, if_neg h])]
  unfold plc
  rw [List.zipIdx_append, List.map_append]
  simp
end
/-! ### tables -/
def rowK (r : List (Str × Nat)) : List (Key × V) := r.map fun e => ((.inr e.1 : Key), V.int (e.2 : Int))
theorem rowK_val (z : Str) : ∀ r : List (Str × Nat), valV (rowK r) (.inr z) = (lkp r z).map fun (g : Nat) => V.int (g : Int)
  | [] => rfl
  | e :: r => by
    show valV (((.inr e.1 : Key), V.int (e.2 : Int)) :: rowK r) (.inr z) = _
    rw [lkp_cons]
    by_cases h : e.1 = z
    · rw [if_pos h, valV_pos (by rw [h])]; rfl
    · rw [if_neg h, valV_neg (fun q => h (Sum.inr.inj q))]
      exact rowK_val z r
theorem rowK_len (r : List (Str × Nat)) : (rowK r).length = r.length := List.length_map ..
theorem rowK_put {r : List (Str × Nat)} {z : Str} (h : lkp r z = none) (g : Nat) : putK (rowK r) (.inr z) (.int (g : Int)) = rowK (r ++ [(z, g)]) := by
  rw [putK_new _ (by rw [rowK_val, h]; rfl)]
  unfold rowK
  rw [List.map_append]; rfl
/-- the locked table c, its rows at ls -/
structure TbF (H : Hp) (F : Addr) (ls : List Addr) (c : Ch) : Prop where
  e : H F = some (.lst (ls.map V.ref))
  l : ls.length = c.length
  k : ∀ (i : Nat) (a : Addr), ls[i]? = some a → ∃ o, H a = some (.frz o (.dK (rowK (rowC c i))))
theorem TbF.same {H H' : Hp} {F : Addr} {ls : List Addr} {c : Ch} (h : TbF H F ls c) (s : Same H H') : TbF H' F ls c := ⟨s _ _ h.e, h.l, fun i a q => let ⟨o, e⟩ := h.k i a q; ⟨o, s _ _ e⟩⟩
theorem TbF.row {H : Hp} {F : Addr} {ls : List Addr} {c : Ch} (h : TbF H F ls c) {i : Nat} (hi : i < c.length) : ∃ a o, ls[i]? = some a ∧ atI (ls.map V.ref) (i : Int) = some (.ref a) ∧ H a = some (.frz o (.dK (rowK (rowC c i)))) := by
  have e := List.getElem?_eq_getElem (show i < ls.length by rw [h.l]; exact hi)
  obtain ⟨o, k⟩ := h.k i _ e
  exact ⟨_, o, e, atI_nat (by rw [List.getElem?_map, e]; rfl), k⟩
end K20
end

section
set_option maxHeartbeats 4000000
/-! what is passed is looked at -/
namespace K20
open PySem PySem.Spec PyProof.Rows L2
def spInt : Sp := fun vs H Q _ => ∃ i : Int, vs = [.int i] ∧ Q (.bl true) H
def spBtw : Sp := fun vs H Q _ => ∃ i lo hi : Int, vs = [.int i, .int lo, .int hi] ∧ Q (.bl (decide (lo ≤ i) && decide (i ≤ hi))) H
def spCnt : Sp := fun vs H Q _ => ∃ i : Int, vs = [.int i] ∧ Q (.bl (decide (0 ≤ i))) H
def spSgn : Sp := fun vs H Q _ => ∃ (c : Nat) (g : Str), vs = [.str ⟨#[c]⟩, .str g] ∧ Q (.bl (decide (c ∈ g.cps.toList))) H
def spMany : Sp := fun vs H Q _ => ∃ i : Int, vs = [.int i] ∧ 2 ≤ i ∧ i ≤ 4 ∧ Q .non H
def spState : Sp := fun vs H Q _ => ∃ i n : Int, vs = [.int i, .int n] ∧ 0 ≤ i ∧ i < n ∧ Q .non H
def spLength : Sp := fun vs H Q _ => ∃ i a b : Int, vs = [.int i, .int a, .int b] ∧ a ≤ i ∧ i ≤ b ∧ Q .non H
def spIsLst : Sp := fun vs H Q _ => ∃ (a : Addr) (xs : List V), vs = [.ref a] ∧ H a = some (.lst xs) ∧ ∀ H', Same H H' → Q (.bl true) H'
theorem map_rep (n : Nat) (b : Bool) : (List.replicate n b).map V.bl = List.replicate n (V.bl b) := List.map_replicate
theorem okR_len {w : Nat} {r : List (Str × Nat)} (ok : okR w r) : r.length ≤ 4 := by
  have := congrArg List.length (show keysR r = _ from ok)
  unfold keysR at this
  rw [List.length_map] at this
  rw [this]
  refine Nat.le_trans (List.length_filter_le ..) ?_
  rw [List.length_take]
  exact Nat.min_le_right ..
/-- the signs of w letters -/
def okSg (w : Nat) (g : Str) : Prop := g.cps.toList.map (fun c => (⟨#[c]⟩ : Str)) = sgs.take w
theorem okSg_in {w : Nat} {g : Str} (h : okSg w g) {z : Str} (hz : z ∈ sgs.take w) : ∃ c, z = ⟨#[c]⟩ ∧ c ∈ g.cps.toList := by
  rw [← show _ = sgs.take w from h] at hz
  obtain ⟨c, hc, rfl⟩ := List.mem_map.mp hz
  exact ⟨c, rfl, hc⟩
theorem okSg_len {w : Nat} {g : Str} (h : okSg w g) : g.cps.toList.length = (sgs.take w).length := by
  rw [← show _ = sgs.take w from h, List.length_map]
def spDict : Sp := fun vs H Q _ => ∃ (a : Addr) (o : Obj) (r : List (Str × Nat)) (w : Nat) (g : Str) (n : Nat), vs = [.ref a, .str g, .int (n : Int)] ∧ H a = some (.frz o (.dK (rowK r))) ∧ okR w r ∧ okSg w g ∧ (∀ e ∈ r, e.2 < n) ∧ ∀ H', Same H H' → Q (.bl true) H'
def spCTab : Sp := fun vs H Q _ => ∃ (F : Addr) (ls : List Addr) (c : Ch) (w : Nat) (g : Str), vs = [.ref F, .str g] ∧ TbF H F ls c ∧ WfC c ∧ okT w c ∧ c.length ≤ 64 ∧ okSg w g ∧ ∀ H', Same H H' → Q .non H'
section
variable {P : Program} {w : World} {K : PySem.W.Frag} {mg : Str → Option Value} {base : Heap} {ad : Str → Addr} {fd : Str → FuncData}
theorem scIsInteger : FnScope ["value"] ["value"] (defScope sIsInteger) := ⟨rfl, rfl, rfl, by decide +kernel, rfl, by decide +kernel, by decide +kernel⟩
theorem ok_is_integer (X : Tx K mg ad fd) : FnOk P w K mg base CX0 1 (ad "is_integer") (fd "is_integer") ["value"] spInt := by
  refine X.F_is_integer.ok scIsInteger (fun vs H Q E h => ?_) (fun cdv A outer s H vs Q E hr h => ?_)
  · obtain ⟨i, rfl, q⟩ := h
    rfl
  · obtain ⟨i, rfl, q⟩ := h
    refine ⟨_, (pss_one (ps_ret (by exact (pe_and (pe_callB call_isi (by rfl) X.m_isinstance (by decide +kernel) (pa_cons (pv 0) (pa_cons (pe_bltn (v := .ty "int") (by rfl) X.m_int (by decide +kernel) rfl) pa_nil))) (pe_one (pe_not (pe_callB call_isi (by rfl) X.m_isinstance (by decide +kernel) (pa_cons (pv 0) (pa_cons (pe_bltn (v := .ty "bool") (by rfl) X.m_bool (by decide +kernel) rfl) pa_nil))))))))), ?_⟩
    refine ⟨.int i, rfl, .int i, .ty "int", _, _, _, rfl, .ty _, dx_ty (.int i), kit_ty (kit_i (.int i)), _, rfl, ?_⟩
    exact ⟨.int i, rfl, .int i, .ty "bool", _, _, _, rfl, .ty _, dx_ty (.int i), kit_ty (kit_b (.int i)), _, rfl, q⟩
theorem scIsBetween : FnScope ["value", "low", "high"] ["value", "low", "high"] (defScope sIsBetween) := ⟨rfl, rfl, rfl, by decide +kernel, rfl, by decide +kernel, by decide +kernel⟩
theorem ok_is_between (X : Tx K mg ad fd) : FnOk P w K mg base CX0 2 (ad "is_between") (fd "is_between") ["value", "low", "high"] spBtw := by
  have G_is_integer := ok_is_integer (P := P) (w := w) (base := base) X
  refine X.F_is_between.ok scIsBetween (fun vs H Q E h => ?_) (fun cdv A outer s H vs Q E hr h => ?_)
  · obtain ⟨i, lo, hi, rfl, q⟩ := h
    rfl
  · obtain ⟨i, lo, hi, rfl, q⟩ := h
    have HR_is_integer : Room 1 _ := hr
    refine ⟨_, (pss_one (ps_ret (by exact (pe_and (pe_call G_is_integer HR_is_integer (by rfl) X.g_is_integer X.F_is_integer.kp X.b_is_integer .nil pass0 (pa_cons (pv 0) pa_nil)) (pe_one (pe_chain op_le op_le (pv 1) (pv 0) (pv 2))))))), ?_⟩
    refine ⟨.int i, rfl, i, rfl, _, rfl, ?_⟩
    refine ⟨.int lo, rfl, .int i, rfl, lo, i, rfl, rfl, _, rfl, ?_⟩
    cases e : decide (lo ≤ i) with
    | true =>
      rw [e] at q
      exact iteT ⟨.int hi, rfl, i, hi, rfl, rfl, q⟩
    | false =>
      rw [e] at q
      exact iteF q
theorem scIsCount : FnScope ["value"] ["value"] (defScope sIsCount) := ⟨rfl, rfl, rfl, by decide +kernel, rfl, by decide +kernel, by decide +kernel⟩
theorem ok_is_count (X : Tx K mg ad fd) : FnOk P w K mg base CX0 2 (ad "is_count") (fd "is_count") ["value"] spCnt := by
  have G_is_integer := ok_is_integer (P := P) (w := w) (base := base) X
  refine X.F_is_count.ok scIsCount (fun vs H Q E h => ?_) (fun cdv A outer s H vs Q E hr h => ?_)
  · obtain ⟨i, rfl, q⟩ := h
    rfl
  · obtain ⟨i, rfl, q⟩ := h
    have HR_is_integer : Room 1 _ := hr
    refine ⟨_, (pss_one (ps_ret (by exact (pe_and (pe_call G_is_integer HR_is_integer (by rfl) X.g_is_integer X.F_is_integer.kp X.b_is_integer .nil pass0 (pa_cons (pv 0) pa_nil)) (pe_one (pe_cmpR op_ge (pv 0) pe_int (nomark _))))))), ?_⟩
    exact ⟨.int i, rfl, i, rfl, _, rfl, .int i, rfl, i, 0, rfl, rfl, q⟩
theorem scIsSign : FnScope ["value", "signs"] ["value", "signs"] (defScope sIsSign) := ⟨rfl, rfl, rfl, by decide +kernel, rfl, by decide +kernel, by decide +kernel⟩
theorem ok_is_sign (X : Tx K mg ad fd) : FnOk P w K mg base CX0 1 (ad "is_sign") (fd "is_sign") ["value", "signs"] spSgn := by
  refine X.F_is_sign.ok scIsSign (fun vs H Q E h => ?_) (fun cdv A outer s H vs Q E hr h => ?_)
  · obtain ⟨c, g, rfl, q⟩ := h
    rfl
  · obtain ⟨c, g, rfl, q⟩ := h
    refine ⟨_, (pss_one (ps_ret (by exact (pe_and (pe_callB call_isi (by rfl) X.m_isinstance (by decide +kernel) (pa_cons (pv 0) (pa_cons (pe_bltn (v := .ty "str") (by rfl) X.m_str (by decide +kernel) rfl) pa_nil))) (pe_and (pe_cmpR op_eq (pe_callB call_len (by rfl) X.m_len (by decide +kernel) (pa_cons (pv 0) pa_nil)) pe_int (nomark _)) (pe_one (pe_cmpR op_in_sign (pv 0) (pv 1) rfl))))))), ?_⟩
    refine ⟨.str ⟨#[c]⟩, rfl, .str ⟨#[c]⟩, .ty "str", _, _, _, rfl, .ty _, dx_ty (.str _), kit_ty (kit_s (.str _)), _, rfl, ?_⟩
    refine ⟨.str ⟨#[c]⟩, rfl, .str ⟨#[c]⟩, 1, rfl, ⟨(by show 1 ≤ sizeLine; decide), rfl⟩, rfl, _, rfl, ?_⟩
    exact ⟨.str ⟨#[c]⟩, rfl, .str g, rfl, c, g, rfl, rfl, q⟩
theorem scCheckMany : FnScope ["many"] ["many"] (defScope sCheckMany) := ⟨rfl, rfl, rfl, by decide +kernel, rfl, by decide +kernel, by decide +kernel⟩
theorem ok_check_many (X : Tx K mg ad fd) : FnOk P w K mg base CX0 3 (ad "check_many") (fd "check_many") ["many"] spMany := by
  have G_is_between := ok_is_between (P := P) (w := w) (base := base) X
  refine X.F_check_many.ok scCheckMany (fun vs H Q E h => ?_) (fun cdv A outer s H vs Q E hr h => ?_)
  · obtain ⟨i, rfl, h1, h2, q⟩ := h
    rfl
  · obtain ⟨i, rfl, h1, h2, q⟩ := h
    have HR_is_between : Room 2 _ := hr
    refine ⟨_, (pss_one (ps_if (pt_not (pt_val (pe_call G_is_between HR_is_between (by rfl) X.g_is_between X.F_is_between.kp X.b_is_between .nil pass0 (pa_cons (pv 0) (pa_cons pe_int (pa_cons pe_int pa_nil))))))
  (pss_one ps_never)
  pss_nil)), ?_⟩
    refine ⟨.int i, rfl, i, 2, 4, rfl, _, rfl, ?_⟩
    rw [decide_eq_true h1, decide_eq_true h2]
    exact iteF q
theorem scCheckState : FnScope ["state", "size"] ["state", "size"] (defScope sCheckState) := ⟨rfl, rfl, rfl, by decide +kernel, rfl, by decide +kernel, by decide +kernel⟩
theorem ok_check_state (X : Tx K mg ad fd) : FnOk P w K mg base CX0 3 (ad "check_state") (fd "check_state") ["state", "size"] spState := by
  have G_is_between := ok_is_between (P := P) (w := w) (base := base) X
  refine X.F_check_state.ok scCheckState (fun vs H Q E h => ?_) (fun cdv A outer s H vs Q E hr h => ?_)
  · obtain ⟨i, n, rfl, h1, h2, q⟩ := h
    rfl
  · obtain ⟨i, n, rfl, h1, h2, q⟩ := h
    have HR_is_between : Room 2 _ := hr
    refine ⟨_, (pss_one (ps_if (pt_not (pt_val (pe_call G_is_between HR_is_between (by rfl) X.g_is_between X.F_is_between.kp X.b_is_between .nil pass0 (pa_cons (pv 0) (pa_cons pe_int (pa_cons (pe_op op_sub (pv 1) pe_int) pa_nil))))))
  (pss_one ps_never)
  pss_nil)), ?_⟩
    refine ⟨.int i, rfl, .int n, rfl, n, 1, rfl, rfl, i, 0, n - 1, rfl, _, rfl, ?_⟩
    rw [decide_eq_true h1, decide_eq_true (show i ≤ n - 1 by omega)]
    exact iteF q
theorem scCheckLength : FnScope ["length", "least", "most"] ["length", "least", "most"] (defScope sCheckLength) := ⟨rfl, rfl, rfl, by decide +kernel, rfl, by decide +kernel, by decide +kernel⟩
theorem ok_check_length (X : Tx K mg ad fd) : FnOk P w K mg base CX0 3 (ad "check_length") (fd "check_length") ["length", "least", "most"] spLength := by
  have G_is_between := ok_is_between (P := P) (w := w) (base := base) X
  refine X.F_check_length.ok scCheckLength (fun vs H Q E h => ?_) (fun cdv A outer s H vs Q E hr h => ?_)
  · obtain ⟨i, a, b, rfl, h1, h2, q⟩ := h
    rfl
  · obtain ⟨i, a, b, rfl, h1, h2, q⟩ := h
    have HR_is_between : Room 2 _ := hr
    refine ⟨_, (pss_one (ps_if (pt_not (pt_val (pe_call G_is_between HR_is_between (by rfl) X.g_is_between X.F_is_between.kp X.b_is_between .nil pass0 (pa_cons (pv 0) (pa_cons (pv 1) (pa_cons (pv 2) pa_nil))))))
  (pss_one ps_never)
  pss_nil)), ?_⟩
    refine ⟨.int i, rfl, .int a, rfl, .int b, rfl, i, a, b, rfl, _, rfl, ?_⟩
    rw [decide_eq_true h1, decide_eq_true h2]
    exact iteF q
theorem scIsList : FnScope ["value"] ["value"] (defScope sIsList) := ⟨rfl, rfl, rfl, by decide +kernel, rfl, by decide +kernel, by decide +kernel⟩
theorem ok_is_list (X : Tx K mg ad fd) : FnOk P w K mg base CX0 1 (ad "is_list") (fd "is_list") ["value"] spIsLst := by
  refine X.F_is_list.ok scIsList (fun vs H Q E h => ?_) (fun cdv A outer s H vs Q E hr h => ?_)
  · obtain ⟨a, xs, rfl, ha, k⟩ := h
    rfl
  · obtain ⟨a, xs, rfl, ha, k⟩ := h
    refine ⟨_, (pss_one (ps_ret (by exact (pe_callB call_isiT (by rfl) X.m_isinstance (by decide +kernel) (pa_cons (pv 0) (pa_cons (pe_tup (pa_cons (pe_bltn (v := .ty "list") (by rfl) X.m_list (by decide +kernel) rfl) (pa_cons (pe_bltn (v := .ty "tuple") (by rfl) X.m_tuple (by decide +kernel) rfl) pa_nil))) pa_nil)))))), ?_⟩
    refine ⟨.ref a, rfl, (by show 2 ≤ sizeLine; decide), fun t ht => ⟨.ref a, t, _, _, _, _, rfl, upd_same, .cons (.ty _) (.cons (.ty _) .nil), .base (.lst (Same.new ht _ _ ha)), ?_, k _ (Same.new ht)⟩⟩
    have e : kitB "list" "list" = some true := by decide +kernel
    show PySem.W.kitAny K (.type "list") [.type "list", .type "tuple"] = some true
    unfold PySem.W.kitAny
    rw [kit_ty (K := K) e]
theorem scIsDictOfState : FnScope ["value", "signs", "size", "sign", "to"] ["value", "signs", "size"] (defScope sIsDictOfState) := ⟨rfl, rfl, rfl, by decide +kernel, rfl, by decide +kernel, by decide +kernel⟩
theorem ok_is_dict (X : Tx K mg ad fd) : FnOk P w K mg base CX0 3 (ad "is_dict_of_state") (fd "is_dict_of_state") ["value", "signs", "size"] spDict := by
  have G_is_sign := ok_is_sign (P := P) (w := w) (base := base) X
  have G_is_count := ok_is_count (P := P) (w := w) (base := base) X
  refine X.F_is_dict_of_state.ok scIsDictOfState (fun vs H Q E h => ?_) (fun cdv A outer s H vs Q E hr h => ?_)
  · obtain ⟨a, o, r, w, g, n, rfl, ha, ok, sg, lt, k⟩ := h
    rfl
  · obtain ⟨a, o, r, w, g, n, rfl, ha, ok, sg, lt, k⟩ := h
    have HR_is_sign : Room 1 _ := hr.mono (by decide)
    have HR_is_count : Room 2 _ := hr
    refine ⟨_, (pss_cons (ps_if (pt_not (pt_val (pe_callB call_isi (by rfl) X.m_isinstance (by decide +kernel) (pa_cons (pv 0) (pa_cons (pe_bltn (v := .ty "dict") (by rfl) X.m_dict (by decide +kernel) rfl) pa_nil)))))
  (pss_one (ps_ret (by exact pe_bl)))
  pss_nil)
  (pss_cons (ps_if (pt_not (pt_val (pe_callB (cr_all rfl) (by rfl) X.m_all (by decide +kernel) (pa_cons (pe_lc (own := [("sign", 3)]) (g := gName 3) rfl scIsDictOfState.nd (pi_keys (pv 0)) (blkOk_by (own := [("sign", 3)]) (N := ["value", "signs", "size", "sign", "to"]) (sc := defScope sIsDictOfState) (by decide +kernel)) (fun _ _ _ _ _ => pg_name (i := 3) scIsDictOfState.nd rfl (Or.inl rfl)) (fun _ _ _ _ _ => pts_nil) (fun _ _ _ _ _ => (pe_call G_is_sign HR_is_sign (by rfl) X.g_is_sign X.F_is_sign.kp X.b_is_sign .nil pass0 (pa_cons (pv 3) (pa_cons (pv 1) pa_nil))))) pa_nil))))
  (pss_one (ps_ret (by exact pe_bl)))
  pss_nil)
  (pss_one (ps_ret (by exact (pe_callB (cr_all rfl) (by rfl) X.m_all (by decide +kernel) (pa_cons (pe_lc (own := [("to", 4)]) (g := gName 4) rfl scIsDictOfState.nd (pi_values (pv 0)) (blkOk_by (own := [("to", 4)]) (N := ["value", "signs", "size", "sign", "to"]) (sc := defScope sIsDictOfState) (by decide +kernel)) (fun _ _ _ _ _ => pg_name (i := 4) scIsDictOfState.nd rfl (Or.inl rfl)) (fun _ _ _ _ _ => pts_nil) (fun _ _ _ _ _ => (pe_and (pe_call G_is_count HR_is_count (by rfl) X.g_is_count X.F_is_count.kp X.b_is_count .nil pass0 (pa_cons (pv 4) pa_nil)) (pe_one (pe_cmpR op_lt (pv 4) (pv 2) (nomark _)))))) pa_nil))))))), ?_⟩
    have ed : kitB "dict" "dict" = some true := by decide +kernel
    refine ⟨.ref a, rfl, .ref a, .ty "dict", _, _, _, rfl, .ty _, .fDict ha, kit_ty ed, true, rfl, iteF ?_⟩
    refine ⟨.ref a, rfl, a, o, rfl, .inl ⟨rowK r, ha, fun D hD => ?_⟩⟩
    have lr := okR_len ok
    have at_ : ∀ {i : Nat} {k : Key} {v : V}, (rowK r)[i]? = some (k, v) → ∃ e ∈ r, k = .inr e.1 ∧ v = .int (e.2 : Int) := fun {i k v} q => by
      unfold rowK at q
      rw [List.getElem?_map] at q
      cases er : r[i]? with
      | none => rw [er] at q; cases q
      | some e =>
        rw [er] at q
        cases q
        exact ⟨e, List.mem_of_getElem? er, rfl, rfl⟩
    refine lc_map (w := walk_keys (d := a) (o := o) (kvs := rowK r)) (fun _ => V.bl true) hD (by rw [rowK_len]; omega) (fun i Hc _ sc => sc _ _ ha) (fun _ => rfl) (fun i x Hc Hd hi sc y => ?_) (fun H1 s1 eD => ?_)
    · obtain ⟨rfl, k', v', hk, rfl⟩ := y
      obtain ⟨e, he, rfl, rfl⟩ := at_ hk
      obtain ⟨c, ec, hc⟩ := okSg_in sg (okR_in ok (List.mem_map_of_mem (f := (·.1)) he))
      refine ⟨Same.refl, fun Q' hQ => ?_⟩
      show _
      rw [show e.1 = _ from ec]
      refine ⟨_, rfl, .str g, rfl, c, g, rfl, ?_⟩
      rw [decide_eq_true hc]
      exact hQ _ Same.refl
    · rw [List.map_const', List.length_range, ← map_rep] at eD
      refine ⟨D, _, rfl, SqL.of eD, _, rfl, ?_⟩
      rw [show (List.replicate (rowK r).length true).all id = true by simp]
      refine iteF ⟨.ref a, rfl, a, o, _, rfl, s1 _ _ ha, fun D2 hD2 => ?_⟩
      refine lc_map (w := walk_values (d := a) (o := o) (kvs := rowK r)) (fun _ => V.bl true) hD2 (by rw [rowK_len]; omega) (fun i Hc _ sc => sc _ _ (s1 _ _ ha)) (fun _ => rfl) (fun i x Hc Hd hi sc y => ?_) (fun H2 s2 eD2 => ?_)
      · obtain ⟨rfl, k', hk⟩ := y
        obtain ⟨e, he, rfl, rfl⟩ := at_ hk
        refine ⟨Same.refl, fun Q' hQ => ?_⟩
        refine ⟨.int (e.2 : Int), rfl, (e.2 : Int), rfl, true, by rw [decide_eq_true (Int.natCast_nonneg _)], .int (e.2 : Int), rfl, .int (n : Int), rfl, (e.2 : Int), (n : Int), rfl, rfl, ?_⟩
        show Q' (.bl (decide ((e.2 : Int) < (n : Int)))) _
        rw [decide_eq_true (show (e.2 : Int) < (n : Int) by have := lt e he; omega)]
        exact hQ _ Same.refl
      · rw [List.map_const', List.length_range, ← map_rep] at eD2
        refine ⟨D2, _, rfl, SqL.of eD2, ?_⟩
        rw [show (List.replicate (rowK r).length true).all id = true by simp]
        exact k _ (Same.trans s1 s2)
theorem scCheckTable : FnScope ["table", "signs", "position", "leading"] ["table", "signs"] (defScope sCheckTable) := ⟨rfl, rfl, rfl, by decide +kernel, rfl, by decide +kernel, by decide +kernel⟩
theorem ok_check_table (X : Tx K mg ad fd) : FnOk P w K mg base CX0 4 (ad "check_table") (fd "check_table") ["table", "signs"] spCTab := by
  have G_is_list := ok_is_list (P := P) (w := w) (base := base) X
  have G_is_dict_of_state := ok_is_dict (P := P) (w := w) (base := base) X
  refine X.F_check_table.ok scCheckTable (fun vs H Q E h => ?_) (fun cdv A outer s H vs Q E hr h => ?_)
  · obtain ⟨F, ls, c, w, g, rfl, tb, wf, ok, cl, sg, k⟩ := h
    rfl
  · obtain ⟨F, ls, c, w, g, rfl, tb, wf, ok, cl, sg, k⟩ := h
    have HR_is_list : Room 1 _ := hr.mono (by decide)
    have HR_is_dict_of_state : Room 3 _ := hr
    obtain ⟨_, gT⟩ := X.g_MOST_IN_TABLE
    refine ⟨_, (pss_cons (ps_if (PW.pt (pw_or (pt_not (pt_val (pe_call G_is_list HR_is_list (by rfl) X.g_is_list X.F_is_list.kp X.b_is_list .nil pass0 (pa_cons (pv 0) pa_nil)))) (pw_or1 (pt_not (pt_chain op_le op_le pe_int (pe_callB call_len (by rfl) X.m_len (by decide +kernel) (pa_cons (pv 0) pa_nil)) (pe_glob (v := .int 64) (by rfl) gT ⟨_, rfl⟩))))))
  (pss_one ps_never)
  pss_nil)
  (pss_one (ps_for PassesOwn.never rfl (pi_enum (by rfl) X.m_enumerate (pa_cons (pv 0) pa_nil)) (pg_tup rfl (pgs_cons (pg_name (i := 2) scCheckTable.nd rfl (.inl rfl)) (pgs_cons (pg_name (i := 3) scCheckTable.nd rfl (.inl rfl)) pgs_nil)))
  (pss_one (ps_if (pt_not (pt_val (pe_call G_is_dict_of_state HR_is_dict_of_state (by rfl) X.g_is_dict_of_state X.F_is_dict_of_state.kp X.b_is_dict_of_state .nil pass0 (pa_cons (pv 3) (pa_cons (pv 1) (pa_cons (pe_callB call_len (by rfl) X.m_len (by decide +kernel) (pa_cons (pv 0) pa_nil)) pa_nil))))))
  (pss_one ps_never)
  pss_nil))))), ?_⟩
    refine ⟨.ref F, rfl, F, _, rfl, tb.e, fun H1 s1 => ⟨true, rfl, ?_⟩⟩
    refine iteF ⟨.ref F, rfl, .ref F, _, rfl, .inl ⟨_, SqL.of (s1 _ _ tb.e), rfl⟩, 1, _, rfl, rfl, _, rfl, ?_⟩
    have hl : (ls.map V.ref).length = c.length := by rw [List.length_map, tb.l]
    rw [hl, decide_eq_true (show (1 : Int) ≤ (c.length : Int) by have := wf.1; omega)]
    refine iteT ⟨_, _, rfl, rfl, _, rfl, ?_⟩
    rw [decide_eq_true (show (c.length : Int) ≤ 64 by omega)]
    refine iteF ⟨.ref F, rfl, F, _, rfl, SqL.of (s1 _ _ tb.e), ?_⟩
    refine for_it (w := walk_enum (K := K) (a := F) (xs := ls.map V.ref)) (fun i σ H' => ∃ r2 r3, σ = [some (.ref F), some (.str g), r2, r3] ∧ Same H H') ⟨_, _, rfl, s1⟩ (fun i σ H' _ ⟨_, _, _, s2⟩ => SqL.of (s2 _ _ tb.e)) ?_ ?_
    · rintro i x σ H' H2 hi ⟨r2, r3, rfl, s2⟩ ⟨T, u, v, rfl, hT, rfl, eu, ev⟩
      cases eu
      rw [hl] at hi
      obtain ⟨a, o, h1, h2, h3⟩ := tb.row hi
      have ev : (ls.map V.ref)[i]? = some v := ev
      rw [List.getElem?_map, h1] at ev
      cases ev
      have sT := Same.trans s2 (Same.new hT (o := .tup [V.int (i : Nat), V.ref a]))
      refine ⟨T, _, rfl, SqT.of upd_same, rfl, _, _, rfl, _, _, rfl, rfl, ?_⟩
      refine ⟨.ref a, rfl, .str g, rfl, .ref F, rfl, .ref F, _, rfl, .inl ⟨_, SqL.of (sT _ _ tb.e), rfl⟩, a, o, rowC c i, w, g, c.length, (by rw [hl]; rfl), sT _ _ h3, (rowOk ok hi).1, sg, fun e he => rowC_lt wf he, fun H3 s3 => ⟨_, rfl, ?_⟩⟩
      exact iteF ⟨_, _, rfl, Same.trans sT s3⟩
    · rintro σ H' ⟨r2, r3, rfl, s2⟩
      exact k _ s2
end
end K20
end

section
set_option maxHeartbeats 4000000
/-! where signs lead; sums; numbers of marks -/
namespace K20
open PySem PySem.Spec PyProof.Rows L2
def ldV (n w : Nat) (r : List (Str × Nat)) : List V := (sgs.take w).map fun z => V.int (((lkp r z).getD n : Nat) : Int)
structure LdAt (H : Hp) (T : Addr) (w : Nat) (c : Ch) (ts : List Addr) : Prop where
  e : H T = some (.tup (ts.map V.ref))
  l : ts.length = c.length + 1
  k : ∀ (i : Nat) (t : Addr), ts[i]? = some t → H t = some (.tup (ldV c.length w (rowC c i)))
theorem LdAt.same {H H' : Hp} {T : Addr} {w : Nat} {c : Ch} {ts : List Addr} (h : LdAt H T w c ts) (s : Same H H') : LdAt H' T w c ts := ⟨s _ _ h.e, h.l, fun i t q => s _ _ (h.k i t q)⟩
def spLeads : Sp := fun vs H Q _ => ∃ (F : Addr) (ls : List Addr) (c : Ch) (w : Nat) (g : Str), vs = [.ref F, .str g] ∧ TbF H F ls c ∧ c.length ≤ 64 ∧ okSg w g ∧ ∀ (T : Addr) (ts : List Addr) (H' : Hp), Same H H' → H T = none → LdAt H' T w c ts → Q (.ref T) H'
theorem row_out {c : Ch} {i : Nat} (h : c.length ≤ i) : rowC c i = [] := by
  unfold rowC
  rw [List.getD_eq_getElem?_getD, List.getElem?_eq_none h]; rfl
theorem sgs_len (w : Nat) : (sgs.take w).length ≤ 4 := by
  rw [List.length_take]
  exact Nat.min_le_right ..
theorem dget_same {H H' : Hp} {a : Addr} {y : V} {o : Option V} (g : DGet H a y o) (s : Same H H') : DGet H' a y o := by
  rcases g with ⟨kvs, k, e, ey, l⟩ | ⟨kvs, k, b, e, ey, eb, l⟩
  · exact .inl ⟨kvs, k, Rd.same s e, ey, l⟩
  · exact .inr ⟨kvs, k, b, Rd.same s e, ey, s _ _ eb, l⟩
theorem dget_isD {H : Hp} {a : Addr} {y : V} {o : Option V} (g : DGet H a y o) : IsD H a := by
  rcases g with ⟨kvs, k, e, _, _⟩ | ⟨kvs, k, b, e, _, _, _⟩
  · rcases e with e | ⟨o, e⟩
    · exact .inl ⟨kvs, .inl e⟩
    · exact .inl ⟨kvs, .inr ⟨o, e⟩⟩
  · rcases e with e | ⟨o, e⟩
    · exact .inr ⟨kvs, .inl e⟩
    · exact .inr ⟨kvs, .inr ⟨o, e⟩⟩
theorem refs_of {R : Nat → Addr → Prop} : ∀ {zs : List V}, (∀ i z, zs[i]? = some z → ∃ t, z = .ref t ∧ R i t) → ∃ ts : List Addr, zs = ts.map V.ref ∧ ∀ (i : Nat) (t : Addr), ts[i]? = some t → R i t := fun {zs} => by
  induction zs generalizing R with
  | nil => exact fun _ => ⟨[], rfl, fun i t h => by cases h⟩
  | cons z zs ih =>
    intro h
    obtain ⟨t, rfl, r⟩ := h 0 z rfl
    obtain ⟨ts, rfl, k⟩ := ih (R := fun i => R (i + 1)) fun i z hz => h (i + 1) z hz
    refine ⟨t :: ts, rfl, fun i u hu => ?_⟩
    cases i with
    | zero => cases hu; exact r
    | succ i => exact k i u hu
section
variable {P : Program} {w : World} {K : PySem.W.Frag} {mg : Str → Option Value} {base : Heap} {ad : Str → Addr} {fd : Str → FuncData}
theorem scLeadsOf : FnScope ["table", "signs", "nowhere", "leading", "sign"] ["table", "signs"] (defScope sLeadsOf) := ⟨rfl, rfl, rfl, by decide +kernel, rfl, by decide +kernel, by decide +kernel⟩
theorem ok_leads_of (X : Tx K mg ad fd) : FnOk P w K mg base CX0 1 (ad "leads_of") (fd "leads_of") ["table", "signs"] spLeads := by
  refine X.F_leads_of.ok scLeadsOf (fun vs H Q E h => ?_) (fun cdv A outer s H vs Q E hr h => ?_)
  · obtain ⟨F, ls, c, w, g, rfl, tb, cl, sg, k⟩ := h
    rfl
  · obtain ⟨F, ls, c, w, g, rfl, tb, cl, sg, k⟩ := h
    have HU : (A.deeper (envOfC "leads_of" (defScope sLeadsOf) s.heap.objs.size (ad "leads_of") cdv)).units + 1 < cLine := by have := hr.un; omega
    refine ⟨_, (pss_cons (ps_set (i := 2) scLeadsOf.nd rfl (.inr rfl) (by exact (pe_callB (call_lenK (K := K) rfl) (by rfl) X.m_len (by decide +kernel) (pa_cons (pv 0) pa_nil))))
  (pss_one (ps_ret (by exact (pe_callTy (call_tuple_ofK (K := K) rfl) (by rfl) X.m_tuple (by decide +kernel) (pa_cons (pe_lc (own := [("leading", 3)]) (g := gName 3) rfl scLeadsOf.nd (pi_listK (K := K) rfl (pe_lst (StX.pa_star (pv 0) (pa_cons pe_dnewK pa_nil)))) (blkOk_by (own := [("leading", 3)]) (N := ["table", "signs", "nowhere", "leading", "sign"]) (sc := defScope sLeadsOf) (by decide +kernel)) (fun _ _ _ _ _ => pg_name (i := 3) scLeadsOf.nd rfl (Or.inr rfl)) (fun _ _ _ _ _ => pts_nil) (fun _ _ _ _ _ => (pe_callTy (call_tuple_ofK (K := K) rfl) (by rfl) X.m_tuple (by decide +kernel) (pa_cons (pe_lc (own := [("sign", 4)]) (g := gName 4) rfl scLeadsOf.nd (pi_str (pv 1)) (blkOk_by (own := [("sign", 4)]) (N := ["table", "signs", "nowhere", "leading", "sign"]) (by kernel_rfl)) (fun _ _ _ _ _ => pg_name (i := 4) scLeadsOf.nd rfl (Or.inl rfl)) (fun _ _ _ _ _ => pts_nil) (fun _ _ _ _ _ => (pe_dget2 HU (pv 3) (pv 4) (pv 2) ⟨rfl, rfl, rfl, rfl⟩))) pa_nil)))) pa_nil)))))), ?_⟩
    have hl : (ls.map V.ref).length = c.length := by rw [List.length_map, tb.l]
    refine ⟨.ref F, rfl, .ref F, _, rfl, .inl ⟨_, SqL.of tb.e, rfl⟩, ?_⟩
    rw [hl]
    refine ⟨.ref F, rfl, F, _, rfl, .inr (SqL.of tb.e), fun E0 nE => ⟨by rw [List.length_append, hl, sizeLine_eq]; show c.length + 1 ≤ _; omega, fun L0 nL => ?_⟩⟩
    have sE : Same H (upd (upd H E0 (.dK [])) L0 (.lst (ls.map V.ref ++ [.ref E0]))) := Same.trans (Same.new nE) (Same.new nL)
    have eL : (upd (upd H E0 (.dK [])) L0 (.lst (ls.map V.ref ++ [.ref E0]))) L0 = some (.lst (ls.map V.ref ++ [.ref E0])) := upd_same
    have eE : (upd (upd H E0 (.dK [])) L0 (.lst (ls.map V.ref ++ [.ref E0]))) E0 = some (.dK []) := Same.new nL _ _ upd_same
    generalize (upd (upd H E0 (.dK [])) L0 (.lst (ls.map V.ref ++ [.ref E0]))) = H1 at sE eL eE ⊢
    have len : (ls.map V.ref ++ [V.ref E0]).length = c.length + 1 := by rw [List.length_append, hl]; rfl
    refine ⟨L0, rfl, ⟨_, SqL.of eL⟩, fun D hD => ?_⟩
    refine lc_rel (w := walk_list (K := K) (a := L0) (xs := ls.map V.ref ++ [.ref E0])) (fun i v H' => ∃ t, v = .ref t ∧ t ≠ D ∧ H' t = some (.tup (ldV c.length w (rowC c i)))) hD (by rw [len]; omega) (fun i H' _ s => SqL.of (s _ _ eL)) (fun i v H' H2 up ⟨t, e1, e2, e3⟩ => ⟨t, e1, e2, up _ _ e2 e3⟩) (fun i x H' H2 hi s ⟨acc, eD⟩ ⟨e0, hx⟩ Nx hN => ?_) (mn_name _) (fun H' zs s eD lz R => ?_)
    · subst e0
      rw [len] at hi
      have get : ∀ z, ∃ a, x = .ref a ∧ DGet H2 a (.str z) ((lkp (rowC c i) z).map fun (n : Nat) => V.int (n : Int)) := fun z => by
        by_cases q : i < c.length
        · obtain ⟨a, o, h1, _, h3⟩ := tb.row q
          rw [List.getElem?_append_left (by rw [hl]; exact q), List.getElem?_map, h1] at hx
          cases hx
          exact ⟨a, rfl, .inl ⟨_, .inr z, .inr ⟨o, s _ _ (sE _ _ h3)⟩, rfl, (rowK_val z _).symm⟩⟩
        · rw [List.getElem?_append_right (by rw [hl]; omega), hl] at hx
          have : i - c.length = 0 := by omega
          rw [this] at hx
          cases hx
          refine ⟨E0, rfl, .inl ⟨[], .inr z, .inl (s _ _ eE), rfl, ?_⟩⟩
          rw [row_out (by omega)]; rfl
      obtain ⟨a, rfl, _⟩ := get (sgs.getD 0 "")
      refine gN ⟨rfl, ?_⟩
      refine ⟨.str g, rfl, g, rfl, fun D2 hD2 => ?_⟩
      have lg := okSg_len sg
      refine lc_map (w := walk_str (z := g)) (fun j => (ldV c.length w (rowC c i)).getD j .non) hD2 (by rw [← Array.length_toList, lg]; have := sgs_len w; omega) (fun _ _ _ _ => True.intro) (fun _ => rfl) (fun j y Hc Hd hj sc yy => ?_) (fun H3 s3 eD2 => ?_)
      · obtain ⟨rfl, c0, hc0, rfl⟩ := yy
        refine ⟨Same.refl, fun Q' hQ => ?_⟩
        have ez : (sgs.take w)[j]? = some (⟨#[c0]⟩ : Str) := by
          rw [← show _ = sgs.take w from sg, List.getElem?_map, Array.getElem?_toList, hc0]; rfl
        obtain ⟨a', ea, g'⟩ := get ⟨#[c0]⟩
        cases ea
        have g2 := dget_same g' sc
        refine ⟨.ref a, rfl, a, rfl, dget_isD g2, .str ⟨#[c0]⟩, rfl, .int (c.length : Nat), rfl, _, g2, ?_⟩
        have := hQ _ Same.refl
        have ev : (ldV c.length w (rowC c i)).getD j .non = V.int (((lkp (rowC c i) ⟨#[c0]⟩).getD c.length : Nat) : Int) := by
          unfold ldV
          rw [List.getD_eq_getElem?_getD, List.getElem?_map, ez]; rfl
        rw [ev] at this
        cases q : lkp (rowC c i) ⟨#[c0]⟩ with
        | none => rw [q] at this; exact this
        | some n => rw [q] at this; exact this
      · have er : (List.range g.cps.size).map (fun j => (ldV c.length w (rowC c i)).getD j .non) = ldV c.length w (rowC c i) := by
          have lw : (ldV c.length w (rowC c i)).length = g.cps.size := by
            unfold ldV
            rw [List.length_map, ← lg, Array.length_toList]
          rw [← lw]
          exact (range_map (g := id) fun j x hx => by rw [List.getD_eq_getElem?_getD, hx]; rfl).trans (List.map_id _)
        rw [er] at eD2
        refine ⟨D2, _, rfl, .inl ⟨SqL.of eD2, fun t ht => hN _ _ (Same.trans s3 (Same.new ht)) ⟨t, rfl, fun z => ?_, upd_same⟩⟩⟩
        rw [z] at ht
        have := s3 _ _ eD
        rw [this] at ht
        cases ht
    · refine ⟨D, zs, rfl, .inl ⟨SqL.of eD, fun T hT => ?_⟩⟩
      have ex : ∃ ts : List Addr, zs = ts.map V.ref ∧ ∀ (i : Nat) (t : Addr), ts[i]? = some t → H' t = some (.tup (ldV c.length w (rowC c i))) := refs_of fun i z hz => let ⟨t, e1, _, e3⟩ := R i z hz; ⟨t, e1, e3⟩
      obtain ⟨ts, rfl, ht⟩ := ex
      exact k T ts _ (Same.trans sE (Same.trans s (Same.new hT))) (none_back (Same.trans sE s) hT) ⟨upd_same, by rw [← List.length_map (f := V.ref), lz, len], fun i t q => Same.new hT _ _ (ht i t q)⟩
end
end K20
end

section
set_option maxHeartbeats 4000000
/-! sums -/
namespace K20
open PySem PySem.Spec PyProof.Rows L2
def numsV (F : Nat → Nat) (n : Nat) : List V := (List.range n).map (fun s => V.int ((F s : Nat) : Int)) ++ [V.int 0]
theorem numsV_len (F : Nat → Nat) (n : Nat) : (numsV F n).length = n + 1 := by
  unfold numsV
  rw [List.length_append, List.length_map, List.length_range]; rfl
theorem numsV_at {F : Nat → Nat} {n x : Nat} (h : x ≤ n) : atI (numsV F n) (x : Int) = some (.int ((if x < n then F x else 0 : Nat) : Int)) := by
  refine atI_nat ?_
  unfold numsV
  by_cases q : x < n
  · rw [List.getElem?_append_left (by simp; exact q), List.getElem?_map, List.getElem?_range q, if_pos q]; rfl
  · have : x = n := by omega
    subst this
    rw [List.getElem?_append_right (by simp), if_neg q]
    simp
theorem gv {c : Ch} (wf : WfC c) (F : Nat → Nat) (s : Nat) (z : Str) : (lkp (rowC c s) z).getD c.length ≤ c.length ∧ (if (lkp (rowC c s) z).getD c.length < c.length then F ((lkp (rowC c s) z).getD c.length) else 0) = atO F (lkp (rowC c s) z) := by
  cases e : lkp (rowC c s) z with
  | none => exact ⟨Nat.le_refl _, if_neg (Nat.lt_irrefl _)⟩
  | some g =>
    have := lkp_lt wf e
    exact ⟨Nat.le_of_lt this, if_pos this⟩
theorem okR_nil (w : Nat) : okR w [] := by
  unfold okR keysR
  simp
def sumF (c : Ch) (F : Nat → Nat) (s : Nat) : Nat := ((rowC c s).map fun e => F e.2).sum
theorem sumF_out {c : Ch} {F : Nat → Nat} {s : Nat} (h : c.length ≤ s) : sumF c F s = 0 := by
  unfold sumF
  rw [row_out h]; rfl
theorem row_okR {w : Nat} {c : Ch} (ok : okT w c) (s : Nat) : okR w (rowC c s) := by
  by_cases h : s < c.length
  · exact (rowOk ok h).1
  · rw [row_out (by omega)]; exact okR_nil w
def spOneSum : Sp := fun vs H Q _ => ∃ (T Nm : Addr) (ts : List Addr) (c : Ch) (w : Nat) (F : Nat → Nat), vs = [.ref T, .ref Nm] ∧ LdAt H T w c ts ∧ WfC c ∧ okT w c ∧ c.length ≤ 64 ∧ 2 ≤ w ∧ w ≤ 4 ∧ H Nm = some (.lst (numsV F c.length)) ∧
  ∀ (D : Addr) (H' : Hp), Same H H' → H D = none → H' D = some (.lst (numsV (sumF c F) c.length)) → Q (.ref D) H'
def spEnds : Sp := fun vs H Q _ => ∃ (T Nm : Addr) (ts : List Addr) (c : Ch) (w L : Nat) (F : Nat → Nat), vs = [.ref T, .int (L : Int), .ref Nm] ∧ LdAt H T w c ts ∧ WfC c ∧ okT w c ∧ c.length ≤ 64 ∧ 2 ≤ w ∧ w ≤ 4 ∧ L ≤ 1000 ∧ H Nm = some (.lst ((List.range c.length).map fun s => V.int ((F s : Nat) : Int))) ∧
  ∀ (D : Addr) (H' : Hp), Same H H' → H D = none → H' D = some (.lst ((List.range c.length).map fun s => V.int ((Nat.rec F (fun _ G => sumF c G) L s : Nat) : Int))) → Q (.ref D) H'
theorem cut_last (l : List V) (x : V) : cutV (l ++ [x]) none (some (-1)) = l := by
  unfold cutV
  have e : HT.sIx (l ++ [x]).length (l ++ [x]).length (some (-1)) = l.length := by
    show (if (-1 : Int) < 0 then ((-1 : Int) + ((l ++ [x]).length : Nat)).toNat else min (-1 : Int).toNat (l ++ [x]).length) = _
    rw [if_pos (by decide), List.length_append]
    show ((-1 : Int) + ((l.length + 1 : Nat) : Int)).toNat = _
    omega
  rw [e, HT.sIx_none, Nat.sub_zero, List.drop_zero, List.take_left]
section
variable {P : Program} {w : World} {K : PySem.W.Frag} {mg : Str → Option Value} {base : Heap} {ad : Str → Addr} {fd : Str → FuncData}
theorem scOneSum : FnScope ["leads", "numbers", "one", "two", "three", "four"] ["leads", "numbers"] (defScope sOneSum) := ⟨rfl, rfl, rfl, by decide +kernel, rfl, by decide +kernel, by decide +kernel⟩
theorem ok_one_sum (X : Tx K mg ad fd) : FnOk P w K mg base CX0 1 (ad "one_sum") (fd "one_sum") ["leads", "numbers"] spOneSum := by
  refine X.F_one_sum.ok scOneSum (fun vs H Q E h => ?_) (fun cdv A outer s H vs Q E hr h => ?_)
  · obtain ⟨T, Nm, ts, c, w, F, rfl, ld, wf, ok, cl, w2, w4, hN0, k⟩ := h
    rfl
  · obtain ⟨T, Nm, ts, c, w, F, rfl, ld, wf, ok, cl, w2, w4, hN0, k⟩ := h
    refine ⟨_, (pss_cons (ps_if (pt_cmpR op_eq (pe_callB (call_lenK (K := K) rfl) (by rfl) X.m_len (by decide +kernel) (pa_cons (pe_ix (ix_tupK (K := K) rfl) (pv 0) pe_int (fun _ _ => rfl)) pa_nil)) pe_int (nomark _))
  (pss_one (ps_ret (by exact (pe_lc (own := [("one", 2), ("two", 3)]) (g := gTup K 2 (gCons (gName 2) (gCons (gName 3) (gNil)))) rfl scOneSum.nd (pi_tupK (K := K) rfl (pv 0)) (blkOk_by (own := [("one", 2), ("two", 3)]) (N := ["leads", "numbers", "one", "two", "three", "four"]) (sc := defScope sOneSum) (by decide +kernel)) (fun _ _ _ _ _ => pg_tupK (K := K) rfl rfl (pgs_cons (pg_name (i := 2) scOneSum.nd rfl (Or.inl rfl)) (pgs_cons (pg_name (i := 3) scOneSum.nd rfl (Or.inl rfl)) (pgs_nil)))) (fun _ _ _ _ _ => pts_nil) (fun _ _ _ _ _ => (pe_op op_add (pe_ix (ix_listK (K := K) rfl) (pv 1) (pv 2) (fun _ _ => rfl)) (pe_ix (ix_listK (K := K) rfl) (pv 1) (pv 3) (fun _ _ => rfl))))))))
  pss_nil)
  (pss_cons (ps_if (pt_cmpR op_eq (pe_callB (call_lenK (K := K) rfl) (by rfl) X.m_len (by decide +kernel) (pa_cons (pe_ix (ix_tupK (K := K) rfl) (pv 0) pe_int (fun _ _ => rfl)) pa_nil)) pe_int (nomark _))
  (pss_one (ps_ret (by exact (pe_lc (own := [("one", 2), ("two", 3), ("three", 4)]) (g := gTup K 3 (gCons (gName 2) (gCons (gName 3) (gCons (gName 4) (gNil))))) rfl scOneSum.nd (pi_tupK (K := K) rfl (pv 0)) (blkOk_by (own := [("one", 2), ("two", 3), ("three", 4)]) (N := ["leads", "numbers", "one", "two", "three", "four"]) (sc := defScope sOneSum) (by decide +kernel)) (fun _ _ _ _ _ => pg_tupK (K := K) rfl rfl (pgs_cons (pg_name (i := 2) scOneSum.nd rfl (Or.inl rfl)) (pgs_cons (pg_name (i := 3) scOneSum.nd rfl (Or.inl rfl)) (pgs_cons (pg_name (i := 4) scOneSum.nd rfl (Or.inl rfl)) (pgs_nil))))) (fun _ _ _ _ _ => pts_nil) (fun _ _ _ _ _ => (pe_op op_add (pe_op op_add (pe_ix (ix_listK (K := K) rfl) (pv 1) (pv 2) (fun _ _ => rfl)) (pe_ix (ix_listK (K := K) rfl) (pv 1) (pv 3) (fun _ _ => rfl))) (pe_ix (ix_listK (K := K) rfl) (pv 1) (pv 4) (fun _ _ => rfl))))))))
  pss_nil)
  (pss_one (ps_ret (by exact (pe_lc (own := [("one", 2), ("two", 3), ("three", 4), ("four", 5)]) (g := gTup K 4 (gCons (gName 2) (gCons (gName 3) (gCons (gName 4) (gCons (gName 5) (gNil)))))) rfl scOneSum.nd (pi_tupK (K := K) rfl (pv 0)) (blkOk_by (own := [("one", 2), ("two", 3), ("three", 4), ("four", 5)]) (N := ["leads", "numbers", "one", "two", "three", "four"]) (sc := defScope sOneSum) (by decide +kernel)) (fun _ _ _ _ _ => pg_tupK (K := K) rfl rfl (pgs_cons (pg_name (i := 2) scOneSum.nd rfl (Or.inl rfl)) (pgs_cons (pg_name (i := 3) scOneSum.nd rfl (Or.inl rfl)) (pgs_cons (pg_name (i := 4) scOneSum.nd rfl (Or.inl rfl)) (pgs_cons (pg_name (i := 5) scOneSum.nd rfl (Or.inl rfl)) (pgs_nil)))))) (fun _ _ _ _ _ => pts_nil) (fun _ _ _ _ _ => (pe_op op_add (pe_op op_add (pe_op op_add (pe_ix (ix_listK (K := K) rfl) (pv 1) (pv 2) (fun _ _ => rfl)) (pe_ix (ix_listK (K := K) rfl) (pv 1) (pv 3) (fun _ _ => rfl))) (pe_ix (ix_listK (K := K) rfl) (pv 1) (pv 4) (fun _ _ => rfl))) (pe_ix (ix_listK (K := K) rfl) (pv 1) (pv 5) (fun _ _ => rfl)))))))))), ?_⟩
    obtain ⟨t0, e0⟩ : ∃ t0, ts[0]? = some t0 := ⟨ts[0]'(by rw [ld.l]; omega), List.getElem?_eq_getElem _⟩
    have h0 : (ts.map V.ref)[0]? = some (.ref t0) := by rw [List.getElem?_map, e0]; rfl
    refine ⟨.ref T, rfl, T, _, 0, .ref t0, rfl, rfl, SqT.of ld.e, atI_nat h0, .ref t0, _, rfl, .inr ⟨_, SqT.of (ld.k 0 t0 e0), rfl⟩, rfl, _, rfl, ?_⟩
    have hw : w = 2 ∨ w = 3 ∨ w = 4 := by omega
    rcases hw with rfl | rfl | rfl
    · refine ifT (by rw [show (ldV c.length 2 (rowC c 0)).length = 2 from rfl]; rfl) ?_
      refine ⟨.ref T, rfl, T, rfl, ⟨_, SqT.of ld.e⟩, fun D hD => ?_⟩
      refine lc_rel (w := walk_tup (K := K) (a := T) (xs := ts.map V.ref)) (fun i v H' => v = .int ((sumF c F i : Nat) : Int)) hD (by rw [List.length_map, ld.l]; omega) (fun i H' _ s => SqT.of (s _ _ ld.e)) (fun i v H' H2 up h => h) (fun i x H' H2 hi s _ ⟨e0, hx⟩ Nx hN => ?_) (mn_tup (mn_cons (mn_name _) (mn_cons (mn_name _) mn_nil))) (fun H' zs s eD lz R => ?_)
      · subst e0
        rw [List.getElem?_map] at hx
        cases et : ts[i]? with
        | none => rw [et] at hx; cases hx
        | some t =>
          rw [et] at hx
          cases hx
          have ht := s _ _ (ld.k i t et)
          have eN := s _ _ hN0
          refine ⟨t, _, rfl, SqT.of ht, rfl, _, _, rfl, _, _, rfl, rfl, rfl, ?_⟩
          refine ⟨.ref Nm, rfl, .int (((lkp (rowC c i) (PySem.Str.ofString "a")).getD c.length : Nat) : Int), rfl, Nm, _, _, _, rfl, rfl, SqL.of eN, numsV_at (gv wf F i _).1, .ref Nm, rfl, .int (((lkp (rowC c i) (PySem.Str.ofString "b")).getD c.length : Nat) : Int), rfl, Nm, _, _, _, rfl, rfl, SqL.of eN, numsV_at (gv wf F i _).1, _, _, rfl, rfl, ?_⟩
          have := hN (.int ((sumF c F i : Nat) : Int)) _ Same.refl rfl
          have e2 : ((sumF c F i : Nat) : Int) = (((if (lkp (rowC c i) (PySem.Str.ofString "a")).getD c.length < c.length then F ((lkp (rowC c i) (PySem.Str.ofString "a")).getD c.length) else 0) : Nat) : Int) + (((if (lkp (rowC c i) (PySem.Str.ofString "b")).getD c.length < c.length then F ((lkp (rowC c i) (PySem.Str.ofString "b")).getD c.length) else 0) : Nat) : Int) := by
            unfold sumF
            rw [← sum_row (row_okR ok i) F]
            show (([atO F (lkp (rowC c i) (PySem.Str.ofString "a")), atO F (lkp (rowC c i) (PySem.Str.ofString "b"))].sum : Nat) : Int) = _
            rw [(gv wf F i _).2, (gv wf F i _).2]
            simp [List.sum_cons]
            try omega
          rw [e2] at this
          exact this
      · refine k D _ s hD ?_
        have lz2 : zs.length = c.length + 1 := by rw [lz, List.length_map, ld.l]
        have ez : zs = numsV (sumF c F) c.length := by
          refine List.ext_getElem (by rw [lz2, numsV_len]) fun i h1 h2 => ?_
          have := R i _ (List.getElem?_eq_getElem h1)
          rw [this]
          have q := numsV_at (F := sumF c F) (n := c.length) (x := i) (by omega)
          have q2 : atI (numsV (sumF c F) c.length) (i : Int) = some (numsV (sumF c F) c.length)[i] := atI_nat (List.getElem?_eq_getElem h2)
          rw [q2] at q
          rw [Option.some.inj q]
          by_cases l : i < c.length
          · rw [if_pos l]
          · rw [if_neg l, sumF_out (by omega)]
        rw [← ez]
        exact eD
    · refine ifF (by rw [show (ldV c.length 3 (rowC c 0)).length = 3 from rfl]; rfl) ?_
      refine ⟨.ref T, rfl, T, _, 0, .ref t0, rfl, rfl, SqT.of ld.e, atI_nat h0, .ref t0, _, rfl, .inr ⟨_, SqT.of (ld.k 0 t0 e0), rfl⟩, rfl, _, rfl, ?_⟩
      refine ifT (by rw [show (ldV c.length 3 (rowC c 0)).length = 3 from rfl]; rfl) ?_
      refine ⟨.ref T, rfl, T, rfl, ⟨_, SqT.of ld.e⟩, fun D hD => ?_⟩
      refine lc_rel (w := walk_tup (K := K) (a := T) (xs := ts.map V.ref)) (fun i v H' => v = .int ((sumF c F i : Nat) : Int)) hD (by rw [List.length_map, ld.l]; omega) (fun i H' _ s => SqT.of (s _ _ ld.e)) (fun i v H' H2 up h => h) (fun i x H' H2 hi s _ ⟨e0, hx⟩ Nx hN => ?_) (mn_tup (mn_cons (mn_name _) (mn_cons (mn_name _) (mn_cons (mn_name _) mn_nil)))) (fun H' zs s eD lz R => ?_)
      · subst e0
        rw [List.getElem?_map] at hx
        cases et : ts[i]? with
        | none => rw [et] at hx; cases hx
        | some t =>
          rw [et] at hx
          cases hx
          have ht := s _ _ (ld.k i t et)
          have eN := s _ _ hN0
          refine ⟨t, _, rfl, SqT.of ht, rfl, _, _, rfl, _, _, rfl, _, _, rfl, rfl, rfl, ?_⟩
          refine ⟨.ref Nm, rfl, .int (((lkp (rowC c i) (PySem.Str.ofString "a")).getD c.length : Nat) : Int), rfl, Nm, _, _, _, rfl, rfl, SqL.of eN, numsV_at (gv wf F i _).1, .ref Nm, rfl, .int (((lkp (rowC c i) (PySem.Str.ofString "b")).getD c.length : Nat) : Int), rfl, Nm, _, _, _, rfl, rfl, SqL.of eN, numsV_at (gv wf F i _).1, _, _, rfl, rfl, .ref Nm, rfl, .int (((lkp (rowC c i) (PySem.Str.ofString "c")).getD c.length : Nat) : Int), rfl, Nm, _, _, _, rfl, rfl, SqL.of eN, numsV_at (gv wf F i _).1, _, _, rfl, rfl, ?_⟩
          have := hN (.int ((sumF c F i : Nat) : Int)) _ Same.refl rfl
          have e2 : ((sumF c F i : Nat) : Int) = (((if (lkp (rowC c i) (PySem.Str.ofString "a")).getD c.length < c.length then F ((lkp (rowC c i) (PySem.Str.ofString "a")).getD c.length) else 0) : Nat) : Int) + (((if (lkp (rowC c i) (PySem.Str.ofString "b")).getD c.length < c.length then F ((lkp (rowC c i) (PySem.Str.ofString "b")).getD c.length) else 0) : Nat) : Int) + (((if (lkp (rowC c i) (PySem.Str.ofString "c")).getD c.length < c.length then F ((lkp (rowC c i) (PySem.Str.ofString "c")).getD c.length) else 0) : Nat) : Int) := by
            unfold sumF
            rw [← sum_row (row_okR ok i) F]
            show (([atO F (lkp (rowC c i) (PySem.Str.ofString "a")), atO F (lkp (rowC c i) (PySem.Str.ofString "b")), atO F (lkp (rowC c i) (PySem.Str.ofString "c"))].sum : Nat) : Int) = _
            rw [(gv wf F i _).2, (gv wf F i _).2, (gv wf F i _).2]
            simp [List.sum_cons]
            try omega
          rw [e2] at this
          exact this
      · refine k D _ s hD ?_
        have lz2 : zs.length = c.length + 1 := by rw [lz, List.length_map, ld.l]
        have ez : zs = numsV (sumF c F) c.length := by
          refine List.ext_getElem (by rw [lz2, numsV_len]) fun i h1 h2 => ?_
          have := R i _ (List.getElem?_eq_getElem h1)
          rw [this]
          have q := numsV_at (F := sumF c F) (n := c.length) (x := i) (by omega)
          have q2 : atI (numsV (sumF c F) c.length) (i : Int) = some (numsV (sumF c F) c.length)[i] := atI_nat (List.getElem?_eq_getElem h2)
          rw [q2] at q
          rw [Option.some.inj q]
          by_cases l : i < c.length
          · rw [if_pos l]
          · rw [if_neg l, sumF_out (by omega)]
        rw [← ez]
        exact eD
    · refine ifF (by rw [show (ldV c.length 4 (rowC c 0)).length = 4 from rfl]; rfl) ?_
      refine ⟨.ref T, rfl, T, _, 0, .ref t0, rfl, rfl, SqT.of ld.e, atI_nat h0, .ref t0, _, rfl, .inr ⟨_, SqT.of (ld.k 0 t0 e0), rfl⟩, rfl, _, rfl, ?_⟩
      refine ifF (by rw [show (ldV c.length 4 (rowC c 0)).length = 4 from rfl]; rfl) ?_
      refine ⟨.ref T, rfl, T, rfl, ⟨_, SqT.of ld.e⟩, fun D hD => ?_⟩
      refine lc_rel (w := walk_tup (K := K) (a := T) (xs := ts.map V.ref)) (fun i v H' => v = .int ((sumF c F i : Nat) : Int)) hD (by rw [List.length_map, ld.l]; omega) (fun i H' _ s => SqT.of (s _ _ ld.e)) (fun i v H' H2 up h => h) (fun i x H' H2 hi s _ ⟨e0, hx⟩ Nx hN => ?_) (mn_tup (mn_cons (mn_name _) (mn_cons (mn_name _) (mn_cons (mn_name _) (mn_cons (mn_name _) mn_nil))))) (fun H' zs s eD lz R => ?_)
      · subst e0
        rw [List.getElem?_map] at hx
        cases et : ts[i]? with
        | none => rw [et] at hx; cases hx
        | some t =>
          rw [et] at hx
          cases hx
          have ht := s _ _ (ld.k i t et)
          have eN := s _ _ hN0
          refine ⟨t, _, rfl, SqT.of ht, rfl, _, _, rfl, _, _, rfl, _, _, rfl, _, _, rfl, rfl, rfl, ?_⟩
          refine ⟨.ref Nm, rfl, .int (((lkp (rowC c i) (PySem.Str.ofString "a")).getD c.length : Nat) : Int), rfl, Nm, _, _, _, rfl, rfl, SqL.of eN, numsV_at (gv wf F i _).1, .ref Nm, rfl, .int (((lkp (rowC c i) (PySem.Str.ofString "b")).getD c.length : Nat) : Int), rfl, Nm, _, _, _, rfl, rfl, SqL.of eN, numsV_at (gv wf F i _).1, _, _, rfl, rfl, .ref Nm, rfl, .int (((lkp (rowC c i) (PySem.Str.ofString "c")).getD c.length : Nat) : Int), rfl, Nm, _, _, _, rfl, rfl, SqL.of eN, numsV_at (gv wf F i _).1, _, _, rfl, rfl, .ref Nm, rfl, .int (((lkp (rowC c i) (PySem.Str.ofString "d")).getD c.length : Nat) : Int), rfl, Nm, _, _, _, rfl, rfl, SqL.of eN, numsV_at (gv wf F i _).1, _, _, rfl, rfl, ?_⟩
          have := hN (.int ((sumF c F i : Nat) : Int)) _ Same.refl rfl
          have e2 : ((sumF c F i : Nat) : Int) = (((if (lkp (rowC c i) (PySem.Str.ofString "a")).getD c.length < c.length then F ((lkp (rowC c i) (PySem.Str.ofString "a")).getD c.length) else 0) : Nat) : Int) + (((if (lkp (rowC c i) (PySem.Str.ofString "b")).getD c.length < c.length then F ((lkp (rowC c i) (PySem.Str.ofString "b")).getD c.length) else 0) : Nat) : Int) + (((if (lkp (rowC c i) (PySem.Str.ofString "c")).getD c.length < c.length then F ((lkp (rowC c i) (PySem.Str.ofString "c")).getD c.length) else 0) : Nat) : Int) + (((if (lkp (rowC c i) (PySem.Str.ofString "d")).getD c.length < c.length then F ((lkp (rowC c i) (PySem.Str.ofString "d")).getD c.length) else 0) : Nat) : Int) := by
            unfold sumF
            rw [← sum_row (row_okR ok i) F]
            show (([atO F (lkp (rowC c i) (PySem.Str.ofString "a")), atO F (lkp (rowC c i) (PySem.Str.ofString "b")), atO F (lkp (rowC c i) (PySem.Str.ofString "c")), atO F (lkp (rowC c i) (PySem.Str.ofString "d"))].sum : Nat) : Int) = _
            rw [(gv wf F i _).2, (gv wf F i _).2, (gv wf F i _).2, (gv wf F i _).2]
            simp [List.sum_cons]
            try omega
          rw [e2] at this
          exact this
      · refine k D _ s hD ?_
        have lz2 : zs.length = c.length + 1 := by rw [lz, List.length_map, ld.l]
        have ez : zs = numsV (sumF c F) c.length := by
          refine List.ext_getElem (by rw [lz2, numsV_len]) fun i h1 h2 => ?_
          have := R i _ (List.getElem?_eq_getElem h1)
          rw [this]
          have q := numsV_at (F := sumF c F) (n := c.length) (x := i) (by omega)
          have q2 : atI (numsV (sumF c F) c.length) (i : Int) = some (numsV (sumF c F) c.length)[i] := atI_nat (List.getElem?_eq_getElem h2)
          rw [q2] at q
          rw [Option.some.inj q]
          by_cases l : i < c.length
          · rw [if_pos l]
          · rw [if_neg l, sumF_out (by omega)]
        rw [← ez]
        exact eD
theorem scEndsSums : FnScope ["leads", "length", "numbers", "sums", "_"] ["leads", "length", "numbers"] (defScope sEndsSums) := ⟨rfl, rfl, rfl, by decide +kernel, rfl, by decide +kernel, by decide +kernel⟩
theorem ok_ends_sums (X : Tx K mg ad fd) : FnOk P w K mg base CX0 2 (ad "ends_sums") (fd "ends_sums") ["leads", "length", "numbers"] spEnds := by
  have G_one_sum := ok_one_sum (P := P) (w := w) (base := base) X
  refine X.F_ends_sums.ok scEndsSums (fun vs H Q E h => ?_) (fun cdv A outer s H vs Q E hr h => ?_)
  · obtain ⟨T, Nm, ts, c, w, L, F, rfl, ld, wf, ok, cl, w2, w4, lL, hN0, k⟩ := h
    rfl
  · obtain ⟨T, Nm, ts, c, w, L, F, rfl, ld, wf, ok, cl, w2, w4, lL, hN0, k⟩ := h
    have HR_one_sum : Room 1 _ := hr
    refine ⟨_, (pss_cons (ps_set (i := 3) scEndsSums.nd rfl (.inl rfl) (by exact (pe_lst (StX.pa_star (pv 2) (pa_cons pe_int pa_nil)))))
  (pss_cons (ps_for PassesOwn.never rfl (pi_range1 (by rfl) X.m_range (pa_cons (pv 1) pa_nil)) (pg_name (i := 4) scEndsSums.nd rfl (.inl rfl))
  (pss_one (ps_set (i := 3) scEndsSums.nd rfl (.inl rfl) (by exact (pe_call G_one_sum HR_one_sum (by rfl) X.g_one_sum X.F_one_sum.kp X.b_one_sum .nil pass0 (pa_cons (pv 0) (pa_cons (pv 3) pa_nil)))))))
  (pss_one (ps_ret (by exact (pe_slice sl_list (pv 3) po_none (po_some (pe_un un_neg pe_int)))))))), ?_⟩
    refine ⟨.ref Nm, rfl, Nm, _, rfl, .inr (SqL.of hN0), ⟨by rw [List.length_append, List.length_map, List.length_range, sizeLine_eq]; show c.length + 1 ≤ _; omega, fun S0 nS => ?_⟩⟩
    refine ⟨.int (L : Int), rfl, L, rfl, by omega, by omega, ?_⟩
    have sL := Same.new nS (o := .lst ((List.range c.length).map (fun s => V.int ((F s : Nat) : Int)) ++ [V.int 0]))
    refine for_range (lo := 0) (n := ((L : Int)).toNat) (fun i σ H' => ∃ (S : Addr) (r4 : Option V), σ = [some (.ref T), some (.int (L : Int)), some (.ref Nm), some (.ref S), r4] ∧ Same H H' ∧ H S = none ∧ H' S = some (.lst (numsV (Nat.rec F (fun _ G => sumF c G) i) c.length))) ⟨S0, _, rfl, sL, nS, upd_same⟩ ?_ ?_
    · rintro i σ H' hi ⟨S, r4, rfl, s, nS', eS⟩
      refine gN ?_
      refine ⟨.ref T, rfl, .ref S, rfl, T, S, ts, c, w, _, rfl, ld.same s, wf, ok, cl, w2, w4, eS, fun D H2 s2 nD eD => ⟨D, _, rfl, Same.trans s s2, none_back s nD, eD⟩⟩
    · rintro σ H' ⟨S, r4, rfl, s, nS', eS⟩
      refine ⟨.ref S, rfl, 1, rfl, _, rfl, S, _, rfl, SqL.of eS, fun D hD => ?_⟩
      refine k D _ (Same.trans s (Same.new hD)) (none_back s hD) ?_
      rw [upd_same]
      unfold numsV
      rw [Int.toNat_natCast, cut_last]
end
end K20
end

section
set_option maxHeartbeats 4000000
/-! marks, kinds -/
namespace K20
open PySem PySem.Spec PyProof.Rows L2
def kL (m : List Int) : List Key := m.map Sum.inl
theorem kL_V (m : List Int) : (kL m).map kV = m.map V.int := by
  unfold kL
  rw [List.map_map]; rfl
theorem kL_inj (a b : List Int) (h : kL a = kL b) : a = b := (List.map_inj_right (fun a b => Sum.inl.inj)).mp h
def spNumbered : Sp := fun vs H Q _ => ∃ (L : Addr) (ts : List Addr) (ms : List (List Int)), vs = [.ref L] ∧ H L = some (.lst (ts.map V.ref)) ∧ ts.length = ms.length ∧ ms.length ≤ 1000 ∧ (∀ (i : Nat) (t : Addr), ts[i]? = some t → ∃ m, ms[i]? = some m ∧ H t = some (.tup (m.map V.int))) ∧
  ∀ (D : Addr) (H' : Hp), Same H H' → H D = none → H' D = some (.lst (intsV (numF ms))) → Q (.ref D) H'
theorem nubs_pre (ms : List (List Int)) (i : Nat) : ∃ t, nubs ms = nubs (ms.take i) ++ t := by
  have : nubs ms = nubsO (nubs (ms.take i)) (ms.drop i) := by
    unfold nubs
    rw [← nubsO_app, List.take_append_drop]
  rw [this]
  exact nubsO_pre _ _
theorem nubs_succ {ms : List (List Int)} {i : Nat} {m : List Int} (h : ms[i]? = some m) : nubs (ms.take (i + 1)) = addM (nubs (ms.take i)) m := by
  unfold nubs
  rw [List.take_add_one, h, Option.toList_some, nubsO_app]; rfl
theorem idx_take {ms : List (List Int)} {i : Nat} {m : List Int} (h : m ∈ nubs (ms.take i)) : ixM (nubs ms) m = ixM (nubs (ms.take i)) m := by
  obtain ⟨t, e⟩ := nubs_pre ms i
  rw [e, idx_pre h]
theorem nubs_len (ms : List (List Int)) (i : Nat) : (nubs (ms.take i)).length ≤ ms.length := by
  have : ∀ (l o : List (List Int)), (nubsO o l).length ≤ o.length + l.length := by
    intro l
    induction l with
    | nil => exact fun o => Nat.le_refl _
    | cons m l ih =>
      intro o
      have h1 := ih (addM o m)
      have h2 : (addM o m).length ≤ o.length + 1 := by
        unfold addM
        split
        · omega
        · rw [List.length_append]; exact Nat.le_refl _
      show (nubsO (addM o m) l).length ≤ _
      rw [List.length_cons]
      omega
  have h := this (ms.take i) []
  rw [List.length_nil, Nat.zero_add, List.length_take] at h
  exact Nat.le_trans h (Nat.min_le_right ..)
section
variable {P : Program} {w : World} {K : PySem.W.Frag} {mg : Str → Option Value} {base : Heap} {ad : Str → Addr} {fd : Str → FuncData}
theorem scNumbered : FnScope ["marks", "numbers", "found", "mark"] ["marks"] (defScope sNumbered) := ⟨rfl, rfl, rfl, by decide +kernel, rfl, by decide +kernel, by decide +kernel⟩
theorem ok_numbered (X : Tx K mg ad fd) : FnOk P w K mg base CX0 1 (ad "numbered") (fd "numbered") ["marks"] spNumbered := by
  refine X.F_numbered.ok scNumbered (fun vs H Q E h => ?_) (fun cdv A outer s H vs Q E hr h => ?_)
  · obtain ⟨L, ts, ms, rfl, hL, lt, ml, hts, k⟩ := h
    rfl
  · obtain ⟨L, ts, ms, rfl, hL, lt, ml, hts, k⟩ := h
    have HU : (A.deeper (envOfC "numbered" (defScope sNumbered) s.heap.objs.size (ad "numbered") cdv)).units + 1 < cLine := by have := hr.un; omega
    refine ⟨_, (pss_cons (ps_set (i := 1) scNumbered.nd rfl (.inl rfl) (by exact pe_dnewT))
  (pss_cons (ps_set (i := 2) scNumbered.nd rfl (.inl rfl) (by exact (pe_lst pa_nil)))
  (pss_cons (ps_for PassesOwn.never rfl (pi_list (pv 0)) (pg_name (i := 3) scNumbered.nd rfl (.inl rfl))
  (pss_cons (ps_if (pt_cmp (pc_dnotin HU (pv 3) (pv 1)))
  (pss_one (ps_asg (by exact (pe_callB call_len_dT (by rfl) X.m_len (by decide +kernel) (pa_cons (pv 1) pa_nil))) (pg_sub (pv 1) (pv 3) (set_dict HU))))
  pss_nil)
  (pss_one (ps_expr (by exact (pe_bm PySem.F.plainAttrs_list PySem.F.slot_list_append PySem.F.type_list_append mt_append (pv 2) (pa_cons (pe_dget HU (pv 1) (pv 3) (fun _ _ => rfl)) pa_nil)))))))
  (pss_one (ps_ret (by exact (pv 2))))))), ?_⟩
    refine fun M nM => ?_
    refine ⟨(by show 0 ≤ sizeLine; omega), fun O nO => ?_⟩
    have nMO : M ≠ O := ne_of_none upd_same nO
    have eM : (upd (upd H M (.dT [])) O (.lst [])) M = some (.dT (plc kL 0 (nubs (ms.take 0)))) := by
      rw [upd_ne nMO, upd_same, List.take_zero]; rfl
    have sH : Same H (upd (upd H M (.dT [])) O (.lst [])) := Same.trans (Same.new nM) (Same.new nO)
    have eO : (upd (upd H M (.dT [])) O (.lst [])) O = some (.lst (intsV ((numF ms).take 0))) := by
      rw [upd_same, List.take_zero]; rfl
    have nO' : H O = none := none_back (Same.new nM) nO
    generalize (upd (upd H M (.dT [])) O (.lst [])) = H1 at eM sH eO ⊢
    refine ⟨.ref L, rfl, L, rfl, ⟨_, SqL.of (sH _ _ hL)⟩, ?_⟩
    refine for_it (w := walk_list (K := K) (a := L) (xs := ts.map V.ref)) (fun i σ H' => ∃ r3, σ = [some (.ref L), some (.ref M), some (.ref O), r3] ∧ Same H H' ∧ H' M = some (.dT (plc kL 0 (nubs (ms.take i)))) ∧ H' O = some (.lst (intsV ((numF ms).take i)))) ⟨_, rfl, sH, eM, eO⟩ (fun i σ H' _ ⟨_, _, s, _⟩ => SqL.of (s _ _ hL)) ?_ ?_
    · rintro i x σ H' H2 hi ⟨r3, rfl, s, eM, eO⟩ ⟨e0, hx⟩
      subst e0
      rw [List.getElem?_map] at hx
      cases et : ts[i]? with
      | none => rw [et] at hx; cases hx
      | some t =>
        rw [et] at hx
        cases hx
        obtain ⟨m, hm, ht0⟩ := hts i t et
        have ht : H2 t = some (.tup ((kL m).map kV)) := by rw [kL_V]; exact s _ _ ht0
        have nMt : t ≠ M := fun z => by rw [z, nM] at ht0; cases ht0
        have nOt : t ≠ O := fun z => by rw [z, nO'] at ht0; cases ht0
        have g : DGet H2 M (.ref t) (valV (plc kL 0 (nubs (ms.take i))) (kL m)) := .inr ⟨_, kL m, t, .inl eM, rfl, ht, rfl⟩
        have num : (numF ms)[i]? = some (ixM (nubs ms) m) := by
          unfold numF
          rw [List.getElem?_map, hm]; rfl
        have ez := nubs_succ hm
        have fin : ∀ H3 : Hp, Same H H3 → H3 M = some (.dT (plc kL 0 (nubs (ms.take (i + 1))))) → H3 O = some (.lst (intsV ((numF ms).take i))) → H3 t = some (.tup ((kL m).map kV)) → m ∈ nubs (ms.take (i + 1)) →
            tBM K "list" rAppend (tVar 2) (tCons (tDGet (tVar 1) (tVar 3)) tNil) [some (.ref L), some (.ref M), some (.ref O), some (.ref t)] H3 (fun _ H' => ∃ r3, [some (V.ref L), some (V.ref M), some (V.ref O), some (V.ref t)] = [some (.ref L), some (.ref M), some (.ref O), r3] ∧ Same H H' ∧ H' M = some (.dT (plc kL 0 (nubs (ms.take (i + 1))))) ∧ H' O = some (.lst (intsV ((numF ms).take (i + 1))))) := by
          intro H3 s3 eM3 eO3 ht3 mm
          refine ⟨.ref O, rfl, .inl ⟨rfl, _, SqL.of eO3⟩, .ref M, rfl, .ref t, rfl, M, .int ((0 + ixM (nubs (ms.take (i + 1))) m : Nat) : Int), rfl, .inr ⟨_, kL m, t, .inl eM3, rfl, ht3, ?_⟩, O, _, _, rfl, rfl, eO3, ?_, ?_⟩
          · rw [plc_val kL_inj, if_pos mm]
          · unfold intsV
            rw [List.length_map, List.length_take, sizeLine_eq]
            have := Nat.min_le_right i (numF ms).length
            rw [numF_len] at this ⊢
            omega
          · have nMO' : M ≠ O := nMO
            refine ⟨_, rfl, fun b u e => ?_, ?_, ?_⟩
            · rw [upd_ne (ne_of_none e nO')]; exact s3 _ _ e
            · rw [upd_ne nMO']; exact eM3
            · have tk : (numF ms).take (i + 1) = (numF ms).take i ++ [ixM (nubs (ms.take (i + 1))) m] := by rw [List.take_add_one, num, idx_take mm]; rfl
              rw [upd_same, tk, Nat.zero_add]
              unfold intsV
              rw [List.map_append]; rfl
        refine ⟨.ref t, rfl, .ref M, rfl, M, _, rfl, g, _, rfl, ?_⟩
        by_cases mm : m ∈ nubs (ms.take i)
        · rw [plc_val kL_inj, if_pos mm]
          have e2 : nubs (ms.take (i + 1)) = nubs (ms.take i) := by rw [ez]; unfold addM; rw [if_pos mm]
          exact iteF (fin H2 s (by rw [e2]; exact eM) eO ht (by rw [e2]; exact mm))
        · rw [plc_val kL_inj, if_neg mm]
          refine iteT ?_
          refine ⟨.ref M, rfl, M, _, rfl, eM, .ref M, rfl, .ref t, rfl, M, _, rfl, .inr ⟨_, kL m, t, eM, rfl, ht, by rw [plc_len, sizeLine_eq]; have := nubs_len ms i; omega, rfl⟩, ?_⟩
          have e2 : nubs (ms.take (i + 1)) = nubs (ms.take i) ++ [m] := by rw [ez]; unfold addM; rw [if_neg mm]
          refine fin _ (fun b u e => by rw [upd_ne (ne_of_none e nM)]; exact s _ _ e) ?_ ?_ ?_ (by rw [e2]; exact List.mem_append_right _ (List.mem_singleton.mpr rfl))
          · rw [upd_same, plc_put kL_inj mm (by rw [plc_len]), e2]
          · rw [upd_ne nMO.symm]; exact eO
          · rw [upd_ne nMt]; exact ht
    · rintro σ H' ⟨r3, rfl, s, eM, eO⟩
      refine ⟨.ref O, rfl, k O H' s nO' ?_⟩
      rw [eO]
      have : (numF ms).take (ts.map V.ref).length = numF ms := List.take_of_length_le (by rw [numF_len, List.length_map, lt]; exact Nat.le_refl _)
      rw [this]
end
end K20
end

section
set_option maxHeartbeats 4000000
/-! kinds -/
namespace K20
open PySem PySem.Spec PyProof.Rows L2
def spKinds : Sp := fun vs H Q _ => ∃ (F : Addr) (ls : List Addr) (c : Ch) (w : Nat), vs = [.ref F] ∧ TbF H F ls c ∧ WfC c ∧ okT w c ∧ c.length ≤ 64 ∧
  ∀ (D : Addr) (ks : List Nat) (H' : Hp), Same H H' → H D = none → H' D = some (.lst (intsV ks)) → ks.length = c.length → (∀ s t, s < c.length → t < c.length → (ks.getD s 0 = ks.getD t 0 ↔ Lw c s t)) → Q (.ref D) H'
theorem max_kd {c : Ch} {r m : Nat} {ks : List Nat} (K : Kd c r ks m) (h : 0 < c.length) {x : Int} (hx : x ∈ ks.map fun (t : Nat) => (t : Int)) (le : ∀ y ∈ ks.map (fun (t : Nat) => (t : Int)), y ≤ x) : x = (m : Int) - 1 := by
  obtain ⟨t, ht, rfl⟩ := List.mem_map.mp hx
  have h1 := K.lt t ht
  have h2 := K.all (m - 1) (by omega)
  have := le _ (List.mem_map_of_mem h2)
  omega
theorem okSg4 : okSg 4 (PySem.Str.ofString "abcd") := by
  unfold okSg
  decide +kernel
theorem ints_split (ks : List Nat) : intsV ks = (ks.map fun (t : Nat) => (t : Int)).map V.int := by
  unfold intsV
  rw [List.map_map]; rfl
theorem six_last (l : List V) (x : V) : HT.sIx (l ++ [x]).length (l ++ [x]).length (some (-1)) = l.length := by
  show (if (-1 : Int) < 0 then ((-1 : Int) + ((l ++ [x]).length : Nat)).toNat else min (-1 : Int).toNat (l ++ [x]).length) = _
  rw [if_pos (by decide), List.length_append]
  show ((-1 : Int) + ((l.length + 1 : Nat) : Int)).toNat = _
  omega
theorem kn_at {ks : List Nat} {c : Ch} (wf : WfC c) (hk : ks.length = c.length) (s : Nat) (z : Str) : atI (intsV ks ++ [V.int (-1)]) (((lkp (rowC c s) z).getD c.length : Nat) : Int) = some (.int (knO ks (lkp (rowC c s) z))) := by
  refine atI_nat ?_
  cases e : lkp (rowC c s) z with
  | none =>
    show (intsV ks ++ [V.int (-1)])[c.length]? = _
    rw [List.getElem?_append_right (by unfold intsV; rw [List.length_map, hk]; exact Nat.le_refl _)]
    unfold intsV
    rw [List.length_map, hk, Nat.sub_self]; rfl
  | some g =>
    have lg := lkp_lt wf e
    show (intsV ks ++ [V.int (-1)])[g]? = _
    unfold intsV
    rw [List.getElem?_append_left (by rw [List.length_map, hk]; exact lg), List.getElem?_map]
    show _ = some (V.int ((ks.getD g 0 : Nat) : Int))
    rw [List.getD_eq_getElem?_getD, List.getElem?_eq_getElem (by rw [hk]; exact lg)]; rfl
section
variable {P : Program} {w : World} {K : PySem.W.Frag} {mg : Str → Option Value} {base : Heap} {ad : Str → Addr} {fd : Str → FuncData}
theorem scKindsOf : FnScope ["table", "leads", "kinds", "known", "finer", "_", "one", "two", "three", "four"] ["table"] (defScope sKindsOf) := ⟨rfl, rfl, rfl, by decide +kernel, rfl, by decide +kernel, by decide +kernel⟩
theorem ok_kinds_of (X : Tx K mg ad fd) : FnOk P w K mg base CX0 2 (ad "kinds_of") (fd "kinds_of") ["table"] spKinds := by
  have G_leads_of := ok_leads_of (P := P) (w := w) (base := base) X
  have G_numbered := ok_numbered (P := P) (w := w) (base := base) X
  refine X.F_kinds_of.ok scKindsOf (fun vs H Q E h => ?_) (fun cdv A outer s H vs Q E hr h => ?_)
  · obtain ⟨F, ls, c, w, rfl, tb, wf, ok, cl, k⟩ := h
    rfl
  · obtain ⟨F, ls, c, w, rfl, tb, wf, ok, cl, k⟩ := h
    have HR_leads_of : Room 1 _ := hr
    have HR_numbered : Room 1 _ := hr
    obtain ⟨_, gA⟩ := X.g_ALL_SIGNS
    refine ⟨_, (pss_cons (ps_set (i := 1) scKindsOf.nd rfl (.inl rfl) (by exact (pe_slice sl_tup (pe_call G_leads_of HR_leads_of (by rfl) X.g_leads_of X.F_leads_of.kp X.b_leads_of .nil pass0 (pa_cons (pv 0) (pa_cons (pe_glob (v := .str "abcd") (by rfl) gA ⟨_, rfl⟩) pa_nil))) po_none (po_some (pe_un un_neg pe_int)))))
  (pss_cons (ps_setLc (i := 2) (own := [("_", 5)]) (g := gName 5) rfl scKindsOf.nd rfl rfl (by rfl) (pi_listK (K := K) rfl (pv 0)) (blkOk_by (own := [("_", 5)]) (N := ["table", "leads", "kinds", "known", "finer", "_", "one", "two", "three", "four"]) (sc := defScope sKindsOf) (by decide +kernel)) (fun _ _ _ _ _ => pg_name (i := 5) scKindsOf.nd rfl (Or.inl rfl)) (fun _ _ _ _ _ => pts_nil) (fun _ _ _ _ _ => pe_int))
  (pss_one (ps_while PassesOwn.never (pt_val pe_bl)
  (pss_cons (ps_set (i := 3) scKindsOf.nd rfl (.inr rfl) (by exact (pe_lst (StX.pa_star (pv 2) (pa_cons (pe_un un_neg pe_int) pa_nil)))))
  (pss_cons (ps_set (i := 4) scKindsOf.nd rfl (.inl rfl) (by exact (pe_call G_numbered HR_numbered (by rfl) X.g_numbered X.F_numbered.kp X.b_numbered .nil pass0 (pa_cons (pe_lc (own := [("one", 6), ("two", 7), ("three", 8), ("four", 9)]) (g := gTup K 4 (gCons (gName 6) (gCons (gName 7) (gCons (gName 8) (gCons (gName 9) (gNil)))))) rfl scKindsOf.nd (pi_tupK (K := K) rfl (pv 1)) (blkOk_by (own := [("one", 6), ("two", 7), ("three", 8), ("four", 9)]) (N := ["table", "leads", "kinds", "known", "finer", "_", "one", "two", "three", "four"]) (sc := defScope sKindsOf) (by decide +kernel)) (fun _ _ _ _ _ => pg_tupK (K := K) rfl rfl (pgs_cons (pg_name (i := 6) scKindsOf.nd rfl (Or.inl rfl)) (pgs_cons (pg_name (i := 7) scKindsOf.nd rfl (Or.inl rfl)) (pgs_cons (pg_name (i := 8) scKindsOf.nd rfl (Or.inl rfl)) (pgs_cons (pg_name (i := 9) scKindsOf.nd rfl (Or.inl rfl)) (pgs_nil)))))) (fun _ _ _ _ _ => pts_nil) (fun _ _ _ _ _ => (pe_tup (pa_cons (pe_ix (ix_listK (K := K) rfl) (pv 3) (pv 6) (fun _ _ => rfl)) (pa_cons (pe_ix (ix_listK (K := K) rfl) (pv 3) (pv 7) (fun _ _ => rfl)) (pa_cons (pe_ix (ix_listK (K := K) rfl) (pv 3) (pv 8) (fun _ _ => rfl)) (pa_cons (pe_ix (ix_listK (K := K) rfl) (pv 3) (pv 9) (fun _ _ => rfl)) pa_nil))))))) pa_nil))))
  (pss_cons (ps_if (pt_cmpR op_eq (pe_callB (cr_maxK (K := K) rfl) (by rfl) X.m_max (by decide +kernel) (pa_cons (pv 4) pa_nil)) (pe_callB (cr_maxK (K := K) rfl) (by rfl) X.m_max (by decide +kernel) (pa_cons (pv 2) pa_nil)) (nomark _))
  (pss_one (ps_ret (by exact (pv 2))))
  pss_nil)
  (pss_one (ps_set (i := 2) scKindsOf.nd rfl (.inl rfl) (by exact (pv 4))))))))))), ?_⟩
    refine ⟨.ref F, rfl, F, ls, c, 4, _, rfl, tb, cl, okSg4, fun T ts H1 s1 nT ld => ?_⟩
    obtain ⟨us, u, rfl⟩ : ∃ us u, ts = us ++ [u] := by
      rcases List.eq_nil_or_concat ts with h | ⟨us, u, h⟩
      · have := ld.l
        rw [h] at this
        cases this
      · exact ⟨us, u, by rw [h, List.concat_eq_append]⟩
    have lus : us.length = c.length := by
      have := ld.l
      rw [List.length_append] at this
      exact Nat.add_right_cancel this
    have eT : H1 T = some (.tup (us.map V.ref ++ [.ref u])) := by
      rw [ld.e, List.map_append]; rfl
    refine ⟨1, rfl, _, rfl, T, _, rfl, SqT.of eT, fun z => ?_, fun P1 nP1 => ?_⟩
    · have := z.2
      rw [six_last, List.length_append] at this
      exact absurd this (by show ¬ _ = _ + 1; omega)
    rw [cut_last]
    have s2 := Same.trans s1 (Same.new nP1 (o := .tup (us.map V.ref)))
    have eP : (upd H1 P1 (.tup (us.map V.ref))) P1 = some (.tup (us.map V.ref)) := upd_same
    have hus : ∀ (i : Nat) (t : Addr), us[i]? = some t → (upd H1 P1 (.tup (us.map V.ref))) t = some (.tup (ldV c.length 4 (rowC c i))) := fun i t q => Same.new nP1 _ _ (ld.k i t (by rw [List.getElem?_append_left (List.getElem?_eq_some_iff.mp q).1]; exact q))
    generalize (upd H1 P1 (.tup (us.map V.ref))) = H2 at s2 eP hus ⊢
    have hl : (ls.map V.ref).length = c.length := by rw [List.length_map, tb.l]
    refine ⟨.ref F, rfl, F, rfl, ⟨_, SqL.of (s2 _ _ tb.e)⟩, fun K0 nK0 => ?_⟩
    refine lc_map (w := walk_list (K := K) (a := F) (xs := ls.map V.ref)) (fun _ => V.int 0) nK0 (by rw [hl]; omega) (fun i Hc _ sc => SqL.of (sc _ _ (s2 _ _ tb.e))) (fun _ => rfl) (fun i x Hc Hd hi sc y => ?_) (fun H3 s3 eK0 => ?_)
    · obtain ⟨rfl, _⟩ := y
      exact ⟨Same.refl, fun Q' hQ => hQ _ Same.refl⟩
    · rw [hl] at eK0
      have eK0' : H3 K0 = some (.lst (intsV (kindsF c 0))) := by
        rw [eK0]
        congr 2
        unfold intsV kindsF
        rw [List.map_const', List.length_range, List.map_replicate]; rfl
      have s03 := Same.trans s2 s3
      have nK0' : H K0 = none := none_back s2 nK0
      let W : Nat → L2.St → Hp → Prop := fun m σ H' => ∃ (Kk : Addr) (r cn : Nat) (ks : List Nat) (r3 r4 r5 r6 r7 r8 r9 : Option V), σ = [some (.ref F), some (.ref P1), some (.ref Kk), r3, r4, r5, r6, r7, r8, r9] ∧ m = c.length - cn ∧ Kd c r ks cn ∧ cn ≤ c.length ∧ Same H H' ∧ Same H2 H' ∧ H Kk = none ∧ H' Kk = some (.lst (intsV ks))
      refine ⟨W,
        ⟨_, K0, 0, 1, kindsF c 0, _, _, _, _, _, _, _, rfl, rfl, kd_zero wf, wf.1, s03, s3, nK0', eK0'⟩, ?_⟩
      rintro m σ H4 ⟨Kk, r, cn, ks, r3, r4, r5, r6, r7, r8, r9, rfl, rfl, KD, hcn, s4, s24, nKk, eKk⟩
      refine ⟨true, rfl, iteT ⟨fun σ' H' => ∃ m', m' < c.length - cn ∧ W m' σ' H', fun _ _ z => z, ?_⟩⟩
      refine ⟨.ref Kk, rfl, Kk, _, rfl, .inr (SqL.of eKk), 1, rfl, by rw [List.length_append]; unfold intsV; rw [List.length_map, KD.len, sizeLine_eq]; show c.length + 1 ≤ _; omega, fun Kn nKn => ?_⟩
      have s5 := Same.trans s4 (Same.new nKn (o := .lst (intsV ks ++ [V.int (-1)])))
      have s25 := Same.trans s24 (Same.new nKn (o := .lst (intsV ks ++ [V.int (-1)])))
      have eKn : (upd H4 Kn (.lst (intsV ks ++ [V.int (-1)]))) Kn = some (.lst (intsV ks ++ [V.int (-1)])) := upd_same
      have eKk5 := Same.new nKn (o := .lst (intsV ks ++ [V.int (-1)])) _ _ eKk
      refine gN ?_
      generalize (upd H4 Kn (.lst (intsV ks ++ [V.int (-1)]))) = H5 at s5 s25 eKn eKk5 ⊢
      refine ⟨.ref P1, rfl, P1, rfl, ⟨_, SqT.of (s25 _ _ eP)⟩, fun D nD => ?_⟩
      refine lc_rel (w := walk_tup (K := K) (a := P1) (xs := us.map V.ref)) (fun i v H' => ∃ t, v = .ref t ∧ t ≠ D ∧ H' t = some (.tup ((mk ks (rowC c i)).map V.int))) nD (by rw [List.length_map, lus]; omega) (fun i H' _ s => SqT.of (s _ _ (s25 _ _ eP))) (fun i v H' H6 up ⟨t, e1, e2, e3⟩ => ⟨t, e1, e2, up _ _ e2 e3⟩) (fun i x H' H6 hi s ⟨acc, eD⟩ ⟨e0, hx⟩ Nx hN => ?_) (mn_tup (mn_cons (mn_name _) (mn_cons (mn_name _) (mn_cons (mn_name _) (mn_cons (mn_name _) mn_nil))))) (fun H6 zs s eD lz R => ?_)
      · subst e0
        rw [List.getElem?_map] at hx
        cases et : us[i]? with
        | none => rw [et] at hx; cases hx
        | some t =>
          rw [et] at hx
          cases hx
          have ht := s _ _ (s25 _ _ (hus i t et))
          have eK4 := s _ _ eKn
          refine ⟨t, _, rfl, SqT.of ht, rfl, _, _, rfl, _, _, rfl, _, _, rfl, _, _, rfl, rfl, rfl, ?_⟩
          refine ⟨.ref Kn, rfl, .int (((lkp (rowC c i) (PySem.Str.ofString "a")).getD c.length : Nat) : Int), rfl, Kn, _, _, _, rfl, rfl, SqL.of eK4, kn_at wf KD.len i _, .ref Kn, rfl, .int (((lkp (rowC c i) (PySem.Str.ofString "b")).getD c.length : Nat) : Int), rfl, Kn, _, _, _, rfl, rfl, SqL.of eK4, kn_at wf KD.len i _, .ref Kn, rfl, .int (((lkp (rowC c i) (PySem.Str.ofString "c")).getD c.length : Nat) : Int), rfl, Kn, _, _, _, rfl, rfl, SqL.of eK4, kn_at wf KD.len i _, .ref Kn, rfl, .int (((lkp (rowC c i) (PySem.Str.ofString "d")).getD c.length : Nat) : Int), rfl, Kn, _, _, _, rfl, rfl, SqL.of eK4, kn_at wf KD.len i _, sz4, fun t2 nt2 => hN _ _ (Same.new nt2) ⟨t2, rfl, fun z => ?_, upd_same⟩⟩
          rw [z, eD] at nt2
          cases nt2
      · obtain ⟨tz, rfl, htz⟩ := refs_of (R := fun i t => H6 t = some (.tup ((mk ks (rowC c i)).map V.int))) fun i z hz => let ⟨t, e1, _, e3⟩ := R i z hz; ⟨t, e1, e3⟩
        have ltz : tz.length = c.length := by rw [← List.length_map (f := V.ref), lz, List.length_map, lus]
        have s6 := Same.trans s5 s
        refine ⟨D, tz, c.map (mk ks), rfl, eD, by rw [ltz, List.length_map], by rw [List.length_map]; omega, fun i t q => ⟨mk ks (rowC c i), ?_, htz i t q⟩, fun D2 H7 s7 nD2 eD2 => ?_⟩
        · rw [List.getElem?_map, row_get (by rw [← ltz]; exact (List.getElem?_eq_some_iff.mp q).1)]; rfl
        refine gN ?_
        have K' := kd_next wf ok KD
        obtain ⟨m1, m2, m3⟩ := kd_more KD K'
        have eKk7 := s7 _ _ (s _ _ eKk5)
        rw [ints_split] at eD2 eKk7
        refine ⟨.ref D2, rfl, D2, _, rfl, SqL.of eD2, by rw [List.length_map, numF_len, List.length_map]; exact wf.1, fun x hx lx => ⟨.ref Kk, rfl, Kk, _, rfl, SqL.of eKk7, by rw [List.length_map, KD.len]; exact wf.1, fun y hy ly => ⟨rfl, _, rfl, ?_⟩⟩⟩
        have ex := max_kd K' wf.1 hx lx
        have ey := max_kd KD wf.1 hy ly
        rw [← ints_split] at eD2 eKk7
        refine ite2 (fun z => ?_) (fun z => ?_)
        · have exy : x = y := by
            have := of_decide_eq_true z
            exact V.int.inj this
          have em : cn = (nubs (c.map (mk ks))).length := by omega
          refine ⟨.ref Kk, rfl, k Kk ks H7 (Same.trans s6 s7) nKk eKk7 KD.len fun s t hs ht => ?_⟩
          rw [KD.eq s t hs ht]
          exact ⟨stable wf (m3 em) hs ht, fun h => h r⟩
        · have nxy : x ≠ y := fun q => z (by rw [q]; exact decide_eq_true rfl)
          refine ⟨.ref D2, rfl, ?_⟩
          exact ⟨_, (by omega : c.length - (nubs (c.map (mk ks))).length < c.length - cn), D2, r + 1, _, _, _, _, _, _, _, _, _, rfl, rfl, K', m2, Same.trans s6 s7, Same.trans s25 (Same.trans s s7), none_back s6 nD2, eD2⟩
end
end K20
end

section
set_option maxHeartbeats 4000000
/-! the living part -/
namespace K20
open PySem PySem.Spec PyProof.Rows L2
theorem sgs_le : ∀ x ∈ sgs, ∀ p ∈ sgs, ltCps x.cps.toList p.cps.toList = false → sgs.idxOf p ≤ sgs.idxOf x := by decide +kernel
theorem sgs_pw : sgs.Pairwise fun a b => sgs.idxOf a ≤ sgs.idxOf b := by decide +kernel
theorem rising_pw : ∀ (ys : List Str) (p : Str), p ∈ sgs → (∀ y ∈ ys, y ∈ sgs) → risingS p ys = true → (∀ y ∈ ys, sgs.idxOf p ≤ sgs.idxOf y) ∧ ys.Pairwise fun a b => sgs.idxOf a ≤ sgs.idxOf b
  | [], _, _, _, _ => ⟨(fun y h => by cases h), .nil⟩
  | x :: r, p, hp, hy, h => by
    unfold risingS at h
    obtain ⟨h1, h2⟩ := Bool.and_eq_true_iff.mp h
    have hx := hy x List.mem_cons_self
    obtain ⟨a, b⟩ := rising_pw r x hx (fun y q => hy y (List.mem_cons_of_mem _ q)) h2
    have l := sgs_le x hx p hp (by simpa using h1)
    refine ⟨fun y q => ?_, .cons (fun y q => a y q) b⟩
    rcases List.mem_cons.mp q with rfl | q
    · exact l
    · exact Nat.le_trans l (a y q)
theorem sorted_keys {w : Nat} {r : List (Str × Nat)} (ok : okR w r) {ys : List Str} (pm : ys.Perm (keysR r)) (st : sortedS ys = true) : ys = keysR r := by
  have sub : ∀ z ∈ keysR r, z ∈ sgs := fun z hz => List.mem_of_mem_take (okR_in ok hz)
  have p1 : ys.Pairwise fun a b => sgs.idxOf a ≤ sgs.idxOf b := by
    cases ys with
    | nil => exact .nil
    | cons x r' =>
      obtain ⟨a, b⟩ := rising_pw r' x (sub x (pm.mem_iff.mp List.mem_cons_self)) (fun y hy => sub y (pm.mem_iff.mp (List.mem_cons_of_mem _ hy))) st
      exact .cons (fun y hy => a y hy) b
  have p2 : (keysR r).Pairwise fun a b => sgs.idxOf a ≤ sgs.idxOf b := by
    rw [show keysR r = (sgs.take w).filter _ from ok]
    exact (sgs_pw.sublist (List.take_sublist w sgs)).filter _
  refine List.Perm.eq_of_pairwise (fun a b ha hb h1 h2 => ?_) p1 p2 pm
  have ha' := sub a (pm.mem_iff.mp ha)
  have hb' := sub b hb
  have e : sgs.idxOf a = sgs.idxOf b := Nat.le_antisymm h1 h2
  have x1 := List.getElem_idxOf (List.idxOf_lt_length_of_mem ha')
  have x2 := List.getElem_idxOf (List.idxOf_lt_length_of_mem hb')
  rw [← x1, ← x2]
  congr 1
theorem rowK_keys (r : List (Str × Nat)) : (rowK r).map (·.1) = (keysR r).map Sum.inr := by
  unfold rowK keysR
  rw [List.map_map, List.map_map]; rfl
theorem lkp_take {r : List (Str × Nat)} (nd : (keysR r).Nodup) {j : Nat} {e : Str × Nat} (h : r[j]? = some e) : lkp (r.take j) e.1 = none := by
  refine lkp_none fun q => ?_
  obtain ⟨e', h1, h2⟩ := List.mem_map.mp q
  obtain ⟨i, hi, e1⟩ := List.mem_iff_getElem.mp h1
  have hi2 : i < j := by rw [List.length_take] at hi; omega
  obtain ⟨hj, e2⟩ := List.getElem?_eq_some_iff.mp h
  rw [List.getElem_take] at e1
  have nd' : (r.map (·.1)).Nodup := nd
  have := (List.getElem_inj (h₀ := by rw [List.length_map]; omega) (h₁ := by rw [List.length_map]; exact hj) nd' (i := i) (j := j)).mp (by rw [List.getElem_map, List.getElem_map, e1, e2]; exact h2)
  omega
/-- new dicts of the rows of c -/
def NewT (H0 H : Hp) (D : Addr) (c : Ch) : Prop := ∃ ds : List Addr, H D = some (.lst (ds.map V.ref)) ∧ ds.length = c.length ∧ ∀ (i : Nat) (d : Addr), ds[i]? = some d → H0 d = none ∧ H d = some (.dK (rowK (rowC c i)))
theorem NewT.lock {H0 H H' : Hp} {D : Addr} {c : Ch} (h : NewT H0 H D c) (L : LockP (fun b => H0 b = none) H H') : ∃ ls, TbF H' D ls c := by
  obtain ⟨ds, e, l, k⟩ := h
  refine ⟨ds, ⟨?_, l, fun i a q => ?_⟩⟩
  · rw [(L D).2 (.inr fun kvs z => by rw [e] at z; cases z)]; exact e
  · obtain ⟨h1, h2⟩ := k i a q
    exact (L a).1 h1 _ h2
def spLiving : Sp := fun vs H Q _ => ∃ (F : Addr) (ls : List Addr) (c : Ch) (w : Nat), vs = [.ref F] ∧ TbF H F ls c ∧ WfC c ∧ okT w c ∧ c.length ≤ 64 ∧ ∀ (D : Addr) (H' : Hp), Same H H' → H D = none → NewT H H' D c → Q (.ref D) H'
theorem can_reps (n : Nat) : SeqAt.shaped (.list (List.replicate n (.bool true))) = true := by
  unfold SeqAt.shaped
  rw [Bool.and_eq_true]
  constructor
  · have : PyData.canLayAll0 (List.replicate n (PyData.bool true)) = true := by
      induction n with
      | zero => simp [PyData.canLayAll0]
      | succ n ih =>
        rw [List.replicate_succ]
        simp only [PyData.canLayAll0, Bool.and_eq_true]
        exact ⟨by simp [PyData.canLay0], ih⟩
    simpa [PyData.canLay0] using this
  · refine decide_eq_true ?_
    have : PyData.depthAll (List.replicate n (PyData.bool true)) ≤ 1 := by
      induction n with
      | zero => simp [PyData.depthAll]
      | succ n ih =>
        rw [List.replicate_succ]
        simp only [PyData.depthAll]
        exact Nat.max_le.mpr ⟨by simp [PyData.depth], ih⟩
    simp only [PyData.depth]
    omega
theorem dx_reps {H : Hp} {b : Bool} : ∀ n : Nat, DxAll H (List.replicate n (.bl b)) (List.replicate n (.bool b))
  | 0 => .nil
  | n + 1 => .cons (.bl b) (dx_reps n)
theorem plain_reps (n : Nat) : plainD (.list (List.replicate n (.bool true))) = true := by
  show plainAll _ = true
  induction n with
  | zero => rfl
  | succ n ih => exact Bool.and_eq_true_iff.mpr ⟨rfl, ih⟩
section
variable {P : Program} {w : World} {K : PySem.W.Frag} {mg : Str → Option Value} {base : Heap} {ad : Str → Addr} {fd : Str → FuncData}
theorem scLivingPart : FnScope ["table", "alive", "still", "_", "leading", "to", "sign"] ["table"] (defScope sLivingPart) := ⟨rfl, rfl, rfl, by decide +kernel, rfl, by decide +kernel, by decide +kernel⟩
theorem ok_living (X : Tx K mg ad fd) : FnOk P w K mg base CX0 1 (ad "living_part") (fd "living_part") ["table"] spLiving := by
  refine X.F_living_part.ok scLivingPart (fun vs H Q E h => ?_) (fun cdv A outer s H vs Q E hr h => ?_)
  · obtain ⟨F, ls, c, w, rfl, tb, wf, ok, cl, k⟩ := h
    rfl
  · obtain ⟨F, ls, c, w, rfl, tb, wf, ok, cl, k⟩ := h
    have hu64 : (A.deeper (envOfC "living_part" (defScope sLivingPart) s.heap.objs.size (ad "living_part") cdv)).units + 64 < cLine := by have := hr.un; omega
    refine ⟨_, (pss_cons (ps_set (i := 1) scLivingPart.nd rfl (.inr rfl) (by exact (pe_lc (own := [("_", 3)]) (g := gName 3) rfl scLivingPart.nd (pi_listK (K := K) rfl (pv 0)) (blkOk_by (own := [("_", 3)]) (N := ["table", "alive", "still", "_", "leading", "to", "sign"]) (sc := defScope sLivingPart) (by decide +kernel)) (fun _ _ _ _ _ => pg_name (i := 3) scLivingPart.nd rfl (Or.inl rfl)) (fun _ _ _ _ _ => pts_nil) (fun _ _ _ _ _ => pe_bl))))
  (pss_cons (ps_while PassesOwn.never (pt_val pe_bl)
  (pss_cons (ps_setLc (i := 2) (own := [("leading", 4)]) (g := gName 4) rfl scLivingPart.nd rfl rfl (by rfl) (pi_listK (K := K) rfl (pv 0)) (blkOk_by (own := [("leading", 4)]) (N := ["table", "alive", "still", "_", "leading", "to", "sign"]) (sc := defScope sLivingPart) (by decide +kernel)) (fun _ _ _ _ _ => pg_name (i := 4) scLivingPart.nd rfl (Or.inl rfl)) (fun _ _ _ _ _ => pts_nil) (fun _ _ _ _ _ => (pe_callB (cr_anyK (K := K) rfl) (by rfl) X.m_any (by decide +kernel) (pa_cons (pe_lc (own := [("to", 5)]) (g := gName 5) rfl scLivingPart.nd (pi_values (pv 4)) (blkOk_by (own := [("to", 5)]) (N := ["table", "alive", "still", "_", "leading", "to", "sign"]) (by kernel_rfl)) (fun _ _ _ _ _ => pg_name (i := 5) scLivingPart.nd rfl (Or.inl rfl)) (fun _ _ _ _ _ => pts_nil) (fun _ _ _ _ _ => (pe_ix (ix_listK (K := K) rfl) (pv 1) (pv 5) (fun _ _ => rfl)))) pa_nil))))
  (pss_cons (ps_if (pt_cmpR (op_eqD hu64) (pv 2) (pv 1) (nomark _))
  (pss_one ps_break)
  pss_nil)
  (pss_one (ps_set (i := 1) scLivingPart.nd rfl (.inr rfl) (by exact (pv 2)))))))
  (pss_one (ps_ret (by exact (pe_lc (own := [("leading", 4)]) (g := gName 4) rfl scLivingPart.nd (pi_listK (K := K) rfl (pv 0)) (blkOk_by (own := [("leading", 4)]) (N := ["table", "alive", "still", "_", "leading", "to", "sign"]) (sc := defScope sLivingPart) (by decide +kernel)) (fun _ _ _ _ _ => pg_name (i := 4) scLivingPart.nd rfl (Or.inl rfl)) (fun _ _ _ _ _ => pts_nil) (fun _ _ _ _ _ => (pe_dc (own := [("sign", 6), ("to", 5)]) (g := gTup K 2 (gCons (gName 6) (gCons (gName 5) (gNil)))) rfl scLivingPart.nd (pi_items (pv 4)) (blkOk_by (own := [("sign", 6), ("to", 5)]) (N := ["table", "alive", "still", "_", "leading", "to", "sign"]) (by kernel_rfl)) (fun _ _ _ _ _ => pg_tupK (K := K) rfl rfl (pgs_cons (pg_name (i := 6) scLivingPart.nd rfl (Or.inl rfl)) (pgs_cons (pg_name (i := 5) scLivingPart.nd rfl (Or.inl rfl)) (pgs_nil)))) (fun _ _ _ _ _ => pts_one (pt_val (pe_ix (ix_listK (K := K) rfl) (pv 1) (pv 5) (fun _ _ => rfl)))) (fun _ _ _ _ _ => (pv 6)) (fun _ _ _ _ _ => (pv 5)))))))))), ?_⟩
    have hl : (ls.map V.ref).length = c.length := by rw [List.length_map, tb.l]
    refine ⟨.ref F, rfl, F, rfl, ⟨_, SqL.of tb.e⟩, fun A0 nA0 => ?_⟩
    refine lc_map (w := walk_list (K := K) (a := F) (xs := ls.map V.ref)) (fun _ => V.bl true) nA0 (by rw [hl]; omega) (fun i Hc _ sc => SqL.of (sc _ _ tb.e)) (fun _ => rfl) (fun i x Hc Hd hi sc y => ?_) (fun H1 s1 eA0 => ?_)
    · obtain ⟨rfl, _⟩ := y
      exact ⟨Same.refl, fun Q' hQ => hQ _ Same.refl⟩
    rw [hl, List.map_const', List.length_range] at eA0
    refine gN ?_
    refine ⟨fun m σ H' => ∃ r2 r3 r4 r5 r6, σ = [some (.ref F), some (.ref A0), r2, r3, r4, r5, r6] ∧ Same H1 H', ⟨0, _, _, _, _, _, rfl, Same.refl⟩, ?_⟩
    rintro m σ H2 ⟨r2, r3, r4, r5, r6, rfl, s2⟩
    have s12 := Same.trans s1 s2
    refine ⟨true, rfl, iteT ⟨fun _ _ => False, fun _ _ z => z.elim, ?_⟩⟩
    have at_ : ∀ {r : List (Str × Nat)} {i : Nat} {k : Key} {v : V}, (rowK r)[i]? = some (k, v) → ∃ e, r[i]? = some e ∧ k = .inr e.1 ∧ v = .int (e.2 : Int) := fun {r i k v} q => by
      unfold rowK at q
      rw [List.getElem?_map] at q
      cases er : r[i]? with
      | none => rw [er] at q; cases q
      | some e =>
        rw [er] at q
        cases q
        exact ⟨e, rfl, rfl, rfl⟩
    have al : ∀ {i : Nat} {e : Str × Nat}, e ∈ rowC c i → atI (List.replicate c.length (V.bl true)) (e.2 : Int) = some (.bl true) := fun {i e} he => atI_nat (by rw [List.getElem?_replicate, if_pos (rowC_lt wf he)])
    refine ⟨.ref F, rfl, F, rfl, ⟨_, SqL.of (s12 _ _ tb.e)⟩, fun D nD => ?_⟩
    refine lc_map (w := walk_list (K := K) (a := F) (xs := ls.map V.ref)) (fun _ => V.bl true) nD (by rw [hl]; omega) (fun i Hc _ sc => SqL.of (sc _ _ (s12 _ _ tb.e))) (fun _ => rfl) (fun i x Hc Hd hi sc y => ?_) (fun H3 s3 eD => ?_)
    · obtain ⟨rfl, hx⟩ := y
      rw [hl] at hi
      obtain ⟨a, o, h1, _, h3⟩ := tb.row hi
      rw [List.getElem?_map, h1] at hx
      cases hx
      refine ⟨Same.refl, fun Q' hQ => ?_⟩
      have ha := sc _ _ (s12 _ _ h3)
      refine ⟨.ref a, rfl, a, o, _, rfl, ha, fun D2 hD2 => ?_⟩
      refine lc_map (w := walk_values (d := a) (o := o) (kvs := rowK (rowC c i))) (fun _ => V.bl true) hD2 (by rw [rowK_len]; have := okR_len (rowOk ok hi).1; omega) (fun j Hc _ sc2 => sc2 _ _ ha) (fun _ => rfl) (fun j x Hc Hd hj sc2 y => ?_) (fun H4 s4 eD2 => ?_)
      · obtain ⟨rfl, k', hk⟩ := y
        obtain ⟨e, he, rfl, rfl⟩ := at_ hk
        refine ⟨Same.refl, fun Q2 hQ2 => ?_⟩
        exact ⟨.ref A0, rfl, .int (e.2 : Int), rfl, A0, _, _, _, rfl, rfl, SqL.of (sc2 _ _ (sc _ _ (s2 _ _ eA0))), al (List.mem_of_getElem? he), hQ2 _ Same.refl⟩
      · rw [List.map_const', List.length_range, ← map_rep] at eD2
        refine ⟨D2, _, rfl, SqL.of eD2, ?_⟩
        have ne : (rowK (rowC c i)).length ≠ 0 := by
          rw [rowK_len]
          exact fun z => (rowOk ok hi).2 (List.length_eq_zero_iff.mp z)
        rw [show (List.replicate (rowK (rowC c i)).length true).any id = true by
          obtain ⟨n, hn⟩ := Nat.exists_eq_succ_of_ne_zero ne
          rw [hn, List.replicate_succ]; rfl]
        exact hQ _ s4
    · rw [hl, List.map_const', List.length_range] at eD
      refine gN ?_
      have s13 := Same.trans s12 s3
      refine ⟨.ref D, rfl, .ref A0, rfl, .list (List.replicate c.length (.bool true)), .list (List.replicate c.length (.bool true)), Dx.dp (.lst eD (dx_reps _)) (plain_reps _), Dx.dp (.lst (s3 _ _ (s2 _ _ eA0)) (dx_reps _)) (plain_reps _), can_reps _, can_reps _, _, rfl, ?_⟩
      refine ifT (SeqAt.eqv_refl _ (by have h := can_reps c.length; unfold SeqAt.shaped at h; exact (Bool.and_eq_true_iff.mp h).1)) ?_
      refine ⟨.ref F, rfl, F, rfl, ⟨_, SqL.of (s13 _ _ tb.e)⟩, fun R0 nR0 => ?_⟩
      refine lc_rel (w := walk_list (K := K) (a := F) (xs := ls.map V.ref)) (fun i v H' => ∃ d, v = .ref d ∧ d ≠ R0 ∧ H d = none ∧ H' d = some (.dK (rowK (rowC c i)))) nR0 (by rw [hl]; omega) (fun i H' _ s => SqL.of (s _ _ (s13 _ _ tb.e))) (fun i v H' H6 up ⟨d, e1, e2, e3, e4⟩ => ⟨d, e1, e2, e3, up _ _ e2 e4⟩) (fun i x H' H6 hi s ⟨acc, eR⟩ ⟨e0, hx⟩ Nx hN => ?_) (mn_name _) (fun H6 zs s eR lz R => ?_)
      · subst e0
        rw [hl] at hi
        obtain ⟨a, o, h1, _, h3⟩ := tb.row hi
        rw [List.getElem?_map, h1] at hx
        cases hx
        have s16 := Same.trans s13 s
        have ha := s16 _ _ h3
        refine gN ⟨rfl, ?_⟩
        refine ⟨.ref a, rfl, a, o, _, rfl, ha, fun Dd nDd => ?_⟩
        have nDR : Dd ≠ R0 := fun z => by rw [z, eR] at nDd; cases nDd
        have nDH : H Dd = none := none_back s16 nDd
        have nd := okR_nd (rowOk ok hi).1
        refine dc_it (w := walk_items (d := a) (o := o) (kvs := rowK (rowC c i))) (fun j H' => Same H6 H' ∧ H' Dd = some (.dK (rowK ((rowC c i).take j)))) ⟨Same.new nDd, upd_same⟩ (fun j H' _ h => h.1 _ _ ha) ?_ ?_
        · rintro j x H' H7 hj ⟨sj, eDd⟩ ⟨T, u, v, rfl, hT, rfl, eu, ev⟩
          have eu : (rowK (rowC c i))[j]?.map (fun kv => kV kv.1) = some u := eu
          have ev : (rowK (rowC c i))[j]?.map Prod.snd = some v := ev
          rw [rowK_len] at hj
          obtain ⟨e, he⟩ : ∃ e, (rowC c i)[j]? = some e := ⟨_, List.getElem?_eq_getElem hj⟩
          have ek : (rowK (rowC c i))[j]? = some ((.inr e.1 : Key), V.int (e.2 : Int)) := by
            unfold rowK
            rw [List.getElem?_map, he]; rfl
          rw [ek] at eu ev
          obtain rfl : V.str e.1 = u := Option.some.inj eu
          obtain rfl : V.int (e.2 : Int) = v := Option.some.inj ev
          have sT := Same.trans sj (Same.new hT (o := .tup [V.str e.1, V.int (e.2 : Int)]))
          refine ⟨T, _, rfl, SqT.of upd_same, rfl, _, _, rfl, _, _, rfl, rfl, rfl, ?_⟩
          refine ⟨.ref A0, rfl, .int (e.2 : Int), rfl, A0, _, _, _, rfl, rfl, SqL.of (sT _ _ (s _ _ (s3 _ _ (s2 _ _ eA0)))), al (List.mem_of_getElem? he), true, rfl, ?_⟩
          refine iteT ?_
          refine ⟨.str e.1, rfl, .int (e.2 : Int), rfl, rowK ((rowC c i).take j), .inr e.1, rfl, Same.new hT _ _ eDd, by rw [rowK_len, List.length_take, sizeLine_eq]; have := okR_len (rowOk ok hi).1; omega, ?_, ?_⟩
          · intro b u eb
            rw [upd_ne (ne_of_none eb nDd)]
            exact sT _ _ eb
          · rw [upd_same, rowK_put (lkp_take nd he)]
            have tk : (rowC c i).take (j + 1) = (rowC c i).take j ++ [(e.1, e.2)] := by rw [List.take_add_one, he]; rfl
            rw [tk]
        · rintro H' ⟨sj, eDd⟩
          rw [rowK_len, List.take_length] at eDd
          exact hN _ _ sj ⟨Dd, rfl, nDR, nDH, eDd⟩
      · obtain ⟨ds, rfl, hds⟩ := refs_of (R := fun i d => H d = none ∧ H6 d = some (.dK (rowK (rowC c i)))) fun i z hz => let ⟨d, e1, _, e3, e4⟩ := R i z hz; ⟨d, e1, e3, e4⟩
        exact k R0 H6 (Same.trans s13 s) (none_back s13 nR0) ⟨ds, eR, by rw [← List.length_map (f := V.ref), lz, hl], hds⟩
end
end K20
end

section
set_option maxHeartbeats 4000000
/-! the least table -/
namespace K20
open PySem PySem.Spec PyProof.Rows L2
def phI (k : Nat) : Key := .inl (k : Int)
theorem phI_inj (a b : Nat) (h : phI a = phI b) : a = b := by
  have := Sum.inl.inj h
  omega
def spLeast : Sp := fun vs H Q _ => ∃ (F : Addr) (ls : List Addr) (c : Ch) (w : Nat), vs = [.ref F, .int 0] ∧ TbF H F ls c ∧ WfC c ∧ okT w c ∧ c.length ≤ 64 ∧ ∀ (D : Addr) (H' : Hp), Same H H' → H D = none → NewT H H' D (chart c) → Q (.ref D) H'
theorem idx_same {f g : Nat → Nat} {t : Nat} : ∀ {o : List Nat}, (∀ x ∈ o, f x = f t ↔ g x = g t) → ixM (o.map f) (f t) = (o.map g).idxOf (g t)
  | [], _ => rfl
  | x :: o, h => by
    have ih := idx_same (o := o) fun y hy => h y (List.mem_cons_of_mem _ hy)
    unfold ixM at ih ⊢
    rw [List.map_cons, List.map_cons, List.idxOf_cons, List.idxOf_cons]
    by_cases e : f x = f t
    · have e2 := (h x List.mem_cons_self).mp e
      rw [e, e2]; simp
    · have e2 : ¬ g x = g t := fun z => e ((h x List.mem_cons_self).mpr z)
      rw [show (f x == f t) = false from beq_eq_false_iff_ne.mpr e, show (g x == g t) = false from beq_eq_false_iff_ne.mpr e2]
      simp only [cond_false]
      rw [ih]
theorem mem_same {f g : Nat → Nat} {t : Nat} {o : List Nat} (h : ∀ x ∈ o, f x = f t ↔ g x = g t) : f t ∈ o.map f ↔ g t ∈ o.map g := by
  constructor
  · intro q
    obtain ⟨x, hx, e⟩ := List.mem_map.mp q
    exact List.mem_map.mpr ⟨x, hx, (h x hx).mp e⟩
  · intro q
    obtain ⟨x, hx, e⟩ := List.mem_map.mp q
    exact List.mem_map.mpr ⟨x, hx, (h x hx).mpr e⟩
theorem addPs_lt {c : Ch} : ∀ (r : List (Str × Nat)) (o : List Nat), (∀ x ∈ o, x < c.length) → (∀ e ∈ r, e.2 < c.length) → ∀ x ∈ addPs c o r, x < c.length
  | [], o, h, _ => h
  | e :: r, o, h, hr => addPs_lt r (addP c o e.2) (addP_lt h (hr e List.mem_cons_self)) fun e' h' => hr e' (List.mem_cons_of_mem _ h')
theorem addPs_succ {c : Ch} {o : List Nat} {r : List (Str × Nat)} {j : Nat} {e : Str × Nat} (h : r[j]? = some e) : addPs c o (r.take (j + 1)) = addP c (addPs c o (r.take j)) e.2 := by
  rw [List.take_add_one, h]
  unfold addPs
  rw [Option.toList_some, List.foldl_append]; rfl
theorem nodup_addN' {o : List Nat} {t : Nat} (h : o.Nodup) : (addN o t).Nodup := nodup_addN t h
theorem addPs_nd {c : Ch} (r : List (Str × Nat)) {o : List Nat} (h : (o.map (rep c)).Nodup) : ((addPs c o r).map (rep c)).Nodup := by
  rw [addPs_map]
  exact nodup_addAll h
theorem reps_len {c : Ch} {o : List Nat} (nd : (o.map (rep c)).Nodup) (lt : ∀ x ∈ o, x < c.length) : o.length ≤ c.length := by
  have := nodup_len nd (n := c.length) fun x hx => by
    obtain ⟨y, hy, rfl⟩ := List.mem_map.mp hx
    exact (rep_ok (lt y hy)).1
  rwa [List.length_map] at this
section
variable {P : Program} {w : World} {K : PySem.W.Frag} {mg : Str → Option Value} {base : Heap} {ad : Str → Addr} {fd : Str → FuncData}
theorem b_least_table (X : Tx K mg ad fd) : Binds K (fd "least_table") ["table", "start"] [] := by
  obtain ⟨ds, v, b⟩ := X.F_least_table.binds1 (ps := ["table", "start"]) 2 1 (by decide) rfl fun T kV doc pm an cdv ct us its hl hi => by
    match us, its, hl, hi with
    | [_, _], [_], _, _ => first | exact ⟨_, rfl, rfl⟩ | exact ⟨_, by with_unfolding_all rfl, rfl⟩
  cases v
  exact b
theorem scLeastTable : FnScope ["table", "start", "living", "kinds", "order", "places", "at", "leading", "sign", "kind", "old", "key"] ["table", "start"] (defScope sLeastTable) := ⟨rfl, rfl, rfl, by decide +kernel, rfl, by decide +kernel, by decide +kernel⟩
theorem ok_least_table (X : Tx K mg ad fd) : FnOk P w K mg base CX0 3 (ad "least_table") (fd "least_table") ["table", "start"] spLeast := by
  have G_living_part := ok_living (P := P) (w := w) (base := base) X
  have G_kinds_of := ok_kinds_of (P := P) (w := w) (base := base) X
  refine FunV.okV X.F_least_table scLeastTable (fun vs H Q E h => ?_) (fun cdv A outer s H vs Q E hr h => ?_)
  · obtain ⟨F, ls, c, w, rfl, tb, wf, ok, cl, k⟩ := h
    rfl
  · obtain ⟨F, ls, c, w, rfl, tb, wf, ok, cl, k⟩ := h
    have HR_living_part : Room 1 _ := hr.mono (by decide)
    have HR_kinds_of : Room 2 _ := hr
    have HU : (A.deeper (envOfC "least_table" (defScope sLeastTable) s.heap.objs.size (ad "least_table") cdv)).units + 1 < cLine := by have := hr.un; omega
    refine ⟨_, (pss_cons (ps_set (i := 2) scLeastTable.nd rfl (.inr rfl) (by exact (pe_call G_living_part HR_living_part (by rfl) X.g_living_part X.F_living_part.kp X.b_living_part .nil pass0 (pa_cons (pv 0) pa_nil))))
  (pss_cons (ps_if (pt_not (pt_truth (pe_ix (ix_listK (K := K) rfl) (pv 2) (pv 1) (fun _ _ => rfl)) (by intro _; rfl)))
  (pss_one (ps_ret (by exact (pe_lst pa_nil))))
  pss_nil)
  (pss_cons (ps_set (i := 3) scLeastTable.nd rfl (.inr rfl) (by exact (pe_call G_kinds_of HR_kinds_of (by rfl) X.g_kinds_of X.F_kinds_of.kp X.b_kinds_of .nil pass0 (pa_cons (pe_lock (pv 2)) pa_nil))))
  (pss_cons (ps_set (i := 4) scLeastTable.nd rfl (.inl rfl) (by exact (pe_lst (pa_cons (pv 1) pa_nil))))
  (pss_cons (ps_set (i := 5) scLeastTable.nd rfl (.inr rfl) (by exact (pe_disp (pps_cons (pe_ix (ix_listK (K := K) rfl) (pv 3) (pv 1) (fun _ _ => rfl)) pe_int pps_nil) (by rfl) (by rfl) (fun z => by cases z) (by decide))))
  (pss_cons (ps_set (i := 6) scLeastTable.nd rfl (.inl rfl) (by exact pe_int))
  (pss_cons (ps_while PassesOwn.never (pt_cmpR op_lt (pv 6) (pe_callB (call_lenK (K := K) rfl) (by rfl) X.m_len (by decide +kernel) (pa_cons (pv 4) pa_nil)) (nomark _))
  (pss_cons (ps_set (i := 7) scLeastTable.nd rfl (.inl rfl) (by exact (pe_ix (ix_listK (K := K) rfl) (pv 2) (pe_ix (ix_listK (K := K) rfl) (pv 4) (pv 6) (fun _ _ => rfl)) (fun _ _ => rfl))))
  (pss_cons (ps_for PassesOwn.never rfl (pi_list (pe_callB (call_sortedD rfl) (by rfl) X.m_sorted (by decide +kernel) (pa_cons (pv 7) pa_nil))) (pg_name (i := 8) scLeastTable.nd rfl (.inl rfl))
  (pss_cons (ps_set (i := 9) scLeastTable.nd rfl (.inl rfl) (by exact (pe_ix (ix_listK (K := K) rfl) (pv 3) (pe_dget HU (pv 7) (pv 8) (fun _ _ => rfl)) (fun _ _ => rfl))))
  (pss_one (ps_if (pt_cmp (pc_dnotin HU (pv 9) (pv 5)))
  (pss_cons (ps_asg (by exact (pe_callB (call_lenK (K := K) rfl) (by rfl) X.m_len (by decide +kernel) (pa_cons (pv 4) pa_nil))) (pg_sub (pv 5) (pv 9) (set_dict HU)))
  (pss_one (ps_expr (by exact (pe_bm PySem.F.plainAttrs_list PySem.F.slot_list_append PySem.F.type_list_append mt_append (pv 4) (pa_cons (pe_dget HU (pv 7) (pv 8) (fun _ _ => rfl)) pa_nil))))))
  pss_nil))))
  (pss_one (ps_aug (i := 6) scLeastTable.nd rfl (.inl rfl) pe_int ip_add)))))
  (pss_one (ps_ret (by exact (pe_lc (own := [("old", 10)]) (g := gName 10) rfl scLeastTable.nd (pi_listK (K := K) rfl (pv 4)) (blkOk_by (own := [("old", 10)]) (N := ["table", "start", "living", "kinds", "order", "places", "at", "leading", "sign", "kind", "old", "key"]) (sc := defScope sLeastTable) (by decide +kernel)) (fun _ _ _ _ _ => pg_name (i := 10) scLeastTable.nd rfl (Or.inr rfl)) (fun _ _ _ _ _ => pts_nil) (fun _ _ _ _ _ => (pe_dc (own := [("key", 11)]) (g := gName 11) rfl scLeastTable.nd (pi_listK (K := K) rfl (pe_callB (call_sortedD rfl) (by rfl) X.m_sorted (by decide +kernel) (pa_cons (pe_ix (ix_listK (K := K) rfl) (pv 2) (pv 10) (fun _ _ => rfl)) pa_nil))) (blkOk_by (own := [("key", 11)]) (N := ["table", "start", "living", "kinds", "order", "places", "at", "leading", "sign", "kind", "old", "key"]) (by kernel_rfl)) (fun _ _ _ _ _ => pg_name (i := 11) scLeastTable.nd rfl (Or.inl rfl)) (fun _ _ _ _ _ => pts_nil) (fun _ _ _ _ _ => (pv 11)) (fun _ _ _ _ _ => (pe_dget HU (pv 5) (pe_ix (ix_listK (K := K) rfl) (pv 3) (pe_dget HU (pe_ix (ix_listK (K := K) rfl) (pv 2) (pv 10) (fun _ _ => rfl)) (pv 11) (fun _ _ => rfl)) (fun _ _ => rfl)) (fun _ _ => rfl)))))))))))))))), ?_⟩
    refine ⟨.ref F, rfl, F, ls, c, w, rfl, tb, wf, ok, cl, fun L H1 s1 nL nt => ?_⟩
    refine gN ?_
    obtain ⟨ds, eL, lds, kds⟩ := id nt
    obtain ⟨d0, hd0⟩ : ∃ d0, ds[0]? = some d0 := ⟨ds[0]'(by rw [lds]; exact wf.1), List.getElem?_eq_getElem _⟩
    refine ⟨.ref L, rfl, .int 0, rfl, L, _, 0, .ref d0, rfl, rfl, SqL.of eL, atI_nat (j := 0) (by rw [List.getElem?_map, hd0]; rfl), _, .inr (.inr ⟨_, (kds 0 d0 hd0).2, rfl⟩), ?_⟩
    have ne0 : (rowK (rowC c 0)).isEmpty = false := by
      cases e : rowC c 0 with
      | nil => exact absurd e (rowOk ok wf.1).2
      | cons e r => rfl
    rw [ne0]
    refine iteF ?_
    refine ⟨.ref L, rfl, fun b => H b = none, fun H2 LP => ?_⟩
    obtain ⟨ls2, tb2⟩ := nt.lock LP
    have s02 := LP.same s1
    refine ⟨L, ls2, c, w, rfl, tb2, wf, ok, cl, fun Kd ks H3 s3 nK eK lk keq => ?_⟩
    refine gN ?_
    have s03 := Same.trans s02 s3
    have tb3 := tb2.same s3
    have kat : ∀ {g : Nat}, g < c.length → atI (intsV ks) (g : Int) = some (.int ((ks.getD g 0 : Nat) : Int)) := fun {g} hg => atI_nat (by
      unfold intsV
      rw [List.getElem?_map, List.getD_eq_getElem?_getD, List.getElem?_eq_getElem (by rw [lk]; exact hg)]; rfl)
    have krep : ∀ {s t : Nat}, s < c.length → t < c.length → (ks.getD s 0 = ks.getD t 0 ↔ rep c s = rep c t) := fun hs ht => (keq _ _ hs ht).trans (rep_eq hs ht).symm
    refine ⟨.int 0, rfl, sz1, fun O nO => ?_⟩
    refine gN ?_
    have nO0 : H O = none := none_back s03 nO
    refine fun Pl nPl => ?_
    have nOP : O ≠ Pl := ne_of_none upd_same nPl
    have nPl0 : H Pl = none := none_back s03 (none_back (Same.new nO) nPl)
    have eK' : (upd (upd H3 O (.lst [.int 0])) Pl (.dK [])) Kd = some (.lst (intsV ks)) := Same.new nPl _ _ (Same.new nO _ _ eK)
    refine ⟨.ref Kd, rfl, .int 0, rfl, Kd, _, ((0 : Nat) : Int), _, rfl, rfl, SqL.of eK', kat wf.1, ?_⟩
    refine ⟨upd_same, [(phI (ks.getD 0 0), .int 0)], rfl, (by show 1 ≤ 15; decide), ?_⟩
    refine gN ?_
    have s4 : Same H3 (upd (upd (upd H3 O (.lst [.int 0])) Pl (.dK [])) Pl (.dK (mergeK [] [(phI (ks.getD 0 0), .int 0)]))) := fun b u e => by
      have h1 := Same.new nO (o := .lst [.int 0]) _ _ e
      rw [upd_ne (ne_of_none h1 nPl)]
      exact Same.new nPl _ _ h1
    have ePl : (upd (upd (upd H3 O (.lst [.int 0])) Pl (.dK [])) Pl (.dK (mergeK [] [(phI (ks.getD 0 0), .int 0)]))) Pl = some (.dK (plc phI 0 ([0].map fun s => ks.getD s 0))) := by rw [upd_same]; rfl
    have eO : (upd (upd (upd H3 O (.lst [.int 0])) Pl (.dK [])) Pl (.dK (mergeK [] [(phI (ks.getD 0 0), .int 0)]))) O = some (.lst (intsV [0])) := by rw [upd_ne nOP, upd_ne nOP, upd_same]; rfl
    generalize (upd (upd (upd H3 O (.lst [.int 0])) Pl (.dK [])) Pl (.dK (mergeK [] [(phI (ks.getD 0 0), .int 0)]))) = H4 at s4 ePl eO ⊢
    have nK3 : ∀ {b : Addr} {u : HO}, H3 b = some u → b ≠ O := fun e z => by rw [z, nO] at e; cases e
    have nP3 : ∀ {b : Addr} {u : HO}, H3 b = some u → b ≠ Pl := fun e z => by rw [z, none_back (Same.new nO) nPl] at e; cases e
    let ksv : Nat → Nat := fun s => ks.getD s 0
    let W : Nat → L2.St → Hp → Prop := fun m σ H' => ∃ (n : Nat) (os : List Nat) (r7 r8 r9 r10 r11 : Option V), σ = [some (.ref F), some (.int 0), some (.ref L), some (.ref Kd), some (.ref O), some (.ref Pl), some (.int (n : Int)), r7, r8, r9, r10, r11] ∧ m = c.length + 1 - n ∧ n ≤ os.length ∧ n ≤ c.length ∧ Same H3 H' ∧
      H' O = some (.lst (intsV os)) ∧ H' Pl = some (.dK (plc phI 0 (os.map ksv))) ∧ (os.map (rep c)).Nodup ∧ (∀ x ∈ os, x < c.length) ∧ goR (quo c) (c.length + 1 - n) n (os.map (rep c)) = reached (quo c)
    refine ⟨W, ⟨_, 0, [0], _, _, _, _, _, rfl, rfl, Nat.zero_le _, Nat.zero_le _, s4, eO, ePl, by simp, (fun x hx => by rw [List.mem_singleton.mp hx]; exact wf.1), ?_⟩, ?_⟩
    · show goR (quo c) (c.length + 1) 0 [rep c 0] = reached (quo c)
      rw [rep_zero wf.1]
      unfold reached
      rw [quo_len]
    rintro m σ H5 ⟨n, os, r7, r8, r9, r10, r11, rfl, rfl, hn, hn2, s5, eO5, eP5, nd, lt, go⟩
    have los := reps_len nd lt
    refine ⟨.int (n : Int), rfl, .ref O, rfl, .ref O, _, rfl, .inl ⟨_, SqL.of eO5, rfl⟩, _, _, rfl, rfl, _, rfl, ?_⟩
    have li : (intsV os).length = os.length := by unfold intsV; rw [List.length_map]
    rw [li]
    by_cases hlt : n < os.length
    · rw [decide_eq_true (show (n : Int) < (os.length : Int) by omega)]
      refine iteT ⟨fun σ' H' => ∃ m', m' < c.length + 1 - n ∧ W m' σ' H', fun _ _ z => z, ?_⟩
      obtain ⟨o, ho⟩ : ∃ o, os[n]? = some o := ⟨_, List.getElem?_eq_getElem hlt⟩
      have lo := lt o (List.mem_of_getElem? ho)
      have tb5 := tb3.same s5
      obtain ⟨a, ob, h1, h2, h3⟩ := tb5.row lo
      have a3 : ∃ u, H3 a = some u := let ⟨_, ob', _, _, z⟩ := tb3.row lo; by
        obtain ⟨a', ob', g1, _, z⟩ := tb3.row lo
        rw [h1] at g1; cases g1
        exact ⟨_, z⟩
      refine ⟨.ref L, rfl, .ref O, rfl, .int (n : Int), rfl, O, _, (n : Int), .int (o : Int), rfl, rfl, SqL.of eO5, atI_nat (by unfold intsV; rw [List.getElem?_map, ho]; rfl), L, _, (o : Int), .ref a, rfl, rfl, SqL.of tb5.e, h2, ?_⟩
      refine gN ?_
      let r := rowC c o
      have okr := (rowOk ok lo).1
      have nd_r := okR_nd okr
      have r4 := okR_len okr
      refine ⟨.ref a, rfl, a, rowK r, keysR r, rfl, .inr ⟨ob, h3⟩, rowK_keys _, by unfold keysR; rw [List.length_map]; exact Nat.lt_of_le_of_lt r4 (by decide), fun ys S pm st nS => ?_⟩
      obtain rfl := sorted_keys okr pm st
      have eS : (upd H5 S (.lst ((keysR r).map V.str))) S = some (.lst ((keysR r).map V.str)) := upd_same
      have s6 := Same.trans s5 (Same.new nS (o := .lst ((keysR r).map V.str)))
      have eO6 := Same.new nS (o := .lst ((keysR r).map V.str)) _ _ eO5
      have eP6 := Same.new nS (o := .lst ((keysR r).map V.str)) _ _ eP5
      have nSO : S ≠ O := fun z => by rw [z, eO5] at nS; cases nS
      have nSP : S ≠ Pl := fun z => by rw [z, eP5] at nS; cases nS
      generalize (upd H5 S (.lst ((keysR r).map V.str))) = H6 at s6 eO6 eP6 eS ⊢
      have lxs : ((keysR r).map V.str).length = r.length := by unfold keysR; rw [List.length_map, List.length_map]
      refine ⟨S, rfl, ⟨_, SqL.of eS⟩, ?_⟩
      refine for_it (w := walk_list (K := K) (a := S) (xs := (keysR r).map V.str)) (fun j σ H' => ∃ r8 r9, σ = [some (.ref F), some (.int 0), some (.ref L), some (.ref Kd), some (.ref O), some (.ref Pl), some (.int (n : Int)), some (.ref a), r8, r9, r10, r11] ∧ Same H3 H' ∧ H' S = some (.lst ((keysR r).map V.str)) ∧ H' O = some (.lst (intsV (addPs c os (r.take j)))) ∧ H' Pl = some (.dK (plc phI 0 ((addPs c os (r.take j)).map ksv)))) ⟨_, _, rfl, s6, eS, eO6, eP6⟩ (fun i σ H' _ ⟨_, _, _, _, z, _⟩ => SqL.of z) ?_ ?_
      · rintro j x σ H' H7 hj ⟨r8, r9, rfl, s7, eS7, eO7, eP7⟩ ⟨e0, hx⟩
        subst e0
        rw [lxs] at hj
        obtain ⟨e, he⟩ : ∃ e, r[j]? = some e := ⟨_, List.getElem?_eq_getElem hj⟩
        have ex : x = V.str e.1 := by
          unfold keysR at hx
          rw [List.getElem?_map, List.getElem?_map, he] at hx
          exact (Option.some.inj hx).symm
        subst ex
        have me : e ∈ rowC c o := List.mem_of_getElem? he
        have le := rowC_lt wf me
        have h3' : H7 a = some (.frz ob (.dK (rowK r))) := by
          obtain ⟨a', ob', g1, _, g3⟩ := (tb3.same s7).row lo
          obtain ⟨a2, ob2, g1', _, g3'⟩ := tb3.row lo
          rw [h1] at g1'
          cases g1'
          have q5 := s5 _ _ g3'
          rw [h3] at q5
          cases q5
          exact s7 _ _ g3'
        have dg : DGet H7 a (.str e.1) (some (.int (e.2 : Int))) := .inl ⟨rowK r, .inr e.1, .inr ⟨ob, h3'⟩, rfl, by rw [rowK_val, lkp_at nd_r (List.mem_of_getElem? he)]; rfl⟩
        have nPO : Pl ≠ O := nOP.symm
        have naO : a ≠ O := let ⟨u, q⟩ := a3; nK3 q
        have naP : a ≠ Pl := let ⟨u, q⟩ := a3; nP3 q
        let os' := addPs c os (r.take j)
        have lt' : ∀ x ∈ os', x < c.length := addPs_lt _ _ lt fun e' h' => rowC_lt wf (List.mem_of_mem_take h')
        have nd' : (os'.map (rep c)).Nodup := addPs_nd _ nd
        have lo' : os'.length ≤ c.length := reps_len nd' lt'
        have mm : ksv e.2 ∈ os'.map ksv ↔ rep c e.2 ∈ os'.map (rep c) := mem_same fun x hx => krep (lt' x hx) le
        have nx := addPs_succ (c := c) (o := os) he
        have dp : DGet H7 Pl (.int ((ksv e.2 : Nat) : Int)) (valV (plc phI 0 (os'.map ksv)) (phI (ksv e.2))) := .inl ⟨_, phI (ksv e.2), .inl eP7, rfl, rfl⟩
        refine gN ?_
        refine ⟨.ref Kd, rfl, .ref a, rfl, .str e.1, rfl, a, .int (e.2 : Int), rfl, dg, Kd, _, (e.2 : Int), _, rfl, rfl, SqL.of (s7 _ _ eK), kat le, ?_⟩
        refine gN ?_
        refine ⟨.int ((ksv e.2 : Nat) : Int), rfl, .ref Pl, rfl, Pl, _, rfl, dp, _, rfl, ?_⟩
        rw [plc_val phI_inj]
        by_cases hm : ksv e.2 ∈ os'.map ksv
        · rw [if_pos hm]
          refine iteF ?_
          have e2 : addPs c os (r.take (j + 1)) = os' := by
            rw [nx]
            unfold addP
            rw [if_pos (mm.mp hm)]
          exact ⟨_, _, rfl, s7, eS7, by rw [e2]; exact eO7, by rw [e2]; exact eP7⟩
        · rw [if_neg hm]
          refine iteT ?_
          have e2 : addPs c os (r.take (j + 1)) = os' ++ [e.2] := by
            rw [nx]
            unfold addP
            rw [if_neg (fun z => hm (mm.mpr z))]
          refine ⟨.ref O, rfl, .ref O, _, rfl, .inl ⟨_, SqL.of eO7, rfl⟩, .ref Pl, rfl, .int ((ksv e.2 : Nat) : Int), rfl, Pl, _, rfl, .inl ⟨_, phI (ksv e.2), eP7, rfl, by rw [plc_len, List.length_map, sizeLine_eq]; exact Nat.lt_of_le_of_lt lo' (by omega), rfl⟩, ?_⟩
          rw [plc_put phI_inj hm (by unfold intsV; rw [List.length_map, List.length_map])]
          have eO8 : (upd H7 Pl (.dK (plc phI 0 (os'.map ksv ++ [ksv e.2])))) O = some (.lst (intsV os')) := by rw [upd_ne nOP]; exact eO7
          have dg8 : DGet (upd H7 Pl (.dK (plc phI 0 (os'.map ksv ++ [ksv e.2])))) a (.str e.1) (some (.int (e.2 : Int))) := .inl ⟨rowK r, .inr e.1, .inr ⟨ob, by rw [upd_ne naP]; exact h3'⟩, rfl, by rw [rowK_val, lkp_at nd_r (List.mem_of_getElem? he)]; rfl⟩
          refine ⟨.ref O, rfl, .inl ⟨rfl, _, SqL.of eO8⟩, .ref a, rfl, .str e.1, rfl, a, .int (e.2 : Int), rfl, dg8, O, _, _, rfl, rfl, eO8, by unfold intsV; rw [List.length_map, sizeLine_eq]; exact Nat.lt_of_le_of_lt lo' (by omega), _, _, rfl, fun b u q => ?_, ?_, ?_, ?_⟩
          · rw [upd_ne (nK3 q), upd_ne (nP3 q)]; exact s7 _ _ q
          · rw [upd_ne nSO, upd_ne nSP]; exact eS7
          · rw [upd_same, e2]
            unfold intsV
            rw [List.map_append]; rfl
          · rw [upd_ne nPO, upd_same, e2, List.map_append]; rfl
      · rintro σ H' ⟨r8, r9, rfl, s7, eS7, eO7, eP7⟩
        rw [lxs, List.take_length] at eO7 eP7
        have mp : (addPs c os r).map (rep c) = addAll (os.map (rep c)) (quoR c r) := addPs_map c r os
        obtain ⟨t, ht⟩ := addAll_pre (r := quoR c r) (os.map (rep c))
        have ll : os.length ≤ (addPs c os r).length := by
          have := congrArg List.length mp
          rw [ht, List.length_map, List.length_append, List.length_map] at this
          omega
        have rr : rowC (quo c) (rep c o) = quoR c r := by
          rw [quo_row (rep_ok lo).1]
          exact quo_like wf ok (rep_ok lo).1 lo (rep_ok lo).2.1.symm
        have kl : n < (addPs c os r).length ∨ n = (addPs c os r).length := by omega
        refine ⟨.int (n : Int), rfl, (n : Int), 1, rfl, rfl, c.length + 1 - (n + 1), by omega, n + 1, addPs c os r, _, _, _, _, _, rfl, rfl, by omega, by omega, s7, eO7, eP7, addPs_nd _ nd, addPs_lt _ _ lt fun e' h' => rowC_lt wf h', ?_⟩
        rw [← go, show c.length + 1 - n = (c.length + 1 - (n + 1)) + 1 by omega]
        conv => rhs; unfold goR
        rw [List.getElem?_map, ho]
        show _ = goR (quo c) _ (n + 1) (addAll (os.map (rep c)) (rowC (quo c) (rep c o)))
        rw [rr, mp]
    · rw [decide_eq_false (show ¬ (n : Int) < (os.length : Int) by omega)]
      refine iteF ?_
      have en : n = os.length := by omega
      have go2 : os.map (rep c) = reached (quo c) := by
        rw [← go, show c.length + 1 - n = (c.length - n) + 1 by omega]
        unfold goR
        rw [List.getElem?_eq_none (by rw [List.length_map]; omega)]
      have tb5 := tb3.same s5
      have cl2 : (chart c).length = os.length := by rw [chart_len, ← go2, List.length_map]
      have sH5 := Same.trans s03 s5
      refine ⟨.ref O, rfl, O, rfl, ⟨_, SqL.of eO5⟩, fun D nD => ?_⟩
      refine lc_rel (w := walk_list (K := K) (a := O) (xs := intsV os)) (fun i v H' => ∃ d, v = .ref d ∧ d ≠ D ∧ H d = none ∧ H' d = some (.dK (rowK (rowC (chart c) i)))) nD (by rw [li]; omega) (fun i H' _ s => SqL.of (s _ _ eO5)) (fun i v H' H6 up ⟨d, e1, e2, e3, e4⟩ => ⟨d, e1, e2, e3, up _ _ e2 e4⟩) (fun i x H' H6 hi s ⟨acc, eD⟩ ⟨e0, hx⟩ Nx hN => ?_) (mn_name _) (fun H6 zs s eD lz R => ?_)
      · subst e0
        rw [li] at hi
        obtain ⟨o, ho⟩ : ∃ o, os[i]? = some o := ⟨_, List.getElem?_eq_getElem hi⟩
        have ex : x = .int (o : Int) := by
          unfold intsV at hx
          rw [List.getElem?_map, ho] at hx
          exact (Option.some.inj hx).symm
        subst ex
        have lo := lt o (List.mem_of_getElem? ho)
        obtain ⟨a, ob, h1, h2, h3⟩ := tb5.row lo
        have okr := (rowOk ok lo).1
        have nd_r := okR_nd okr
        have r4 := okR_len okr
        have s56 : Same H5 H6 := s
        obtain ⟨i', ei, li', er⟩ := chart_row wf (k := i) (by rw [cl2]; exact hi)
        have ei' : i' = rep c o := by
          rw [← go2, List.getElem?_map, ho] at ei
          exact (Option.some.inj ei).symm
        subst ei'
        have er2 : rowC (chart c) i = (rowC c o).map fun e => (e.1, (reached (quo c)).idxOf (rep c e.2)) := by
          have q := quo_like wf ok (rep_ok lo).1 lo (rep_ok lo).2.1.symm
          have f : ∀ r : List (Str × Nat), (r.map fun e => (e.1, (reached (quo c)).idxOf (rep c e.2))) = (quoR c r).map fun e => (e.1, (reached (quo c)).idxOf e.2) := fun r => by
            unfold quoR
            rw [List.map_map]; rfl
          rw [er, f, q, ← f]
        refine gN ⟨rfl, ?_⟩
        refine ⟨.ref L, rfl, .int (o : Int), rfl, L, _, (o : Int), .ref a, rfl, rfl, SqL.of (s56 _ _ tb5.e), h2, a, rowK (rowC c o), keysR (rowC c o), rfl, .inr ⟨ob, s56 _ _ h3⟩, rowK_keys _, by unfold keysR; rw [List.length_map]; exact Nat.lt_of_le_of_lt r4 (by decide), fun ys S pm st nS => ?_⟩
        obtain rfl := sorted_keys okr pm st
        have eS : (upd H6 S (.lst ((keysR (rowC c o)).map V.str))) S = some (.lst ((keysR (rowC c o)).map V.str)) := upd_same
        have s6S := Same.new nS (o := .lst ((keysR (rowC c o)).map V.str))
        generalize (upd H6 S (.lst ((keysR (rowC c o)).map V.str))) = H7 at eS s6S ⊢
        have s57 := Same.trans s56 s6S
        refine ⟨S, rfl, ⟨_, SqL.of eS⟩, fun Dd nDd => ?_⟩
        have nDR : Dd ≠ D := fun z => by rw [z, s6S _ _ eD] at nDd; cases nDd
        have nDH : H Dd = none := none_back (Same.trans sH5 s57) nDd
        have lxs : ((keysR (rowC c o)).map V.str).length = (rowC c o).length := by unfold keysR; rw [List.length_map, List.length_map]
        refine dc_it (w := walk_list (K := K) (a := S) (xs := (keysR (rowC c o)).map V.str)) (fun j H' => Same H7 H' ∧ H' Dd = some (.dK (rowK ((rowC (chart c) i).take j)))) ⟨Same.new nDd, upd_same⟩ (fun j H' _ h => SqL.of (h.1 _ _ eS)) ?_ ?_
        · rintro j x H' H8 hj ⟨sj, eDd⟩ ⟨e0, hx⟩
          subst e0
          rw [lxs] at hj
          obtain ⟨e, he⟩ : ∃ e, (rowC c o)[j]? = some e := ⟨_, List.getElem?_eq_getElem hj⟩
          have ex : x = V.str e.1 := by
            unfold keysR at hx
            rw [List.getElem?_map, List.getElem?_map, he] at hx
            exact (Option.some.inj hx).symm
          subst ex
          have me : e ∈ rowC c o := List.mem_of_getElem? he
          have le := rowC_lt wf me
          have s58 := Same.trans s57 sj
          have rc : rep c e.2 ∈ os.map (rep c) := by
            rw [go2]
            refine (reached_ok (quo_wf wf)).2.2.1 (rep c o) (List.mem_of_getElem? ei) (e.1, rep c e.2) ?_
            rw [quo_row (rep_ok lo).1, quo_like wf ok (rep_ok lo).1 lo (rep_ok lo).2.1.symm]
            exact List.mem_map.mpr ⟨e, me, rfl⟩
          have mk' : ksv e.2 ∈ os.map ksv := (mem_same fun x hx => krep (lt x hx) le).mpr rc
          have ixe : ixM (os.map ksv) (ksv e.2) = (reached (quo c)).idxOf (rep c e.2) := by
            rw [← go2]
            exact idx_same fun x hx => krep (lt x hx) le
          have er3 : (rowC (chart c) i)[j]? = some (e.1, (reached (quo c)).idxOf (rep c e.2)) := by
            rw [er2, List.getElem?_map, he]; rfl
          have ndc : (keysR (rowC (chart c) i)).Nodup := by
            rw [er2, keys_map (f := fun e => (reached (quo c)).idxOf (rep c e.2))]; exact nd_r
          refine gN ⟨rfl, yes_of (iteT ?_)⟩
          refine ⟨.str e.1, rfl, .ref Pl, rfl, .ref Kd, rfl, .ref L, rfl, .int (o : Int), rfl, L, _, (o : Int), .ref a, rfl, rfl, SqL.of (s58 _ _ tb5.e), h2, .str e.1, rfl, a, .int (e.2 : Int), rfl, .inl ⟨rowK (rowC c o), .inr e.1, .inr ⟨ob, s58 _ _ h3⟩, rfl, by rw [rowK_val, lkp_at nd_r me]; rfl⟩, Kd, _, (e.2 : Int), _, rfl, rfl, SqL.of (s58 _ _ (s5 _ _ eK)), kat le, Pl, .int ((0 + ixM (os.map ksv) (ksv e.2) : Nat) : Int), rfl, .inl ⟨_, phI (ksv e.2), .inl (s58 _ _ eP5), rfl, by rw [plc_val phI_inj, if_pos mk']⟩, ?_⟩
          refine ⟨_, .inr e.1, rfl, eDd, by rw [rowK_len, List.length_take, sizeLine_eq]; have := Nat.min_le_left j (rowC (chart c) i).length; omega, fun b u q => ?_, ?_⟩
          · rw [upd_ne (ne_of_none q nDd)]; exact sj _ _ q
          · rw [upd_same, Nat.zero_add, ixe, rowK_put (lkp_take ndc er3)]
            have tk : (rowC (chart c) i).take (j + 1) = (rowC (chart c) i).take j ++ [(e.1, (reached (quo c)).idxOf (rep c e.2))] := by rw [List.take_add_one, er3]; rfl
            rw [tk]
        · rintro H' ⟨sj, eDd⟩
          have : (rowC (chart c) i).take ((keysR (rowC c o)).map V.str).length = rowC (chart c) i := List.take_of_length_le (by rw [lxs, er2, List.length_map]; exact Nat.le_refl _)
          rw [this] at eDd
          exact hN _ _ (Same.trans s6S sj) ⟨Dd, rfl, nDR, nDH, eDd⟩
      · obtain ⟨ds, rfl, hds⟩ := refs_of (R := fun i d => H d = none ∧ H6 d = some (.dK (rowK (rowC (chart c) i)))) fun i z hz => let ⟨d, e1, _, e3, e4⟩ := R i z hz; ⟨d, e1, e3, e4⟩
        exact k D H6 (Same.trans sH5 s) (none_back sH5 nD) ⟨ds, eD, by rw [← List.length_map (f := V.ref), lz, li, cl2], hds⟩
end
end K20
end

section
set_option maxHeartbeats 4000000
/-! media -/
namespace K20
open PySem PySem.Spec PyProof.Rows L2
theorem vals_nth {xs : List V} {us : List Value} (r : Vals xs us) : ∀ {i : Nat} {x : V}, xs[i]? = some x → ∃ u, us[i]? = some u ∧ RelV x u := by
  induction r with
  | nil => exact fun h => by cases h
  | cons a _ ih =>
    intro i x h
    cases i with
    | zero => cases h; exact ⟨_, rfl, a⟩
    | succ i => exact ih (i := i) (by simpa using h)
/-- what the top has written of the class Medium -/
structure MedC (K : PySem.W.Frag) (mg : Str → Option Value) (ad : Str → Addr) (fd : Str → FuncData) : Prop where
  G : mg "Medium" = some (.ref (ad "Medium"))
  cl : Cls K (ad "Medium")
  mks : Mk K (ad "Medium") (ad "Medium.__init__")
  nm : NoAttr K (ad "Medium") "_many"
  nt : NoAttr K (ad "Medium") "_table"
  nl : NoAttr K (ad "Medium") "_leads"
  lets : ∃ u, Con K (ad "Medium") "LETTERS" (.str "abcd") u
  most : ∃ mc u, ClX.CRead K (ad "Medium") mc ∧ ClX.CVal K (ad "Medium") mc "MOST_STATES" (.int 16) u
  F_init : Fun K "__init__" "Medium.__init__" sM_init (ad "Medium.__init__") (fd "Medium.__init__")
  b_init : Binds K (fd "Medium.__init__") ["self", "many", "table"] []
  F_table : Fun K "table" "Medium.table" sM_table (ad "Medium.table") (fd "Medium.table")
  b_table : Binds K (fd "Medium.table") ["self"] []
  m_table : Meth K (ad "Medium") "table" (ad "Medium.table")
  F_leads : Fun K "leads" "Medium.leads" sM_leads (ad "Medium.leads") (fd "Medium.leads")
  b_leads : Binds K (fd "Medium.leads") ["self"] []
  m_leads : Meth K (ad "Medium") "leads" (ad "Medium.leads")
  F_len : Fun K "__len__" "Medium.__len__" sM_len (ad "Medium.__len__") (fd "Medium.__len__")
  b_len : Binds K (fd "Medium.__len__") ["self"] []
  ln : PySem.W.findIn K (.ref (ad "Medium")) "__len__" = some (some (.ref (ad "Medium.__len__")))
  lnf : PySem.W.isFn K (.ref (ad "Medium.__len__")) = true
  F_eq : Fun K "__eq__" "Medium.__eq__" sM_eq (ad "Medium.__eq__") (fd "Medium.__eq__")
  b_eq : Binds K (fd "Medium.__eq__") ["self", "other"] []
  eq : PySem.W.findIn K (.ref (ad "Medium")) "__eq__" = some (some (.ref (ad "Medium.__eq__")))
  eqf : PySem.W.isFn K (.ref (ad "Medium.__eq__")) = true
  ca : PySem.W.findIn K (.ref (ad "Medium")) "__class__" = some (some (.builtin "object.__class__"))
  ob : PySem.W.mroIn K (ad "Medium") (.type "object") = some true
  cn : PySem.W.specialIn K (.builtin "object.__class__") "__get__" = some (some (.builtin "getset_descriptor.__get__"))
  ct : PySem.W.takesIn K (.builtin "object.__class__") = some true
/-- a Medium stands at a: w letters, the table c -/
def MedO (C : Addr) (H : Hp) (a : Addr) (w : Nat) (c : Ch) : Prop :=
  ∃ dx F ls L ts, H a = some (.ins C dx [(("_many" : Str), .int (w : Int)), (("_table" : Str), .ref F), (("_leads" : Str), .ref L)]) ∧ TbF H F ls c ∧ LdAt H L w c ts
theorem MedO.same {C : Addr} {H H' : Hp} {a : Addr} {w : Nat} {c : Ch} (h : MedO C H a w c) (s : Same H H') : MedO C H' a w c := by
  obtain ⟨dx, F, ls, L, ts, e, tb, ld⟩ := h
  exact ⟨dx, F, ls, L, ts, s _ _ e, tb.same s, ld.same s⟩
theorem TbF.butI {x : Addr} {H H' : Hp} {F : Addr} {ls : List Addr} {c : Ch} (h : TbF H F ls c) (n : ∀ b o, b ≠ x → H b = some o → H' b = some o) (hx : ∃ C dx fs, H x = some (.ins C dx fs)) : TbF H' F ls c := by
  obtain ⟨C, dx, fs, q⟩ := hx
  refine ⟨n _ _ (fun z => ?_) h.e, h.l, fun i a e => ?_⟩
  · have := h.e
    rw [z, q] at this
    cases this
  · obtain ⟨o, k⟩ := h.k i a e
    exact ⟨o, n _ _ (fun z => by rw [z, q] at k; cases k) k⟩
theorem LdAt.butI {x : Addr} {H H' : Hp} {T : Addr} {w : Nat} {c : Ch} {ts : List Addr} (h : LdAt H T w c ts) (n : ∀ b o, b ≠ x → H b = some o → H' b = some o) (hx : ∃ C dx fs, H x = some (.ins C dx fs)) : LdAt H' T w c ts := by
  obtain ⟨C, dx, fs, q⟩ := hx
  refine ⟨n _ _ (fun z => ?_) h.e, h.l, fun i a e => ?_⟩
  · have := h.e
    rw [z, q] at this
    cases this
  · have k := h.k i a e
    exact n _ _ (fun z => by rw [z, q] at k; cases k) k
theorem cut_let {w : Nat} (h1 : 2 ≤ w) (h2 : w ≤ 4) : okSg w (cutS "abcd" none (some (w : Int))) := by
  obtain rfl | rfl | rfl : w = 2 ∨ w = 3 ∨ w = 4 := by omega
  · unfold okSg; decide +kernel
  · unfold okSg; decide +kernel
  · unfold okSg; decide +kernel
theorem abcd_len : ("abcd" : Str).length ≤ sizeLine := by rw [sizeLine_eq]; decide +kernel
def spMTab : Sp := fun vs H Q _ => ∃ (F : Addr) (ls : List Addr) (c : Ch) (w : Nat), vs = [.ref F, .int 0] ∧ TbF H F ls c ∧ WfC c ∧ okT w c ∧ c.length ≤ 64 ∧ (chart c).length ≤ 16 ∧ ∀ (D : Addr) (H' : Hp), Same H H' → H D = none → NewT H H' D (chart c) → Q (.ref D) H'
def spMInit (C : Addr) : Sp := fun vs H Q _ => ∃ (x dx F : Addr) (ls : List Addr) (c : Ch) (w : Nat), vs = [.ref x, .int (w : Int), .ref F] ∧ H x = some (.ins C dx []) ∧ 2 ≤ w ∧ w ≤ 4 ∧ TbF H F ls c ∧ WfC c ∧ okT w c ∧ c.length ≤ 64 ∧ (chart c).length ≤ 16 ∧
  ∀ H' : Hp, But x H H' → MedO C H' x w (chart c) → Q .non H'
def spMTable (C : Addr) : Sp := fun vs H Q _ => ∃ (a : Addr) (w : Nat) (c : Ch), vs = [.ref a] ∧ MedO C H a w c ∧ c.length ≤ 64 ∧ ∀ (D : Addr) (H' : Hp), Same H H' → H D = none → NewT H H' D c → Q (.ref D) H'
def spMLeads (C : Addr) : Sp := fun vs H Q _ => ∃ (a : Addr) (w : Nat) (c : Ch), vs = [.ref a] ∧ MedO C H a w c ∧ ∀ (T : Addr) (ts : List Addr), LdAt H T w c ts → Q (.ref T) H
def spMLen (C : Addr) : Sp := fun vs H Q _ => ∃ (a : Addr) (w : Nat) (c : Ch), vs = [.ref a] ∧ MedO C H a w c ∧ Q (.int (c.length : Int)) H
def spMEq (C : Addr) : Sp := fun vs H Q _ => ∃ (a b : Addr) (w : Nat) (c : Ch), vs = [.ref a, .ref b] ∧ MedO C H a w c ∧ MedO C H b w c ∧ okT w c ∧ c.length ≤ 64 ∧ Q (.bl true) H
def spCMed (C : Addr) : Sp := fun vs H Q _ => ∃ (a : Addr) (w : Nat) (c : Ch), vs = [.ref a] ∧ MedO C H a w c ∧ Q .non H
/-! ### == of locked tables that read alike -/
def rEqTb (K : PySem.W.Frag) : R2 := fun x y H Q => ∃ F G ls ls' c w, x = .ref F ∧ y = .ref G ∧ TbF H F ls c ∧ TbF H G ls' c ∧ okT w c ∧ c.length ≤ 64 ∧ Q (.bl true) H
theorem op_eqTb {X : Cx} (hu : X.A.units + 64 < cLine) : OpR X (compareOp .Eq) (rEqTb X.K) := by
  intro pins s σ H x y v u Q I rx ry h
  obtain ⟨F, G, ls, ls', c, w, rfl, rfl, ta, tb, ok, cl, q⟩ := h
  cases (show v = Value.ref F from rx)
  cases (show u = Value.ref G from ry)
  obtain ⟨us, r1, p1, _⟩ := I.list (SqL.of ta.e)
  obtain ⟨ws, r2, p2, _⟩ := I.list (SqL.of tb.e)
  have l1 : us.length = c.length := by rw [← r1.length, List.length_map, ta.l]
  have l2 : ws.length = c.length := by rw [← r2.length, List.length_map, tb.l]
  have hsz : us.toArray.size = ws.toArray.size := by rw [List.size_toArray, List.size_toArray, l1, l2]
  refine SeqAt.rcP_lists (e := fun _ => true) p1.isList p2.isList hsz (by show X.A.units < cLine; omega) (fun j h1 h2 => ?_) _ _ ?_
  · rw [List.size_toArray] at h1 h2
    have hj : j < c.length := by omega
    obtain ⟨a, o, e1, e2, e3⟩ := ta.row hj
    obtain ⟨b, o', f1, f2, f3⟩ := tb.row hj
    have g1 : us[j] = Value.ref a := by
      obtain ⟨z, hz, rz⟩ := vals_nth r1 (i := j) (x := .ref a) (by rw [List.getElem?_map, e1]; rfl)
      rw [List.getElem?_eq_getElem h1] at hz
      cases hz
      exact rz
    have g2 : ws[j] = Value.ref b := by
      obtain ⟨z, hz, rz⟩ := vals_nth r2 (i := j) (x := .ref b) (by rw [List.getElem?_map, f1]; rfl)
      rw [List.getElem?_eq_getElem h2] at hz
      cases hz
      exact rz
    have nd := okR_nd (rowOk ok hj).1
    obtain ⟨_, ya, va, ra, da⟩ := dk_rd I.hok (.inr ⟨o, e3⟩)
    obtain ⟨_, yb, vb, rb, db⟩ := dk_rd I.hok (.inr ⟨o', f3⟩)
    have hit := hits_run (P := X.prog) (w := X.w) (A := X.A.in1.in1) (s := s) (F := fun x y => x = y ∧ flatB x = true) (fun x y v u h rx ry => by
      obtain ⟨rfl, f⟩ := h
      exact (eqAt_same rx ry f).eqP) rb ra (fun p hp => by
        obtain ⟨e, he, rfl⟩ := List.mem_map.mp hp
        exact ⟨.int (e.2 : Int), by rw [rowK_val, lkp_at nd he]; rfl, rfl, rfl⟩)
    have el : va.length = vb.length := by rw [← ra.length, ← rb.length]
    show SeqAt.EqP X.prog X.w X.A.in1 s us[j] ws[j] true
    rw [g1, g2]
    by_cases e : a = b
    · subst e
      exact (SeqAt.EqAt.same _).eqP
    · refine SeqAt.eqP_refs e fun E Q q => ?_
      refine PySem.W.rcP_dicts (knd := mixKind X.prog X.w) (r := true) ya yb da db (by show X.A.units + 1 < cLine; omega) (fun _ => hit) E Q ?_
      rw [show (va.length == vb.length && true) = true from by rw [el]; simp]
      exact q
  · rw [show ((List.range us.toArray.size).all fun _ => true) = true from List.all_eq_true.mpr fun _ _ => rfl]
    exact ⟨.bl true, H, I, rfl, q⟩
section
variable {P : Program} {w : World} {K : PySem.W.Frag} {mg : Str → Option Value} {base : Heap} {ad : Str → Addr} {fd : Str → FuncData}
theorem b_medium_table (X : Tx K mg ad fd) : ∃ ds, Vals [.int 0] ds ∧ Binds K (fd "medium_table") ["table", "start"] ds := X.F_medium_table.binds1 (ps := ["table", "start"]) 1 0 (by decide) rfl fun T kV doc pm an cdv ct us its hl hi => by
  match us, its, hl, hi with
  | [_], [_], _, _ => first | exact ⟨_, rfl, rfl⟩ | exact ⟨_, by with_unfolding_all rfl, rfl⟩
theorem ty_med (M : MedC K mg ad fd) {H : Hp} {a : Addr} {w : Nat} {c : Ch} (h : MedO (ad "Medium") H a w c) : TyX K H (.ref a) (.ref (ad "Medium")) := by
  obtain ⟨dx, F, ls, L, ts, e, _⟩ := h
  exact .base (.ins e M.cl M.ca M.cn M.ct M.ob)
theorem scMediumTable : FnScope ["table", "start", "least"] ["table", "start"] (defScope sMediumTable) := ⟨rfl, rfl, rfl, by decide +kernel, rfl, by decide +kernel, by decide +kernel⟩
theorem ok_medium_table (X : Tx K mg ad fd) (M : MedC K mg ad fd) : FnOk P w K mg base CX0 4 (ad "medium_table") (fd "medium_table") ["table", "start"] spMTab := by
  have G_least_table := ok_least_table (P := P) (w := w) (base := base) X
  refine FunV.okV X.F_medium_table scMediumTable (fun vs H Q E h => ?_) (fun cdv A outer s H vs Q E hr h => ?_)
  · obtain ⟨F, ls, c, w, rfl, tb, wf, ok, cl, c16, k⟩ := h
    rfl
  · obtain ⟨F, ls, c, w, rfl, tb, wf, ok, cl, c16, k⟩ := h
    have HR_least_table : Room 3 _ := hr
    obtain ⟨mc, um, rd, cv⟩ := M.most
    refine ⟨_, (pss_cons (ps_set (i := 2) scMediumTable.nd rfl (.inl rfl) (by exact (pe_call G_least_table HR_least_table (by rfl) X.g_least_table X.F_least_table.kp (b_least_table X) .nil pass0 (pa_cons (pv 0) (pa_cons (pv 1) pa_nil)))))
  (pss_cons (ps_if (pt_not (pt_truth (pv 2) (by intro _; rfl)))
  (pss_one ps_never)
  pss_nil)
  (pss_cons (ps_if (pt_cmpR op_gt (pe_callB (call_lenK (K := K) rfl) (by rfl) X.m_len (by decide +kernel) (pa_cons (pv 2) pa_nil)) (ClX.pe_cval (pe_glob (v := .ref (ad "Medium")) (by rfl) M.G rfl)) (nomark _))
  (pss_one ps_never)
  pss_nil)
  (pss_one (ps_ret (by exact (pv 2))))))), ?_⟩
    refine ⟨.ref F, rfl, .int 0, rfl, F, ls, c, w, rfl, tb, wf, ok, cl, fun D H1 s1 nD nt => ?_⟩
    refine gN ?_
    obtain ⟨ds, eD, lds, kds⟩ := id nt
    have ne0 : (ds.map V.ref).isEmpty = false := by
      cases e : ds with
      | nil => rw [e] at lds; have := (chart_wf wf).1; rw [← lds] at this; cases this
      | cons d r => rfl
    refine ⟨.ref D, rfl, _, .inl ⟨_, SqL.of eD, rfl⟩, ?_⟩
    rw [ne0]
    refine iteF ?_
    refine ⟨.ref D, rfl, .ref D, _, rfl, .inl ⟨_, SqL.of eD, rfl⟩, ad "Medium", mc, .int 16, um, rfl, rd, cv, _, _, rfl, rfl, _, rfl, ?_⟩
    rw [decide_eq_false (show ¬ (16 : Int) < ((ds.map V.ref).length : Int) by rw [List.length_map, lds]; omega)]
    exact iteF ⟨.ref D, rfl, k D H1 s1 nD nt⟩
theorem scM_init : FnScope ["self", "many", "table"] ["self", "many", "table"] (defScope sM_init) := ⟨rfl, rfl, rfl, by decide +kernel, rfl, by decide +kernel, by decide +kernel⟩
theorem ok_minit (X : Tx K mg ad fd) (M : MedC K mg ad fd) : FnOk P w K mg base CX0 5 (ad "Medium.__init__") (fd "Medium.__init__") ["self", "many", "table"] (spMInit (ad "Medium")) := by
  have G_check_many := ok_check_many (P := P) (w := w) (base := base) X
  have G_check_table := ok_check_table (P := P) (w := w) (base := base) X
  have G_medium_table := ok_medium_table (P := P) (w := w) (base := base) X M
  have G_leads_of := ok_leads_of (P := P) (w := w) (base := base) X
  refine M.F_init.ok scM_init (fun vs H Q E h => ?_) (fun cdv A outer s H vs Q E hr h => ?_)
  · obtain ⟨x, dx, F, ls, c, w, rfl, hx, w2, w4, tb, wf, ok, cl, c16, k⟩ := h
    rfl
  · obtain ⟨x, dx, F, ls, c, w, rfl, hx, w2, w4, tb, wf, ok, cl, c16, k⟩ := h
    have HR_check_many : Room 3 _ := hr.mono (by decide)
    have HR_check_table : Room 4 _ := hr
    have HR_medium_table : Room 4 _ := hr
    have HR_leads_of : Room 1 _ := hr.mono (by decide)
    obtain ⟨ul, cl_⟩ := M.lets
    obtain ⟨bd, vbd, bmt⟩ := b_medium_table X
    refine ⟨_, (pss_cons (ps_expr (by exact (pe_call G_check_many HR_check_many (by rfl) X.g_check_many X.F_check_many.kp X.b_check_many .nil pass0 (pa_cons (pv 1) pa_nil))))
  (pss_cons (ps_expr (by exact (pe_call G_check_table HR_check_table (by rfl) X.g_check_table X.F_check_table.kp X.b_check_table .nil pass0 (pa_cons (pv 2) (pa_cons (pe_slice sl_str (pe_con (pv 0) rfl) po_none (po_some (pv 1))) pa_nil)))))
  (pss_cons (ps_fld (pv 0) (by exact (pv 1)) rfl)
  (pss_cons (ps_fld (pv 0) (by exact (pe_lock (pe_call G_medium_table HR_medium_table (by rfl) X.g_medium_table X.F_medium_table.kp bmt vbd pass0 (pa_cons (pv 2) pa_nil)))) rfl)
  (pss_one (ps_fld (pv 0) (by exact (pe_call G_leads_of HR_leads_of (by rfl) X.g_leads_of X.F_leads_of.kp X.b_leads_of .nil pass0 (pa_cons (pe_fld (pv 0) rfl) (pa_cons (pe_slice sl_str (pe_con (pv 0) rfl) po_none (po_some (pv 1))) pa_nil)))) rfl)))))), ?_⟩
    refine ⟨.int (w : Int), rfl, (w : Int), rfl, by omega, by omega, ?_⟩
    have sg := cut_let w2 w4
    refine ⟨.ref F, rfl, .ref x, rfl, x, ad "Medium", dx, [], .str "abcd", ul, rfl, hx, M.cl, cl_, rfl, .int (w : Int), rfl, (w : Int), rfl, "abcd", rfl, abcd_len, F, ls, c, w, _, rfl, tb, wf, ok, cl, sg, fun H1 s1 => ?_⟩
    have hx1 := s1 _ _ hx
    refine ⟨.int (w : Int), rfl, .ref x, rfl, x, ad "Medium", dx, [], rfl, hx1, M.cl, M.nm, by decide, ?_⟩
    have b1 : But x H (upd H1 x (.ins (ad "Medium") dx (putF "_many" (.int (w : Int)) []))) := (But.same s1).trans But.upd
    have e1 : (upd H1 x (.ins (ad "Medium") dx (putF "_many" (.int (w : Int)) []))) x = some (.ins (ad "Medium") dx [(("_many" : Str), .int (w : Int))]) := upd_same
    generalize (upd H1 x (.ins (ad "Medium") dx (putF "_many" (.int (w : Int)) []))) = H2 at b1 e1 ⊢
    have tb2 := tb.butI b1 ⟨_, _, _, hx⟩
    refine ⟨.ref F, rfl, F, ls, c, w, rfl, tb2, wf, ok, cl, c16, fun D H3 s3 nD nt => ⟨fun b => H2 b = none, fun H4 LP => ?_⟩⟩
    obtain ⟨ls', tb4⟩ := nt.lock LP
    have s4 := LP.same s3
    have e4 := s4 _ _ e1
    refine ⟨.ref x, rfl, x, ad "Medium", dx, _, rfl, e4, M.cl, M.nt, (by show 1 < 1000; decide), ?_⟩
    have b5 : But x H (upd H4 x (.ins (ad "Medium") dx (putF "_table" (.ref D) [(("_many" : Str), .int (w : Int))]))) := (b1.trans (But.same s4)).trans But.upd
    have b45 : But x H4 (upd H4 x (.ins (ad "Medium") dx (putF "_table" (.ref D) [(("_many" : Str), .int (w : Int))]))) := But.upd
    have e5 : (upd H4 x (.ins (ad "Medium") dx (putF "_table" (.ref D) [(("_many" : Str), .int (w : Int))]))) x = some (.ins (ad "Medium") dx [(("_many" : Str), .int (w : Int)), (("_table" : Str), .ref D)]) := upd_same
    generalize (upd H4 x (.ins (ad "Medium") dx (putF "_table" (.ref D) [(("_many" : Str), .int (w : Int))]))) = H5 at b5 b45 e5 ⊢
    have tb5 := tb4.butI b45 ⟨_, _, _, e4⟩
    refine ⟨.ref x, rfl, x, _, dx, _, _, rfl, e5, M.cl, M.nt, rfl, .ref x, rfl, x, ad "Medium", dx, _, .str "abcd", ul, rfl, e5, M.cl, cl_, rfl, .int (w : Int), rfl, (w : Int), rfl, "abcd", rfl, abcd_len, D, ls', chart c, w, _, rfl, tb5, Nat.le_trans c16 (by decide), sg, fun T ts H6 s6 nT ld => ?_⟩
    have e6 := s6 _ _ e5
    refine ⟨.ref x, rfl, x, ad "Medium", dx, _, rfl, e6, M.cl, M.nl, (by show 2 < 1000; decide), ?_⟩
    refine k _ ((b5.trans (But.same s6)).trans But.upd) ⟨dx, D, ls', T, ts, upd_same, ?_, ?_⟩
    · exact (tb5.same s6).butI But.upd ⟨_, _, _, e6⟩
    · exact ld.butI But.upd ⟨_, _, _, e6⟩
theorem scM_table : FnScope ["self", "leading"] ["self"] (defScope sM_table) := ⟨rfl, rfl, rfl, by decide +kernel, rfl, by decide +kernel, by decide +kernel⟩
theorem ok_mtable (X : Tx K mg ad fd) (M : MedC K mg ad fd) : FnOk P w K mg base CX0 1 (ad "Medium.table") (fd "Medium.table") ["self"] (spMTable (ad "Medium")) := by
  refine M.F_table.ok scM_table (fun vs H Q E h => ?_) (fun cdv A outer s H vs Q E hr h => ?_)
  · obtain ⟨a, w, c, rfl, ⟨dx, F, ls, L, ts, e, tb, ld⟩, cl, k⟩ := h
    rfl
  · obtain ⟨a, w, c, rfl, ⟨dx, F, ls, L, ts, e, tb, ld⟩, cl, k⟩ := h
    refine ⟨_, (pss_one (ps_ret (by exact (pe_lc (own := [("leading", 1)]) (g := gName 1) rfl scM_table.nd (pi_listK (K := K) rfl (pe_fld (pv 0) rfl)) (blkOk_by (own := [("leading", 1)]) (N := ["self", "leading"]) (sc := defScope sM_table) (by decide +kernel)) (fun _ _ _ _ _ => pg_name (i := 1) scM_table.nd rfl (Or.inl rfl)) (fun _ _ _ _ _ => pts_nil) (fun _ _ _ _ _ => (pe_callTy call_dictD (by rfl) X.m_dict (by decide +kernel) (pa_cons (pv 1) pa_nil))))))), ?_⟩
    have hl : (ls.map V.ref).length = c.length := by rw [List.length_map, tb.l]
    refine ⟨.ref a, rfl, a, _, dx, _, _, rfl, e, M.cl, M.nt, rfl, F, rfl, ⟨_, SqL.of tb.e⟩, fun D nD => ?_⟩
    refine lc_rel (w := walk_list (K := K) (a := F) (xs := ls.map V.ref)) (fun i v H' => ∃ d, v = .ref d ∧ d ≠ D ∧ H d = none ∧ H' d = some (.dK (rowK (rowC c i)))) nD (by rw [hl]; omega) (fun i H' _ s => SqL.of (s _ _ tb.e)) (fun i v H' H6 up ⟨d, e1, e2, e3, e4⟩ => ⟨d, e1, e2, e3, up _ _ e2 e4⟩) (fun i x H' H6 hi s ⟨acc, eD⟩ ⟨e0, hx⟩ Nx hN => ?_) (mn_name _) (fun H6 zs s eD lz R => ?_)
    · subst e0
      rw [hl] at hi
      obtain ⟨b, o, h1, _, h3⟩ := tb.row hi
      rw [List.getElem?_map, h1] at hx
      cases hx
      refine gN ⟨rfl, ?_⟩
      refine ⟨.ref b, rfl, b, _, rfl, .inr ⟨o, s _ _ h3⟩, fun d nd => hN _ _ (Same.new nd) ⟨d, rfl, fun z => ?_, none_back s nd, upd_same⟩⟩
      rw [z, eD] at nd
      cases nd
    · obtain ⟨ds, rfl, hds⟩ := refs_of (R := fun i d => H d = none ∧ H6 d = some (.dK (rowK (rowC c i)))) fun i z hz => let ⟨d, e1, _, e3, e4⟩ := R i z hz; ⟨d, e1, e3, e4⟩
      exact k D H6 s nD ⟨ds, eD, by rw [← List.length_map (f := V.ref), lz, hl], hds⟩
theorem scM_leads : FnScope ["self"] ["self"] (defScope sM_leads) := ⟨rfl, rfl, rfl, by decide +kernel, rfl, by decide +kernel, by decide +kernel⟩
theorem ok_mleads (X : Tx K mg ad fd) (M : MedC K mg ad fd) : FnOk P w K mg base CX0 1 (ad "Medium.leads") (fd "Medium.leads") ["self"] (spMLeads (ad "Medium")) := by
  refine M.F_leads.ok scM_leads (fun vs H Q E h => ?_) (fun cdv A outer s H vs Q E hr h => ?_)
  · obtain ⟨a, w, c, rfl, ⟨dx, F, ls, L, ts, e, tb, ld⟩, k⟩ := h
    rfl
  · obtain ⟨a, w, c, rfl, ⟨dx, F, ls, L, ts, e, tb, ld⟩, k⟩ := h
    refine ⟨_, (pss_one (ps_ret (by exact (pe_fld (pv 0) rfl)))), ?_⟩
    exact ⟨.ref a, rfl, a, _, dx, _, _, rfl, e, M.cl, M.nl, rfl, k L ts ld⟩
theorem scM_len : FnScope ["self"] ["self"] (defScope sM_len) := ⟨rfl, rfl, rfl, by decide +kernel, rfl, by decide +kernel, by decide +kernel⟩
theorem ok_mlen (X : Tx K mg ad fd) (M : MedC K mg ad fd) : FnOk P w K mg base CX0 1 (ad "Medium.__len__") (fd "Medium.__len__") ["self"] (spMLen (ad "Medium")) := by
  refine M.F_len.ok scM_len (fun vs H Q E h => ?_) (fun cdv A outer s H vs Q E hr h => ?_)
  · obtain ⟨a, w, c, rfl, ⟨dx, F, ls, L, ts, e, tb, ld⟩, k⟩ := h
    rfl
  · obtain ⟨a, w, c, rfl, ⟨dx, F, ls, L, ts, e, tb, ld⟩, k⟩ := h
    refine ⟨_, (pss_one (ps_ret (by exact (pe_callB (call_lenK (K := K) rfl) (by rfl) X.m_len (by decide +kernel) (pa_cons (pe_fld (pv 0) rfl) pa_nil))))), ?_⟩
    refine ⟨.ref a, rfl, a, _, dx, _, _, rfl, e, M.cl, M.nt, rfl, .ref F, _, rfl, .inl ⟨_, SqL.of tb.e, rfl⟩, ?_⟩
    rw [List.length_map, tb.l]
    exact k
theorem scM_eq : FnScope ["self", "other"] ["self", "other"] (defScope sM_eq) := ⟨rfl, rfl, rfl, by decide +kernel, rfl, by decide +kernel, by decide +kernel⟩
theorem ok_meq (X : Tx K mg ad fd) (M : MedC K mg ad fd) : FnOk P w K mg base CX0 1 (ad "Medium.__eq__") (fd "Medium.__eq__") ["self", "other"] (spMEq (ad "Medium")) := by
  refine M.F_eq.ok scM_eq (fun vs H Q E h => ?_) (fun cdv A outer s H vs Q E hr h => ?_)
  · obtain ⟨a, b, w, c, rfl, ma, mb, ok, cl, k⟩ := h
    rfl
  · obtain ⟨a, b, w, c, rfl, ma, mb, ok, cl, k⟩ := h
    have hu64 : (A.deeper (envOfC "Medium.__eq__" (defScope sM_eq) s.heap.objs.size (ad "Medium.__eq__") cdv)).units + 64 < cLine := by have := hr.un; omega
    refine ⟨_, (pss_one (ps_ret (by exact (pe_and (pe_callB call_isi (by rfl) X.m_isinstance (by decide +kernel) (pa_cons (pv 1) (pa_cons (pe_glob (v := .ref (ad "Medium")) (by rfl) M.G rfl) pa_nil))) (pe_and (pe_cmpR op_eq (pe_fld (pv 0) rfl) (pe_fld (pv 1) rfl) (nomark _)) (pe_one (pe_cmpR (op_eqTb hu64) (pe_fld (pv 0) rfl) (pe_fld (pv 1) rfl) (nomark _)))))))), ?_⟩
    have tyb := ty_med M mb
    obtain ⟨dx, F, ls, L, ts, e, tb, ld⟩ := ma
    obtain ⟨dx', F', ls', L', ts', e', tb', ld'⟩ := mb
    refine ⟨.ref b, rfl, .ref b, .ref (ad "Medium"), _, _, true, rfl, .own _, tyb, (by unfold PySem.W.kitOne; rw [if_pos (by simp)]), _, rfl, iteT ?_⟩
    refine ⟨.ref a, rfl, a, _, dx, _, _, rfl, e, M.cl, M.nm, rfl, .ref b, rfl, b, _, dx', _, _, rfl, e', M.cl, M.nm, rfl, rfl, _, rfl, ?_⟩
    rw [decide_eq_true (show V.int (w : Int) = V.int (w : Int) from rfl)]
    refine iteT ?_
    exact ⟨.ref a, rfl, a, _, dx, _, _, rfl, e, M.cl, M.nt, rfl, .ref b, rfl, b, _, dx', _, _, rfl, e', M.cl, M.nt, rfl, F, F', ls, ls', c, w, rfl, rfl, tb, tb', ok, cl, k⟩
theorem scCheckMedium : FnScope ["medium"] ["medium"] (defScope sCheckMedium) := ⟨rfl, rfl, rfl, by decide +kernel, rfl, by decide +kernel, by decide +kernel⟩
theorem ok_check_medium (X : Tx K mg ad fd) (M : MedC K mg ad fd) : FnOk P w K mg base CX0 1 (ad "check_medium") (fd "check_medium") ["medium"] (spCMed (ad "Medium")) := by
  refine X.F_check_medium.ok scCheckMedium (fun vs H Q E h => ?_) (fun cdv A outer s H vs Q E hr h => ?_)
  · obtain ⟨a, w, c, rfl, ma, k⟩ := h
    rfl
  · obtain ⟨a, w, c, rfl, ma, k⟩ := h
    refine ⟨_, (pss_one (ps_if (pt_not (pt_val (pe_callB call_isi (by rfl) X.m_isinstance (by decide +kernel) (pa_cons (pv 0) (pa_cons (pe_glob (v := .ref (ad "Medium")) (by rfl) M.G rfl) pa_nil)))))
  (pss_one ps_never)
  pss_nil)), ?_⟩
    exact ⟨.ref a, rfl, .ref a, .ref (ad "Medium"), _, _, true, rfl, .own _, ty_med M ma, (by unfold PySem.W.kitOne; rw [if_pos (by simp)]), _, rfl, iteF k⟩
end
end K20
end

section
set_option maxHeartbeats 4000000
/-! counts -/
namespace K20
open PySem PySem.Spec PyProof.Rows L2
theorem cnt_rec (c : Ch) : ∀ (L s : Nat), (Nat.rec (fun _ => 1) (fun _ G => sumF c G) L : Nat → Nat) s = cnt c L s
  | 0, s => rfl
  | L + 1, s => by
    show sumF c (Nat.rec (fun _ => 1) (fun _ G => sumF c G) L) s = _
    rw [show (Nat.rec (fun _ => 1) (fun _ G => sumF c G) L : Nat → Nat) = cnt c L from funext fun t => cnt_rec c L t]
    rfl
def spStart (C : Addr) : Sp := fun vs H Q _ => ∃ (a : Addr) (w : Nat) (c : Ch) (L s : Int), vs = [.ref a, .int L, .int s] ∧ MedO C H a w c ∧ 0 ≤ L ∧ L ≤ 400 ∧ 0 ≤ s ∧ s < c.length ∧ c.length ≤ 64 ∧ Q .non H
def spOnes (C : Addr) : Sp := fun vs H Q _ => ∃ (a : Addr) (w : Nat) (c : Ch), vs = [.ref a] ∧ MedO C H a w c ∧ c.length ≤ 64 ∧ ∀ (D : Addr) (H' : Hp), Same H H' → H D = none → H' D = some (.lst ((List.range c.length).map fun _ => V.int 1)) → Q (.ref D) H'
def spCount (C : Addr) : Sp := fun vs H Q _ => ∃ (a : Addr) (w : Nat) (c : Ch) (L s : Nat), vs = [.ref a, .int (L : Int), .int (s : Int)] ∧ MedO C H a w c ∧ WfC c ∧ okT w c ∧ 2 ≤ w ∧ w ≤ 4 ∧ L ≤ 400 ∧ s < c.length ∧ c.length ≤ 64 ∧ ∀ H', Same H H' → Q (.int ((cnt c L s : Nat) : Int)) H'
def gRev {α : Type} (_ ws : List α) : List α := ws.reverse
def gRevD {α : Type} (ds ws : List α) : List α := ws.reverse ++ ds
theorem FunD.kbD {K : PySem.W.Frag} {x qual : Str} {params : Arguments} {body : List Stmt} {scope : Scope} {dvs : List V} {kws : List (Str × V)} {f : Addr} {fd : FuncData} {ps ks : List Str} (F : FunD K x qual params body scope dvs kws f fd) (g : {α : Type} → List α → List α → List α) (hd : dvs ≠ [])
    (hrel : ∀ {ds zs : List V} {its ws : List Value}, Vals ds its → Vals zs ws → Vals (g ds zs) (g its ws))
    (h : ∀ (T : Addr) (kV doc pm : Value) (an : Option Addr) (cdv ct : Value) (its ws : List Value), its.length = dvs.length → (g its ws).length = ps.length →
      ∃ k, bindArgs (PySem.W.fnOf x qual params body scope (.ref T) kV doc pm an cdv ct) ⟨[], ks.zip ws⟩ = seqItems? (.ref T) >>= k ∧ k (some its.toArray) = pure (ps.zip (g its ws))) : ∃ its : List Value, KB K fd ps ks (g its) (g dvs) := by
  obtain ⟨oc, od, dV, kV, doc, pm, an, cdv, ct, osl, rfl, lk, hcd, hD, hK⟩ := F.ex
  rcases hD with ⟨e, _⟩ | ⟨_, T, o, its, m, rfl, lT, oT, rT⟩
  · exact absurd e hd
  · refine ⟨its, fun s ws I hlen => ?_, fun r => hrel rT r⟩
    obtain ⟨k, e1, e2⟩ := h T kV doc pm an cdv ct its ws rT.length.symm hlen
    refine BindsTo.of_looks fun M => ?_
    rw [e1]
    exact looks_items I lT oT (.of_pure e2)
section
variable {P : Program} {w : World} {K : PySem.W.Frag} {mg : Str → Option Value} {base : Heap} {ad : Str → Addr} {fd : Str → FuncData}
theorem b_count (X : Tx K mg ad fd) : Binds K (fd "count") ["medium", "length", "state"] [] := by
  obtain ⟨ds, v, b⟩ := X.F_count.binds1 (ps := ["medium", "length", "state"]) 3 1 (by decide) rfl fun T kV doc pm an cdv ct us its hl hi => by
    match us, its, hl, hi with
    | [_, _, _], [_], _, _ => first | exact ⟨_, rfl, rfl⟩ | exact ⟨_, by with_unfolding_all rfl, rfl⟩
  cases v
  exact b
theorem b_count2 (X : Tx K mg ad fd) : ∃ ds, Vals [.int 0] ds ∧ Binds K (fd "count") ["medium", "length", "state"] ds := X.F_count.binds1 (ps := ["medium", "length", "state"]) 2 0 (by decide) rfl fun T kV doc pm an cdv ct us its hl hi => by
  match us, its, hl, hi with
  | [_, _], [_], _, _ => first | exact ⟨_, rfl, rfl⟩ | exact ⟨_, by with_unfolding_all rfl, rfl⟩
theorem k_count (X : Tx K mg ad fd) : ∃ its : List Value, KB K (fd "count") ["medium", "length", "state"] ["state", "length", "medium"] (gRev its) (gRev [V.int 0]) :=
  FunD.kbD X.F_count gRev (by decide) (fun _ r => vals_rev r) fun T kV doc pm an cdv ct its ws hl hi => by
    unfold gRev at hi
    rw [List.length_reverse] at hi
    match its, ws, hl, hi with
    | [_], [_, _, _], _, _ => first | exact ⟨_, rfl, rfl⟩ | exact ⟨_, by with_unfolding_all rfl, rfl⟩
theorem k_count2 (X : Tx K mg ad fd) : ∃ its : List Value, KB K (fd "count") ["medium", "length", "state"] ["length", "medium"] (gRevD its) (gRevD [V.int 0]) :=
  FunD.kbD X.F_count gRevD (by decide) (fun d r => (vals_rev r).append d) fun T kV doc pm an cdv ct its ws hl hi => by
    unfold gRevD at hi
    rw [List.length_append, List.length_reverse, hl] at hi
    match its, ws, hl, hi with
    | [_], [_, _], _, _ => first | exact ⟨_, rfl, rfl⟩ | exact ⟨_, by with_unfolding_all rfl, rfl⟩
theorem scCheckStart : FnScope ["medium", "length", "state"] ["medium", "length", "state"] (defScope sCheckStart) := ⟨rfl, rfl, rfl, by decide +kernel, rfl, by decide +kernel, by decide +kernel⟩
theorem ok_check_start (X : Tx K mg ad fd) (M : MedC K mg ad fd) : FnOk P w K mg base CX0 4 (ad "check_start") (fd "check_start") ["medium", "length", "state"] (spStart (ad "Medium")) := by
  have G_check_medium := ok_check_medium (P := P) (w := w) (base := base) X M
  have G_check_length := ok_check_length (P := P) (w := w) (base := base) X
  have G_check_state := ok_check_state (P := P) (w := w) (base := base) X
  have G_Medium___len__ := ok_mlen (P := P) (w := w) (base := base) X M
  refine X.F_check_start.ok scCheckStart (fun vs H Q E h => ?_) (fun cdv A outer s H vs Q E hr h => ?_)
  · obtain ⟨a, w, c, L, s, rfl, m, h1, h2, h3, h4, cl, k⟩ := h
    rfl
  · obtain ⟨a, w, c, L, s, rfl, m, h1, h2, h3, h4, cl, k⟩ := h
    have HR_check_medium : Room 1 _ := hr.mono (by decide)
    have HR_check_length : Room 3 _ := hr
    have HR_check_state : Room 3 _ := hr
    have HR_Medium___len__ : Room 1 _ := hr.mono (by decide)
    have HRL : Room 2 _ := hr.mono (by decide)
    obtain ⟨_, gML⟩ := X.g_MOST_LENGTH
    refine ⟨_, (pss_cons (ps_expr (by exact (pe_call G_check_medium HR_check_medium (by rfl) X.g_check_medium X.F_check_medium.kp X.b_check_medium .nil pass0 (pa_cons (pv 0) pa_nil))))
  (pss_cons (ps_expr (by exact (pe_call G_check_length HR_check_length (by rfl) X.g_check_length X.F_check_length.kp X.b_check_length .nil pass0 (pa_cons (pv 1) (pa_cons pe_int (pa_cons (pe_glob (v := .int 400) (by rfl) gML ⟨_, rfl⟩) pa_nil))))))
  (pss_one (ps_expr (by exact (pe_call G_check_state HR_check_state (by rfl) X.g_check_state X.F_check_state.kp X.b_check_state .nil pass0 (pa_cons (pv 2) (pa_cons (pe_callB (call_lenO G_Medium___len__ HRL M.b_len M.ln M.lnf) (by rfl) X.m_len (by decide +kernel) (pa_cons (pv 0) pa_nil)) pa_nil)))))))), ?_⟩
    have m0 := m
    obtain ⟨dx, F, ls, T, ts, e, _⟩ := id m
    refine ⟨.ref a, rfl, a, w, c, rfl, m, ?_⟩
    refine ⟨.int L, rfl, L, 0, 400, rfl, h1, h2, ?_⟩
    refine ⟨.int s, rfl, .ref a, rfl, a, dx, _, rfl, e, a, w, c, rfl, m0, _, rfl, ⟨by omega, by omega⟩, s, _, rfl, h3, h4, k⟩
theorem scOnes : FnScope ["medium", "_"] ["medium"] (defScope sOnes) := ⟨rfl, rfl, rfl, by decide +kernel, rfl, by decide +kernel, by decide +kernel⟩
theorem ok_ones (X : Tx K mg ad fd) (M : MedC K mg ad fd) : FnOk P w K mg base CX0 3 (ad "ones") (fd "ones") ["medium"] (spOnes (ad "Medium")) := by
  have G_Medium___len__ := ok_mlen (P := P) (w := w) (base := base) X M
  refine X.F_ones.ok scOnes (fun vs H Q E h => ?_) (fun cdv A outer s H vs Q E hr h => ?_)
  · obtain ⟨a, w, c, rfl, m, cl, k⟩ := h
    rfl
  · obtain ⟨a, w, c, rfl, m, cl, k⟩ := h
    have HR_Medium___len__ : Room 1 _ := hr.mono (by decide)
    have HRL : Room 2 _ := hr
    refine ⟨_, (pss_one (ps_ret (by exact (pe_lc (own := [("_", 1)]) (g := gName 1) rfl scOnes.nd (pi_range1 (by rfl) X.m_range (pa_cons (pe_callB (call_lenO G_Medium___len__ HRL M.b_len M.ln M.lnf) (by rfl) X.m_len (by decide +kernel) (pa_cons (pv 0) pa_nil)) pa_nil)) (blkOk_by (own := [("_", 1)]) (N := ["medium", "_"]) (sc := defScope sOnes) (by decide +kernel)) (fun _ _ _ _ _ => pg_name (i := 1) scOnes.nd rfl (Or.inl rfl)) (fun _ _ _ _ _ => pts_nil) (fun _ _ _ _ _ => pe_int))))), ?_⟩
    obtain ⟨dx, F, ls, T, ts, e, _⟩ := id m
    refine ⟨.ref a, rfl, a, dx, _, rfl, e, a, w, c, rfl, m, _, rfl, ⟨by omega, by omega⟩, c.length, rfl, by omega, by omega, fun D nD => ?_⟩
    refine lc_map (w := walk_range (lo := 0) (n := ((c.length : Int)).toNat)) (fun _ => V.int 1) nD (by omega) (fun _ _ _ _ => True.intro) (fun _ => rfl) (fun i x Hc Hd hi sc y => ?_) (fun H1 s1 eD => ?_)
    · obtain ⟨rfl, _⟩ := y
      exact ⟨Same.refl, fun Q' hQ => hQ _ Same.refl⟩
    · rw [Int.toNat_natCast] at eD
      exact k D H1 s1 nD eD
theorem scCount : FnScope ["medium", "length", "state"] ["medium", "length", "state"] (defScope sCount) := ⟨rfl, rfl, rfl, by decide +kernel, rfl, by decide +kernel, by decide +kernel⟩
theorem ok_count (X : Tx K mg ad fd) (M : MedC K mg ad fd) : FnOk P w K mg base CX0 5 (ad "count") (fd "count") ["medium", "length", "state"] (spCount (ad "Medium")) := by
  have G_check_start := ok_check_start (P := P) (w := w) (base := base) X M
  have G_ones := ok_ones (P := P) (w := w) (base := base) X M
  have G_ends_sums := ok_ends_sums (P := P) (w := w) (base := base) X
  have G_Medium_leads := ok_mleads (P := P) (w := w) (base := base) X M
  refine FunV.okV X.F_count scCount (fun vs H Q E h => ?_) (fun cdv A outer s H vs Q E hr h => ?_)
  · obtain ⟨a, w, c, L, s, rfl, m, wf, ok, w2, w4, l4, hs, cl, k⟩ := h
    rfl
  · obtain ⟨a, w, c, L, s, rfl, m, wf, ok, w2, w4, l4, hs, cl, k⟩ := h
    have HR_check_start : Room 4 _ := hr
    have HR_ones : Room 3 _ := hr.mono (by decide)
    have HR_ends_sums : Room 2 _ := hr.mono (by decide)
    have HR_Medium_leads : Room 1 _ := hr.mono (by decide)
    refine ⟨_, (pss_cons (ps_expr (by exact (pe_call G_check_start HR_check_start (by rfl) X.g_check_start X.F_check_start.kp X.b_check_start .nil pass0 (pa_cons (pv 0) (pa_cons (pv 1) (pa_cons (pv 2) pa_nil))))))
  (pss_one (ps_ret (by exact (pe_ix (ix_listK (K := K) rfl) (pe_call G_ends_sums HR_ends_sums (by rfl) X.g_ends_sums X.F_ends_sums.kp X.b_ends_sums .nil pass0 (pa_cons (pe_meth0 (pv 0) M.cl M.m_leads G_Medium_leads HR_Medium_leads M.b_leads .nil pass0) (pa_cons (pv 1) (pa_cons (pe_call G_ones HR_ones (by rfl) X.g_ones X.F_ones.kp X.b_ones .nil pass0 (pa_cons (pv 0) pa_nil)) pa_nil)))) (pv 2) (fun _ _ => rfl)))))), ?_⟩
    obtain ⟨dx, F, ls, T, ts, e, _⟩ := id m
    refine ⟨.ref a, rfl, .int (L : Int), rfl, .int (s : Int), rfl, a, w, c, L, s, rfl, m, by omega, by omega, by omega, by omega, cl, ?_⟩
    refine ⟨.ref a, rfl, a, dx, _, rfl, e, rfl, a, w, c, rfl, m, fun T ts ld => ?_⟩
    refine ⟨.int (L : Int), rfl, .ref a, rfl, a, w, c, rfl, m, cl, fun D H1 s1 nD eD => ?_⟩
    refine ⟨T, D, ts, c, w, L, fun _ => 1, rfl, ld.same s1, wf, ok, cl, w2, w4, by omega, eD, fun D2 H2 s2 nD2 eD2 => ?_⟩
    refine ⟨.int (s : Int), rfl, D2, _, (s : Int), .int ((cnt c L s : Nat) : Int), rfl, rfl, SqL.of eD2, atI_nat ?_, k _ (Same.trans s1 s2)⟩
    rw [List.getElem?_map, List.getElem?_range hs]
    show some (V.int _) = _
    rw [cnt_rec]
end
end K20
end

section
set_option maxHeartbeats 4000000
/-! draws -/
namespace K20
open PySem PySem.Spec PyProof.Rows L2
/-! ### promises -/
def spDraw : Sp := fun vs H Q _ => ∃ (p : Addr) (n : Int), vs = [.ref p, .int n] ∧ PotAt H p ∧ 1 ≤ n ∧ n.natAbs.log2 < 9000 ∧
  ∀ (d : Int) (H' : Hp), 0 ≤ d → d < n → PotAt H' p → But p H H' → Q (.int d) H'
def spPot (K : PySem.W.Frag) : Sp := fun vs H Q _ => ∃ (a : Addr) (ns : List Int) (k : Int), vs = [.ref a, .int k] ∧ SqL K H a (ns.map V.int) ∧ 0 ≤ k ∧ k < 1000 ∧
  ∀ (p : Addr) (H' : Hp), H p = none → PotAt H' p → Same H H' → Q (.ref p) H'
/-- an element of a list, or a sign of a text -/
def spPick (K : PySem.W.Frag) : Sp := fun vs H Q _ => ∃ (p : Addr) (v : V), vs = [.ref p, v] ∧ PotAt H p ∧
  ((∃ z : Str, v = .str z ∧ 0 < z.length ∧ z.length ≤ 1000 ∧ ∀ (c : Nat) (H' : Hp), c ∈ z.cps.toList → PotAt H' p → But p H H' → Q (.str ⟨#[c]⟩) H') ∨
   (∃ (a : Addr) (xs : List V), v = .ref a ∧ a ≠ p ∧ H a = some (.lst xs) ∧ 0 < xs.length ∧ xs.length ≤ 1000 ∧ ∀ (x : V) (H' : Hp), x ∈ xs → PotAt H' p → But p H H' → Q x H'))
section
variable {P : Program} {w : World} {K : PySem.W.Frag} {mg : Str → Option Value} {base : Heap} {ad : Str → Addr} {fd : Str → FuncData}
theorem call_divmodP {X : Cx} : CallR X (.builtin "divmod") (fun xs H Q => ∃ i j, xs = [.int i, .int j] ∧ (0 < j ∧ j.natAbs.log2 < 9000) ∧ ∀ p, H p = none → Q (.ref p) (upd H p (.tup [.int (i / j), .int (i % j)]))) := by
  intro pins s σ H xs us Q I r h
  obtain ⟨i, j, e, c, q⟩ := h
  exact call_divmodW pins s σ H xs us Q I r ⟨i, j, e, ⟨c.1, PyProof.noPylong_of_log2 c.2⟩, q⟩
theorem scDraw : FnScope ["_law_pot_here", "_law_width_now", "_law_digit"] ["_law_pot_here", "_law_width_now"] (defScope sDraw) := ⟨rfl, rfl, rfl, by decide +kernel, rfl, by decide +kernel, by decide +kernel⟩
theorem ok_draw (X : Tx K mg ad fd) : FnOk P w K mg base CX0 1 (ad "_law_draw") (fd "_law_draw") ["_law_pot_here", "_law_width_now"] spDraw := by
  refine X.F__law_draw.ok scDraw (fun vs H Q E h => ?_) (fun cdv A outer s H vs Q E hr h => ?_)
  · obtain ⟨p, n, rfl, _⟩ := h
    rfl
  · obtain ⟨p, n, rfl, ⟨x, y, hp, hx, hy, hy2⟩, hn, hlog, q⟩ := h
    refine ⟨_, (pss_cons (ps_if (pt_cmpR op_gt (pe_ix ix_list (pv 0) pe_int (fun _ _ => rfl)) pe_int (nomark _))
  (pss_cons (ps_asg (by exact (pe_callB call_divmodP (by rfl) X.m_divmod (by decide +kernel) (pa_cons (pe_ix ix_list (pv 0) pe_int (fun _ _ => rfl)) (pa_cons (pv 1) pa_nil)))) (pg_tup rfl (pgs_cons (pg_sub (pv 0) pe_int set_list) (pgs_cons (pg_name (i := 2) scDraw.nd rfl (.inl rfl)) pgs_nil))))
  (pss_one (ps_ret (by exact (pv 2)))))
  pss_nil)
  (pss_cons (ps_asg (by exact (pe_op op_mod (pe_callTy call_int1 (by rfl) X.m_int (by decide +kernel) (pa_cons (pe_op op_add (pe_op op_mul (pe_ix ix_list (pv 0) pe_int (fun _ _ => rfl)) pe_int) pe_int) pa_nil)) pe_int)) (pg_sub (pv 0) pe_int set_list))
  (pss_one (ps_ret (by exact (pe_op op_mod (pe_callTy call_int1 (by rfl) X.m_int (by decide +kernel) (pa_cons (pe_op op_fdiv (pe_op op_mod (pe_callTy call_int1 (by rfl) X.m_int (by decide +kernel) (pa_cons (pe_op op_mul (pe_ix ix_list (pv 0) pe_int (fun _ _ => rfl)) (pe_ix ix_list (pv 0) pe_int (fun _ _ => rfl))) pa_nil)) pe_int) pe_int) pa_nil)) (pv 1))))))), ?_⟩
    refine ⟨.ref p, rfl, p, _, 0, .int x, rfl, rfl, SqL.of hp, atI_nat (j := 0) rfl, _, _, rfl, rfl, _, rfl, ite2 (fun e => ?_) (fun e => ?_)⟩
    · have h0 : 0 < x := of_decide_eq_true e
      refine ⟨.ref p, rfl, p, _, 0, .int x, rfl, rfl, SqL.of hp, atI_nat (j := 0) rfl, .int n, rfl, x, n, rfl, ⟨by omega, hlog⟩, fun t ht => ?_⟩
      have npt : p ≠ t := ne_of_none hp ht
      have hp' : (upd H t (.tup [.int (x / n), .int (x % n)])) p = some (.lst [.int x, .int y]) := by rw [upd_ne npt]; exact hp
      refine ⟨t, [.int (x / n), .int (x % n)], rfl, SqT.of upd_same, rfl, .int (x / n), _, rfl, .ref p, rfl, p, [.int x, .int y], 0, 0, rfl, rfl, hp', rfl, .int (x % n), [], rfl, rfl, .int (x % n), rfl, ?_⟩
      refine q _ _ (Int.emod_nonneg _ (by omega)) (Int.emod_lt_of_pos _ (by omega)) ⟨x / n, y, upd_same, Int.ediv_nonneg hx (by omega), hy, hy2⟩ ?_
      exact (But.new ht).trans But.upd
    · refine ⟨.ref p, rfl, p, _, 1, .int y, rfl, rfl, SqL.of hp, atI_nat (j := 1) rfl, y, 48271, rfl, rfl, .inr ⟨by decide, by decide⟩, _, _, rfl, rfl, .inl ⟨_, rfl, _, _, rfl, rfl, (by show (0 : Int) < 2147483587; decide), .ref p, rfl, p, [.int x, .int y], 1, 1, rfl, rfl, hp, rfl, ?_⟩⟩
      have y1 : 0 ≤ (y * 48271 + 17077) % 2147483587 := Int.emod_nonneg _ (by decide)
      have y2 : (y * 48271 + 17077) % 2147483587 < 2147483587 := Int.emod_lt_of_pos _ (by decide)
      refine ⟨.ref p, rfl, p, _, 1, (.int ((y * 48271 + 17077) % 2147483587)), rfl, rfl, SqL.of upd_same, atI_nat (j := 1) rfl, .ref p, rfl, p, _, 1, (.int ((y * 48271 + 17077) % 2147483587)), rfl, rfl, SqL.of upd_same, atI_nat (j := 1) rfl, ((y * 48271 + 17077) % 2147483587), ((y * 48271 + 17077) % 2147483587), rfl, rfl, .inl ⟨by omega, by omega⟩, .inl ⟨_, rfl, _, _, rfl, rfl, (by show (0 : Int) < 2147483549; decide), _, _, rfl, rfl, ⟨by decide, by decide⟩, .inl ⟨_, rfl, .int n, rfl, _, n, rfl, rfl, (by show 0 < n; omega), ?_⟩⟩⟩
      exact q _ _ (Int.emod_nonneg _ (by omega)) (Int.emod_lt_of_pos _ (by omega)) ⟨x, ((y * 48271 + 17077) % 2147483587), upd_same, hx, y1, by omega⟩ But.upd
theorem scPick : FnScope ["_law_pot_here", "_law_some"] ["_law_pot_here", "_law_some"] (defScope sPick) := ⟨rfl, rfl, rfl, by decide +kernel, rfl, by decide +kernel, by decide +kernel⟩
theorem log_small {n : Int} (h0 : 0 ≤ n) (h : n < 2 ^ 64) : n.natAbs.log2 < 9000 := by
  by_cases hn : n = 0
  · subst hn; decide
  · have h2 : n.natAbs < 2 ^ 64 := by omega
    have := (Nat.log2_lt (n := n.natAbs) (k := 64) (by omega)).mpr h2
    omega
theorem ok_pick (X : Tx K mg ad fd) : FnOk P w K mg base CX0 2 (ad "_law_pick") (fd "_law_pick") ["_law_pot_here", "_law_some"] (spPick K) := by
  have G__law_draw : FnOk P w K mg base CX0 1 (ad "_law_draw") (fd "_law_draw") ["_law_pot_here", "_law_width_now"] spDraw := ok_draw X
  refine X.F__law_pick.ok scPick (fun vs H Q E h => ?_) (fun cdv A outer s H vs Q E hr h => ?_)
  · obtain ⟨p, v, rfl, _⟩ := h
    rfl
  · obtain ⟨p, v, rfl, hp, h⟩ := h
    have HR__law_draw := hr
    refine ⟨_, (pss_one (ps_ret (by exact (pe_ix ix_seq (pv 1) (pe_call G__law_draw HR__law_draw (by rfl) X.g__law_draw X.F__law_draw.kp X.b__law_draw .nil pass0 (pa_cons (pv 0) (pa_cons (pe_callB call_len (by rfl) X.m_len (by decide +kernel) (pa_cons (pv 1) pa_nil)) pa_nil))) (fun _ _ => rfl))))), ?_⟩
    rcases h with ⟨z, rfl, z0, z1, q⟩ | ⟨a, xs, rfl, hap, ha, x0, x1, q⟩
    · refine ⟨.str z, rfl, .ref p, rfl, .str z, rfl, .str z, z.length, rfl, ⟨by rw [sizeLine_eq]; omega, rfl⟩, p, (z.length : Int), rfl, hp, by omega, log_small (by omega) (by omega), fun d H' d0 d1 hp' hb => ?_⟩
      obtain ⟨j, rfl⟩ := Int.eq_ofNat_of_zero_le d0
      have hj : j < z.cps.toList.length := by
        have e : z.cps.toList.length = z.length := by simp [Str.length]
        omega
      have hg : z.cps.toList[j]? = some z.cps.toList[j] := List.getElem?_eq_getElem hj
      refine .inr (.inr ⟨z, (j : Int), z.cps.toList[j], rfl, rfl, by rw [sizeLine_eq]; omega, atI_nat hg, ?_⟩)
      exact q _ _ (List.getElem_mem hj) hp' hb
    · refine ⟨.ref a, rfl, .ref p, rfl, .ref a, rfl, .ref a, xs.length, rfl, .inl ⟨_, SqL.of ha, rfl⟩, p, (xs.length : Int), rfl, hp, by omega, log_small (by omega) (by omega), fun d H' d0 d1 hp' hb => ?_⟩
      obtain ⟨j, rfl⟩ := Int.eq_ofNat_of_zero_le d0
      have hj : j < xs.length := by omega
      refine .inl ⟨a, xs, (j : Int), xs[j], rfl, rfl, SqL.of (hb _ _ hap ha), atI_nat (List.getElem?_eq_getElem hj), ?_⟩
      exact q _ _ (List.getElem_mem hj) hp' hb
end
end K20
end

section
set_option maxHeartbeats 4000000
/-! the pot -/
namespace K20
open PySem PySem.Spec PyProof.Rows L2
section
variable {P : Program} {w : World} {K : PySem.W.Frag} {mg : Str → Option Value} {base : Heap} {ad : Str → Addr} {fd : Str → FuncData}
theorem scPot : FnScope ["_law_script", "_law_k", "_law_cell"] ["_law_script", "_law_k"] (defScope sPot) := ⟨rfl, rfl, rfl, by decide +kernel, rfl, by decide +kernel, by decide +kernel⟩
theorem ok_pot (X : Tx K mg ad fd) : FnOk P w K mg base CX0 1 (ad "_law_pot") (fd "_law_pot") ["_law_script", "_law_k"] (spPot K) := by
  refine X.F__law_pot.ok scPot (fun vs H Q E h => ?_) (fun cdv A outer s H vs Q E hr h => ?_)
  · obtain ⟨a, ns, k, rfl, _⟩ := h
    rfl
  · obtain ⟨a, ns, k, rfl, hS, hk0, hk1, q⟩ := h
    refine ⟨_, (pss_cons (ps_set (i := 2) scPot.nd rfl (.inl rfl) (by exact (pe_op op_add (pe_op op_mul pe_int (pv 1)) pe_int)))
  (pss_cons (ps_if (pt_cmpR op_lt (pv 1) (pe_callB call_len (by rfl) X.m_len (by decide +kernel) (pa_cons (pv 0) pa_nil)) (nomark _))
  (pss_one (ps_set (i := 2) scPot.nd rfl (.inl rfl) (by exact (pe_callB call_abs (by rfl) X.m_abs (by decide +kernel) (pa_cons (pe_ix ix_list (pv 0) (pv 1) (fun _ _ => rfl)) pa_nil)))))
  pss_nil)
  (pss_one (ps_ret (by exact (pe_lst (pa_cons (pe_callB (call_max2 rfl) (by rfl) X.m_max (by decide +kernel) (pa_cons pe_int (pa_cons (pe_op op_sub (pv 2) (pe_op op_pow pe_int pe_int)) pa_nil))) (pa_cons (pe_op op_add (pe_op op_mod (pe_op op_mul (pe_callTy call_int1 (by rfl) X.m_int (by decide +kernel) (pa_cons (pe_op op_add (pe_op op_mod (pe_callTy call_int1 (by rfl) X.m_int (by decide +kernel) (pa_cons (pv 2) pa_nil)) pe_int) pe_int) pa_nil)) (pe_op op_pow (pe_op op_add (pe_op op_mul pe_int (pv 1)) pe_int) pe_int)) pe_int) pe_int) pa_nil)))))))), ?_⟩
    refine ⟨_, rfl, 37, k, rfl, rfl, .inl ⟨by decide, by decide⟩, _, _, rfl, rfl, .int k, rfl, .ref a, rfl, _, _, rfl, .inl ⟨_, hS, rfl⟩, _, _, rfl, rfl, _, rfl, ite2 (fun e => ?_) (fun e => ?_)⟩
    · have hlt : k < ((ns.map V.int).length : Int) := of_decide_eq_true e
      obtain ⟨j, rfl⟩ := Int.eq_ofNat_of_zero_le hk0
      have hj : j < ns.length := by rw [List.length_map] at hlt; omega
      have hg : (ns.map V.int)[j]? = some (.int ns[j]) := by rw [List.getElem?_map, List.getElem?_eq_getElem hj]; rfl
      refine ⟨.ref a, rfl, .int j, rfl, a, _, _, _, rfl, rfl, hS, atI_nat hg, _, rfl, ?_⟩
      have c0 : 0 ≤ (if ns[j] < 0 then -ns[j] else ns[j]) := by split <;> omega
      generalize (if ns[j] < 0 then -ns[j] else ns[j]) = c at c0
      refine ⟨.int c, rfl, 10, 18, rfl, rfl, ⟨by decide, by decide, by decide⟩, c, 10 ^ 18, rfl, rfl, 0, c - 10 ^ 18, rfl, ?_⟩
      refine ⟨.int c, rfl, .inl ⟨c, rfl, c, 2147483549, rfl, rfl, (by show (0 : Int) < 2147483549; decide), c % 2147483549, 11, rfl, rfl, .inl ⟨_, rfl, ?_⟩⟩⟩
      have y0 : 0 ≤ c % 2147483549 := Int.emod_nonneg _ (by decide)
      have y1 : c % 2147483549 < 2147483549 := Int.emod_lt_of_pos _ (by decide)
      refine ⟨.int (j : Int), rfl, 2, (j : Int), rfl, rfl, .inl ⟨by decide, by decide⟩, _, 5, rfl, rfl, _, 3, rfl, rfl, ⟨by decide, by decide, by omega⟩, _, _, rfl, rfl, .inl ⟨by omega, by omega⟩, _, 2147483477, rfl, rfl, (by show (0 : Int) < 2147483477; decide), _, 1, rfl, rfl, (by show 2 ≤ sizeLine; decide), fun p hp => ?_⟩
      have z0 : 0 ≤ ((c % 2147483549 + 11) * (2 * (j : Int) + 5) ^ 3) % 2147483477 := Int.emod_nonneg _ (by decide)
      have z1 : ((c % 2147483549 + 11) * (2 * (j : Int) + 5) ^ 3) % 2147483477 < 2147483477 := Int.emod_lt_of_pos _ (by decide)
      exact q p _ hp ⟨if c - 10 ^ 18 > 0 then c - 10 ^ 18 else 0, ((c % 2147483549 + 11) * (2 * (j : Int) + 5) ^ 3) % 2147483477 + 1, upd_same, by split <;> omega, by omega, by omega⟩ (Same.new hp)
    · have c0 : 0 ≤ 37 * k + 13 := by omega
      refine ⟨.int (37 * k + 13), rfl, 10, 18, rfl, rfl, ⟨by decide, by decide, by decide⟩, (37 * k + 13), 10 ^ 18, rfl, rfl, 0, (37 * k + 13) - 10 ^ 18, rfl, ?_⟩
      refine ⟨.int (37 * k + 13), rfl, .inl ⟨37 * k + 13, rfl, (37 * k + 13), 2147483549, rfl, rfl, (by show (0 : Int) < 2147483549; decide), (37 * k + 13) % 2147483549, 11, rfl, rfl, .inl ⟨_, rfl, ?_⟩⟩⟩
      have y0 : 0 ≤ (37 * k + 13) % 2147483549 := Int.emod_nonneg _ (by decide)
      have y1 : (37 * k + 13) % 2147483549 < 2147483549 := Int.emod_lt_of_pos _ (by decide)
      refine ⟨.int k, rfl, 2, k, rfl, rfl, .inl ⟨by decide, by decide⟩, _, 5, rfl, rfl, _, 3, rfl, rfl, ⟨by decide, by decide, by omega⟩, _, _, rfl, rfl, .inl ⟨by omega, by omega⟩, _, 2147483477, rfl, rfl, (by show (0 : Int) < 2147483477; decide), _, 1, rfl, rfl, (by show 2 ≤ sizeLine; decide), fun p hp => ?_⟩
      have z0 : 0 ≤ (((37 * k + 13) % 2147483549 + 11) * (2 * k + 5) ^ 3) % 2147483477 := Int.emod_nonneg _ (by decide)
      have z1 : (((37 * k + 13) % 2147483549 + 11) * (2 * k + 5) ^ 3) % 2147483477 < 2147483477 := Int.emod_lt_of_pos _ (by decide)
      exact q p _ hp ⟨if (37 * k + 13) - 10 ^ 18 > 0 then (37 * k + 13) - 10 ^ 18 else 0, (((37 * k + 13) % 2147483549 + 11) * (2 * k + 5) ^ 3) % 2147483477 + 1, upd_same, by split <;> omega, by omega, by omega⟩ (Same.new hp)
end
end K20
end

section
set_option maxHeartbeats 4000000
/-! raw tables -/
namespace K20
open PySem PySem.Spec PyProof.Rows L2
theorem okR_zero : okR 0 [] := okR_nil 0
theorem sgs_take_succ {j : Nat} {z : Str} (h : sgs[j]? = some z) : sgs.take (j + 1) = sgs.take j ++ [z] := by
  rw [List.take_add_one, h]; rfl
theorem sgs_not {j : Nat} {z : Str} (h : sgs[j]? = some z) : z ∉ sgs.take j := fun m => by
  obtain ⟨i, hi, e⟩ := List.mem_iff_getElem.mp m
  rw [List.getElem_take] at e
  obtain ⟨hj, e2⟩ := List.getElem?_eq_some_iff.mp h
  have := (List.getElem_inj (h₀ := by rw [List.length_take] at hi; omega) (h₁ := hj) sgs_nd).mp (e.trans e2.symm)
  rw [List.length_take] at hi
  omega
theorem okR_skip {j : Nat} {z : Str} {r : List (Str × Nat)} (h : sgs[j]? = some z) (ok : okR j r) : okR (j + 1) r := by
  have nz : z ∉ keysR r := fun m => sgs_not h (okR_in ok m)
  unfold okR at ok ⊢
  rw [sgs_take_succ h, List.filter_append, ← ok]
  have : ([z].filter fun y => decide (y ∈ keysR r)) = [] := by
    rw [List.filter_cons, decide_eq_false nz]; rfl
  rw [this, List.append_nil]
theorem okR_add {j : Nat} {z : Str} {r : List (Str × Nat)} (h : sgs[j]? = some z) (ok : okR j r) (g : Nat) : okR (j + 1) (r ++ [(z, g)]) := by
  have nz := sgs_not h
  have ek : keysR (r ++ [(z, g)]) = keysR r ++ [z] := by unfold keysR; rw [List.map_append]; rfl
  unfold okR at ok ⊢
  rw [ek, sgs_take_succ h, List.filter_append]
  have e1 : ((sgs.take j).filter fun y => decide (y ∈ keysR r ++ [z])) = (sgs.take j).filter fun y => decide (y ∈ keysR r) := by
    refine List.filter_congr fun y hy => decide_eq_decide.mpr ?_
    rw [List.mem_append, List.mem_singleton]
    exact ⟨fun q => q.elim id fun e => absurd (e ▸ hy) nz, .inl⟩
  have e2 : ([z].filter fun y => decide (y ∈ keysR r ++ [z])) = [z] := by
    rw [List.filter_cons, decide_eq_true (List.mem_append_right _ (List.mem_singleton.mpr rfl))]; rfl
  rw [e1, e2, ← ok]
theorem okR_one {w : Nat} {z : Str} (h : z ∈ sgs.take w) (g : Nat) : okR w [(z, g)] := by
  unfold okR
  show [z] = (sgs.take w).filter fun y => decide (y ∈ [z])
  have nd : (sgs.take w).Nodup := sgs_nd.sublist (List.take_sublist w sgs)
  have key : ∀ l : List Str, l.Nodup → z ∈ l → (l.filter fun y => decide (y ∈ [z])) = [z] := by
    intro l
    induction l with
    | nil => exact fun _ h => by cases h
    | cons x l ih =>
      intro nd hz
      obtain ⟨n1, n2⟩ := List.nodup_cons.mp nd
      rw [List.filter_cons]
      by_cases e : x = z
      · subst e
        rw [if_pos (by simp)]
        have : (l.filter fun y => decide (y ∈ [x])) = [] := List.filter_eq_nil_iff.mpr fun y hy q => n1 (by simp at q; exact q ▸ hy)
        rw [this]
      · rw [if_neg (by simpa using e)]
        exact ih n2 ((List.mem_cons.mp hz).resolve_left fun q => e q.symm)
  exact (key _ nd h).symm
theorem okSg_at {w : Nat} {g : Str} (sg : okSg w g) {j c : Nat} (h : g.cps[j]? = some c) : (sgs.take w)[j]? = some (⟨#[c]⟩ : Str) := by
  rw [← show _ = sgs.take w from sg, List.getElem?_map, Array.getElem?_toList, h]; rfl
theorem okSg_size {w : Nat} {g : Str} (sg : okSg w g) (w4 : w ≤ 4) : g.cps.size = w := by
  have := okSg_len sg
  rw [List.length_take, Array.length_toList] at this
  rw [this]
  exact Nat.min_eq_left w4
def rEqE : R2 := fun x y H Q => ∃ a b kvs, x = .ref a ∧ y = .ref b ∧ H a = some (.dK kvs) ∧ H b = some (.dK []) ∧ Q (.bl kvs.isEmpty) H
theorem op_eqE {X : Cx} (hu : X.A.units + 1 < cLine) : OpR X (compareOp .Eq) rEqE := by
  intro pins s σ H x y v u Q I rx ry h
  obtain ⟨a, b, ks, rfl, rfl, ea, eb, q⟩ := h
  obtain rfl : v = Value.ref a := rx
  obtain rfl : u = Value.ref b := ry
  obtain ⟨_, ya, va, ra, da⟩ := (show ObjOk X.prog X.w H s.heap a (.dK ks) from I.hok a _ ea)
  obtain ⟨_, yb, vb, rb, db⟩ := (show ObjOk X.prog X.w H s.heap b (.dK []) from I.hok b _ eb)
  have lb : vb.length = 0 := by rw [← rb.length]; rfl
  have la : va.length = ks.length := ra.length.symm
  refine PySem.W.keq_eq (knd := mixKind X.prog X.w) (r := true) ya yb da db (by omega) (fun e => ?_) (fin_bl I q ?_)
  · have : va = [] := List.length_eq_zero_iff.mp (by omega)
    rw [this]
    exact .nil
  · rw [la, lb]
    cases ks <;> rfl
/-- rows that stand at ds, all new since H -/
structure NewR (H H' : Hp) (D : Addr) (ds : List Addr) (c : Ch) : Prop where
  l : ds.length = c.length
  k : ∀ (i : Nat) (d : Addr), ds[i]? = some d → H d = none ∧ d ≠ D ∧ H' d = some (.dK (rowK (rowC c i)))
theorem NewR.keep {H H1 H2 : Hp} {D : Addr} {ds : List Addr} {c : Ch} (h : NewR H H1 D ds c) (s : ∀ b kvs, H b = none → b ≠ D → H1 b = some (.dK kvs) → H2 b = some (.dK kvs)) : NewR H H2 D ds c := ⟨h.l, fun i d q => let ⟨a, b, e⟩ := h.k i d q; ⟨a, b, s _ _ a b e⟩⟩
theorem rowC_app {c : Ch} {r : List (Str × Nat)} {i : Nat} (h : i < c.length) : rowC (c ++ [r]) i = rowC c i := by
  unfold rowC
  rw [List.getD_eq_getElem?_getD, List.getElem?_append_left h, ← List.getD_eq_getElem?_getD]
theorem rowC_lst {c : Ch} {r : List (Str × Nat)} : rowC (c ++ [r]) c.length = r := by
  unfold rowC
  rw [List.getD_eq_getElem?_getD, List.getElem?_append_right (Nat.le_refl _), Nat.sub_self]; rfl
theorem NewR.add {H H' : Hp} {D d : Addr} {ds : List Addr} {c : Ch} {r : List (Str × Nat)} (h : NewR H H' D ds c) (h1 : H d = none) (h2 : d ≠ D) (h3 : H' d = some (.dK (rowK r))) : NewR H H' D (ds ++ [d]) (c ++ [r]) := by
  refine ⟨by rw [List.length_append, List.length_append, h.l]; rfl, fun i x hx => ?_⟩
  by_cases q : i < c.length
  · rw [List.getElem?_append_left (by rw [h.l]; exact q)] at hx
    rw [rowC_app q]
    exact h.k i x hx
  · rw [List.getElem?_append_right (by rw [h.l]; omega)] at hx
    have e : i - ds.length = 0 := by
      by_cases z : i - ds.length = 0
      · exact z
      · rw [List.getElem?_eq_none (by simp; omega)] at hx; cases hx
    rw [e] at hx
    cases hx
    have : i = c.length := by have hl := h.l; omega
    subst this
    rw [rowC_lst]
    exact ⟨h1, h2, h3⟩
theorem NewR.newT {H H' : Hp} {D : Addr} {ds : List Addr} {c : Ch} (h : NewR H H' D ds c) (e : H' D = some (.lst (ds.map V.ref))) : NewT H H' D c := ⟨ds, e, h.l, fun i d q => let ⟨a, _, b⟩ := h.k i d q; ⟨a, b⟩⟩
def spRaw : Sp := fun vs H Q _ => ∃ (pt : Addr) (w : Nat), vs = [.ref pt, .int (w : Int)] ∧ PotAt H pt ∧ 2 ≤ w ∧ w ≤ 4 ∧
  ∀ (D : Addr) (ls : List Addr) (c : Ch) (H' : Hp), H D = none → TbF H' D ls c → WfC c → okT w c → c.length ≤ 5 → PotAt H' pt → But pt H H' → Q (.ref D) H'
section
variable {P : Program} {w : World} {K : PySem.W.Frag} {mg : Str → Option Value} {base : Heap} {ad : Str → Addr} {fd : Str → FuncData}
theorem scRaw : FnScope ["_law_pot_here", "_law_width_now", "_law_size_now", "_law_found", "_law_spot", "_law_row", "_law_sign", "_law_goal"] ["_law_pot_here", "_law_width_now"] (defScope sRaw) := ⟨rfl, rfl, rfl, by decide +kernel, rfl, by decide +kernel, by decide +kernel⟩
theorem ok_raw (X : Tx K mg ad fd) : FnOk P w K mg base CX0 3 (ad "_law_raw") (fd "_law_raw") ["_law_pot_here", "_law_width_now"] spRaw := by
  have G__law_draw := ok_draw (P := P) (w := w) (base := base) X
  have G__law_pick := ok_pick (P := P) (w := w) (base := base) X
  refine X.F__law_raw.ok scRaw (fun vs H Q E h => ?_) (fun cdv A outer s H vs Q E hr h => ?_)
  · obtain ⟨pt, w, rfl, hp, w2, w4, k⟩ := h
    rfl
  · obtain ⟨pt, w, rfl, hp, w2, w4, k⟩ := h
    have HR__law_draw : Room 1 _ := hr.mono (by decide)
    have HR__law_pick : Room 2 _ := hr
    have HU : (A.deeper (envOfC "_law_raw" (defScope sRaw) s.heap.objs.size (ad "_law_raw") cdv)).units + 1 < cLine := by have := hr.un; omega
    refine ⟨_, (pss_cons (ps_par (i := 2) (j := 3) rfl scRaw.nd rfl rfl (by decide) rfl rfl (by exact (pa_cons (pe_op op_add pe_int (pe_call G__law_draw HR__law_draw (by rfl) X.g__law_draw X.F__law_draw.kp X.b__law_draw .nil pass0 (pa_cons (pv 0) (pa_cons pe_int pa_nil)))) (pa_cons (pe_lst pa_nil) pa_nil))) (by rfl))
  (pss_cons (ps_for PassesOwn.never rfl (pi_range1 (by rfl) X.m_range (pa_cons (pv 2) pa_nil)) (pg_name (i := 4) scRaw.nd rfl (.inl rfl))
  (pss_cons (ps_set (i := 5) scRaw.nd rfl (.inl rfl) (by exact pe_dnewK))
  (pss_cons (ps_for PassesOwn.never rfl (pi_str (pe_slice sl_str pe_str po_none (po_some (pv 1)))) (pg_name (i := 6) scRaw.nd rfl (.inl rfl))
  (pss_cons (ps_set (i := 7) scRaw.nd rfl (.inl rfl) (by exact (pe_call G__law_draw HR__law_draw (by rfl) X.g__law_draw X.F__law_draw.kp X.b__law_draw .nil pass0 (pa_cons (pv 0) (pa_cons (pe_op op_add (pv 2) pe_int) pa_nil)))))
  (pss_one (ps_if (pt_cmpR op_lt (pv 7) (pv 2) (nomark _))
  (pss_one (ps_asg (by exact (pv 7)) (pg_sub (pv 5) (pv 6) (set_dict HU))))
  pss_nil))))
  (pss_cons (ps_if (pt_cmpR (op_eqE HU) (pv 5) pe_dnewK (nomark _))
  (pss_one (ps_asg (by exact (pe_call G__law_draw HR__law_draw (by rfl) X.g__law_draw X.F__law_draw.kp X.b__law_draw .nil pass0 (pa_cons (pv 0) (pa_cons (pv 2) pa_nil)))) (pg_sub (pv 5) (pe_call G__law_pick HR__law_pick (by rfl) X.g__law_pick X.F__law_pick.kp X.b__law_pick .nil pass0 (pa_cons (pv 0) (pa_cons (pe_slice sl_str pe_str po_none (po_some (pv 1))) pa_nil))) (set_dict HU))))
  pss_nil)
  (pss_one (ps_expr (by exact (pe_bm PySem.F.plainAttrs_list PySem.F.slot_list_append PySem.F.type_list_append mt_append (pv 3) (pa_cons (pv 5) pa_nil)))))))))
  (pss_one (ps_ret (by exact (pe_lock (pv 3))))))), ?_⟩
    have sg := cut_let w2 w4
    have gs := okSg_size sg w4
    refine ⟨.ref pt, rfl, pt, 5, rfl, hp, by decide, by decide, fun d0 H1 d00 d01 hp1 b1 => ?_⟩
    obtain ⟨m, rfl⟩ := Int.eq_ofNat_of_zero_le d00
    refine ⟨1, (m : Int), rfl, rfl, (by show 0 ≤ sizeLine; omega), fun D nD => ⟨_, _, rfl, ?_⟩⟩
    have nDH : H D = none := by
      cases e : H D with
      | none => rfl
      | some u =>
        by_cases z : D = pt
        · rw [z] at nD
          obtain ⟨_, _, q, _⟩ := hp1
          rw [nD] at q; cases q
        · rw [b1 _ _ z e] at nD; cases nD
    have nDp : D ≠ pt := hp1.ne nD
    have b2 : But pt H (upd H1 D (.lst [])) := b1.trans (But.new nD)
    have hp2 : PotAt (upd H1 D (.lst [])) pt := hp1.same (Same.new nD)
    have eD : (upd H1 D (.lst [])) D = some (.lst (([] : List Addr).map V.ref)) := upd_same
    generalize (upd H1 D (.lst [])) = H2 at b2 hp2 eD ⊢
    refine ⟨.int ((1 + m : Nat) : Int), rfl, ((1 + m : Nat) : Int), rfl, by omega, by omega, ?_⟩
    refine for_range (lo := 0) (n := (((1 + m : Nat) : Int)).toNat) (fun i σ H' => ∃ (ds : List Addr) (c : Ch) (r4 r5 r6 r7 : Option V), σ = [some (.ref pt), some (.int (w : Int)), some (.int ((1 + m : Nat) : Int)), some (.ref D), r4, r5, r6, r7] ∧ PotAt H' pt ∧ But pt H H' ∧ H' D = some (.lst (ds.map V.ref)) ∧ NewR H H' D ds c ∧ c.length = i ∧ ∀ r ∈ c, okR w r ∧ r ≠ [] ∧ ∀ e ∈ r, e.2 < 1 + m) ⟨[], [], _, _, _, _, rfl, hp2, b2, eD, ⟨rfl, fun i d q => by cases q⟩, rfl, fun r h => by cases h⟩ ?_ ?_
    · rintro i σ H3 hi ⟨ds, c, r4, r5, r6, r7, rfl, hp3, b3, eD3, nr, lc, okc⟩
      refine gN ?_
      refine fun R nR => ?_
      refine gN ?_
      have nRp : R ≠ pt := hp3.ne nR
      have nRD : R ≠ D := fun z => by rw [z, eD3] at nR; cases nR
      have nRH : H R = none := by
        cases e : H R with
        | none => rfl
        | some u => rw [b3 _ _ nRp e] at nR; cases nR
      have b4 : But pt H (upd H3 R (.dK [])) := b3.trans (But.new nR)
      have hp4 : PotAt (upd H3 R (.dK [])) pt := hp3.same (Same.new nR)
      have eD4 := Same.new nR (o := .dK []) _ _ eD3
      have nr4 : NewR H (upd H3 R (.dK [])) D ds c := nr.keep fun b kvs _ _ e => Same.new nR _ _ e
      have eR4 : (upd H3 R (.dK [])) R = some (.dK (rowK [])) := upd_same
      have nin : R ∉ ds := fun q => by
        obtain ⟨j, hj, e⟩ := List.mem_iff_getElem.mp q
        have := (nr.k j R (by rw [List.getElem?_eq_getElem hj, e])).2.2
        rw [nR] at this; cases this
      generalize (upd H3 R (.dK [])) = H4 at b4 hp4 eD4 nr4 eR4 ⊢
      refine ⟨.int (w : Int), rfl, (w : Int), rfl, "abcd", rfl, abcd_len, _, rfl, ?_⟩
      have keep : ∀ {Ha Hb : Hp}, NewR H Ha D ds c → (∀ b o, b ≠ pt → b ≠ R → Ha b = some o → Hb b = some o) → NewR H Hb D ds c := fun {Ha Hb} n s => ⟨n.l, fun i d q => by
        obtain ⟨x, y, z⟩ := n.k i d q
        refine ⟨x, y, s _ _ (fun e => ?_) (fun e => nin (e ▸ List.mem_of_getElem? q)) z⟩
        obtain ⟨_, _, u, _⟩ := hp
        rw [e, u] at x; cases x⟩
      have keepD : ∀ {Ha Hb : Hp}, Ha D = some (.lst (ds.map V.ref)) → (∀ b o, b ≠ pt → b ≠ R → Ha b = some o → Hb b = some o) → Hb D = some (.lst (ds.map V.ref)) := fun e s => s _ _ nDp nRD.symm e
      have keepB : ∀ {Ha Hb : Hp}, But pt H Ha → (∀ b o, b ≠ pt → b ≠ R → Ha b = some o → Hb b = some o) → But pt H Hb := fun e s b o n q => s _ _ n (fun z => by rw [z, nRH] at q; cases q) (e _ _ n q)
      refine for_it (w := walk_str (z := cutS "abcd" none (some (w : Int)))) (fun j σ H' => ∃ (r : List (Str × Nat)) (r6 r7 : Option V), σ = [some (.ref pt), some (.int (w : Int)), some (.int ((1 + m : Nat) : Int)), some (.ref D), some (.int (0 + (i : Int))), some (.ref R), r6, r7] ∧ PotAt H' pt ∧ But pt H H' ∧ H' D = some (.lst (ds.map V.ref)) ∧ NewR H H' D ds c ∧ H' R = some (.dK (rowK r)) ∧ okR j r ∧ ∀ e ∈ r, e.2 < 1 + m) ⟨[], _, _, rfl, hp4, b4, eD4, nr4, eR4, okR_zero, fun e h => by cases h⟩ (fun _ _ _ _ _ => True.intro) ?_ ?_
      · rintro j x σ H5 H6 hj ⟨r, r6, r7, rfl, hp5, b5, eD5, nr5, eR5, okr, ltr⟩ ⟨rfl, cc, hcc, rfl⟩
        have hz : sgs[j]? = some (⟨#[cc]⟩ : Str) := by
          have := okSg_at sg hcc
          rw [List.getElem?_take] at this
          split at this
          · exact this
          · cases this
        refine gN ?_
        refine ⟨.ref pt, rfl, .int ((1 + m : Nat) : Int), rfl, _, 1, rfl, rfl, pt, _, rfl, hp5, by omega, log_small (by omega) (by omega), fun g H7 g0 g1 hp7 b7 => ?_⟩
        obtain ⟨g, rfl⟩ := Int.eq_ofNat_of_zero_le g0
        have s57 : ∀ b o, b ≠ pt → b ≠ R → H6 b = some o → H7 b = some o := fun b o n _ e => b7 _ _ n e
        have eR7 := b7 _ _ nRp eR5
        refine gN ?_
        refine ⟨.int (g : Int), rfl, .int ((1 + m : Nat) : Int), rfl, _, _, rfl, rfl, _, rfl, ite2 (fun z => ?_) (fun z => ?_)⟩
        · have gl : (g : Int) < ((1 + m : Nat) : Int) := of_decide_eq_true z
          have l4 := okR_len okr
          refine ⟨.int (g : Int), rfl, .ref R, rfl, .str ⟨#[cc]⟩, rfl, R, _, rfl, .inl ⟨_, .inr ⟨#[cc]⟩, eR7, rfl, by rw [rowK_len, sizeLine_eq]; omega, rfl⟩, ?_⟩
          have nz : lkp r (⟨#[cc]⟩ : Str) = none := lkp_none fun q => sgs_not hz (okR_in okr q)
          rw [rowK_put nz]
          have s78 : ∀ b o, b ≠ pt → b ≠ R → H7 b = some o → (upd H7 R (.dK (rowK (r ++ [(⟨#[cc]⟩, g)])))) b = some o := fun b o _ n e => by rw [upd_ne n]; exact e
          refine ⟨_, _, _, rfl, ?_, keepB (keepB b5 s57) s78, keepD (keepD eD5 s57) s78, keep (keep nr5 s57) s78, upd_same, okR_add hz okr g, fun e he => ?_⟩
          · obtain ⟨x, y, q, q2⟩ := hp7
            exact ⟨x, y, by rw [upd_ne nRp.symm]; exact q, q2⟩
          · rcases List.mem_append.mp he with q | q
            · exact ltr e q
            · rw [List.mem_singleton.mp q]; exact Int.ofNat_lt.mp gl
        · exact ⟨_, _, _, rfl, hp7, keepB b5 s57, keepD eD5 s57, keep nr5 s57, eR7, okR_skip hz okr, ltr⟩
      · rintro σ H5 ⟨r, r6, r7, rfl, hp5, b5, eD5, nr5, eR5, okr, ltr⟩
        rw [gs] at okr
        have fin : ∀ (r' : List (Str × Nat)) (H6 : Hp) (r6 r7 : Option V), PotAt H6 pt → But pt H H6 → H6 D = some (.lst (ds.map V.ref)) → NewR H H6 D ds c → H6 R = some (.dK (rowK r')) → okR w r' → r' ≠ [] → (∀ e ∈ r', e.2 < 1 + m) →
            ∃ (ds' : List Addr) (c' : Ch) (r4 r5 r6' r7' : Option V), [some (V.ref pt), some (.int (w : Int)), some (.int ((1 + m : Nat) : Int)), some (.ref D), some (.int (0 + (i : Int))), some (.ref R), r6, r7] = [some (.ref pt), some (.int (w : Int)), some (.int ((1 + m : Nat) : Int)), some (.ref D), r4, r5, r6', r7'] ∧ PotAt (upd H6 D (.lst (ds.map V.ref ++ [.ref R]))) pt ∧ But pt H (upd H6 D (.lst (ds.map V.ref ++ [.ref R]))) ∧ (upd H6 D (.lst (ds.map V.ref ++ [.ref R]))) D = some (.lst (ds'.map V.ref)) ∧ NewR H (upd H6 D (.lst (ds.map V.ref ++ [.ref R]))) D ds' c' ∧ c'.length = i + 1 ∧ ∀ r ∈ c', okR w r ∧ r ≠ [] ∧ ∀ e ∈ r, e.2 < 1 + m := by
          intro r' H6 r6 r7 hp6 b6 eD6 nr6 eR6 ok6 ne6 lt6
          refine ⟨ds ++ [R], c ++ [r'], _, _, _, _, rfl, ?_, fun b o n e => ?_, by rw [upd_same, List.map_append]; rfl, ?_, by rw [List.length_append, lc]; rfl, fun q hq => ?_⟩
          · obtain ⟨x, y, q, q2⟩ := hp6
            exact ⟨x, y, by rw [upd_ne nDp.symm]; exact q, q2⟩
          · rw [upd_ne (ne_of_none e nDH)]; exact b6 _ _ n e
          · refine (nr6.add nRH nRD eR6).keep fun b kvs _ n e => ?_
            rw [upd_ne n]; exact e
          · rcases List.mem_append.mp hq with q' | q'
            · exact okc q q'
            · rw [List.mem_singleton.mp q']; exact ⟨ok6, ne6, lt6⟩
        have lds : ∀ {Hq : Hp}, NewR H Hq D ds c → (ds.map V.ref).length < sizeLine := fun n => by rw [List.length_map, n.l, lc, sizeLine_eq]; omega
        refine ⟨.ref R, rfl, fun E0 nE => ⟨R, E0, _, rfl, rfl, Same.new nE _ _ eR5, upd_same, _, rfl, ?_⟩⟩
        have hp6 : PotAt (upd H5 E0 (.dK [])) pt := hp5.same (Same.new nE)
        have s56 : ∀ b o, b ≠ pt → b ≠ R → H5 b = some o → (upd H5 E0 (.dK [])) b = some o := fun b o _ _ e => Same.new nE _ _ e
        have eR6 := Same.new nE (o := .dK []) _ _ eR5
        have b6 := keepB b5 s56
        have eD6 := keepD eD5 s56
        have nr6 := keep nr5 s56
        generalize (upd H5 E0 (.dK [])) = H6 at hp6 eR6 b6 eD6 nr6 ⊢
        cases r with
        | cons e r =>
          refine iteF ?_
          exact ⟨.ref D, rfl, .inl ⟨rfl, _, SqL.of eD6⟩, .ref R, rfl, D, _, _, rfl, rfl, eD6, lds nr6, fin _ _ _ _ hp6 b6 eD6 nr6 eR6 okr (fun z => by cases z) ltr⟩
        | nil =>
          refine iteT ?_
          refine ⟨.ref pt, rfl, .int ((1 + m : Nat) : Int), rfl, pt, _, rfl, hp6, by omega, log_small (by omega) (by omega), fun g H7 g0 g1 hp7 b7 => ?_⟩
          obtain ⟨g, rfl⟩ := Int.eq_ofNat_of_zero_le g0
          have s67 : ∀ b o, b ≠ pt → b ≠ R → H6 b = some o → H7 b = some o := fun b o n _ e => b7 _ _ n e
          have gz : (cutS "abcd" none (some (w : Int))).length = w := gs
          refine ⟨.ref R, rfl, .ref pt, rfl, .int (w : Int), rfl, (w : Int), rfl, "abcd", rfl, abcd_len, pt, _, rfl, hp7, .inl ⟨_, rfl, by rw [gz]; omega, by rw [gz]; omega, fun cc H8 hc hp8 b8 => ?_⟩⟩
          have s78 : ∀ b o, b ≠ pt → b ≠ R → H7 b = some o → H8 b = some o := fun b o n _ e => b8 _ _ n e
          have eR8 := b8 _ _ nRp (b7 _ _ nRp eR6)
          have hz : (⟨#[cc]⟩ : Str) ∈ sgs.take w := by
            rw [← show _ = sgs.take w from sg]
            exact List.mem_map_of_mem hc
          refine ⟨R, _, rfl, .inl ⟨_, .inr ⟨#[cc]⟩, eR8, rfl, by rw [rowK_len, sizeLine_eq]; show 0 < _; omega, rfl⟩, ?_⟩
          rw [rowK_put (show lkp [] (⟨#[cc]⟩ : Str) = none from rfl)]
          have s89 : ∀ b o, b ≠ pt → b ≠ R → H8 b = some o → (upd H8 R (.dK (rowK ([] ++ [(⟨#[cc]⟩, g)])))) b = some o := fun b o _ n e => by rw [upd_ne n]; exact e
          have hp9 : PotAt (upd H8 R (.dK (rowK ([] ++ [((⟨#[cc]⟩ : Str), g)])))) pt := by
            obtain ⟨x, y, q, q2⟩ := hp8
            exact ⟨x, y, by rw [upd_ne nRp.symm]; exact q, q2⟩
          have b9 := keepB (keepB (keepB b6 s67) s78) s89
          have eD9 := keepD (keepD (keepD eD6 s67) s78) s89
          have nr9 := keep (keep (keep nr6 s67) s78) s89
          have eR9 : (upd H8 R (.dK (rowK ([] ++ [((⟨#[cc]⟩ : Str), g)])))) R = some (.dK (rowK [((⟨#[cc]⟩ : Str), g)])) := upd_same
          exact ⟨.ref D, rfl, .inl ⟨rfl, _, SqL.of eD9⟩, .ref R, rfl, D, _, _, rfl, rfl, eD9, lds nr9, fin _ _ _ _ hp9 b9 eD9 nr9 eR9 (okR_one hz g) (fun z => by cases z) (fun e he => by rw [List.mem_singleton.mp he]; exact Int.ofNat_lt.mp g1)⟩
    · rintro σ H3 ⟨ds, c, r4, r5, r6, r7, rfl, hp3, b3, eD3, nr, lc, okc⟩
      refine ⟨.ref D, rfl, fun b => H b = none, fun H4 LP => ?_⟩
      obtain ⟨ls, tb⟩ := (nr.newT eD3).lock LP
      have lc' : c.length = 1 + m := by omega
      refine k D ls c H4 nDH tb ⟨by omega, fun r hr e he => by rw [lc']; exact (okc r hr).2.2 e he⟩ (fun r hr => ⟨(okc r hr).1, (okc r hr).2.1⟩) (by omega) ?_ (fun b o n e => ?_)
      · obtain ⟨x, y, q, q2⟩ := hp3
        exact ⟨x, y, by rw [(LP pt).2 (.inr fun kvs z => by rw [q] at z; cases z)]; exact q, q2⟩
      · rw [(LP b).2 (.inl (show ¬ (H b = none) by rw [e]; simp))]
        exact b3 _ _ n e
end
end K20
end

section
set_option maxHeartbeats 4000000
/-! what is unlike -/
namespace K20
open PySem PySem.Spec PyProof.Rows L2
def kP (a b : Nat) : List Key := [.inl (a : Int), .inl (b : Int)]
theorem kP_inj {a b x y : Nat} : kP a b = kP x y ↔ a = x ∧ b = y := by
  unfold kP
  constructor
  · intro h
    obtain ⟨h1, h2⟩ := List.cons.inj h
    have h3 := (List.cons.inj h2).1
    have := Sum.inl.inj h1
    have := Sum.inl.inj h3
    omega
  · rintro ⟨rfl, rfl⟩; rfl
def UIn (kvs : List (List Key × V)) (a b : Nat) : Bool := (valV kvs (kP a b)).isSome
theorem UIn_put {kvs : List (List Key × V)} {x y a b : Nat} {v : V} : UIn (putK kvs (kP x y) v) a b = (decide (a = x ∧ b = y) || UIn kvs a b) := by
  unfold UIn
  rw [valV_put]
  by_cases h : kP a b = kP x y
  · rw [if_pos h, decide_eq_true (kP_inj.mp h)]; rfl
  · rw [if_neg h, decide_eq_false (fun z => h (kP_inj.mpr z))]; rfl
structure Un (c : Ch) (kvs : List (List Key × V)) (t one other : Nat) : Prop where
  snd : ∀ a b, a < c.length → b < c.length → UIn kvs a b = true → ¬ Lw c a b
  old : ∀ a b, a < c.length → b < c.length → ¬ Lk c t a b → UIn kvs a b = true
  new : ∀ a b, a < c.length → b < c.length → (a < one ∨ (a = one ∧ b < other)) → ¬ Lk c (t + 1) a b → UIn kvs a b = true
  len : kvs.length ≤ 100 * t + 10 * one + other
theorem Un.row {c : Ch} {kvs : List (List Key × V)} {t one : Nat} (h : Un c kvs t one c.length) (l : c.length ≤ 5) : Un c kvs t (one + 1) 0 := ⟨h.snd, h.old, fun a b ha hb q => h.new a b ha hb (by omega), by have := h.len; omega⟩
theorem Un.turn {c : Ch} {kvs : List (List Key × V)} {t : Nat} (h : Un c kvs t c.length 0) (l : c.length ≤ 5) : Un c kvs (t + 1) 0 0 := ⟨h.snd, fun a b ha hb => h.new a b ha hb (.inl ha), fun a b _ _ q => by omega, by have := h.len; omega⟩
theorem putK_le (kvs : List (List Key × V)) (k : List Key) (x : V) : (putK kvs k x).length ≤ kvs.length + 1 := by
  unfold putK
  split
  · rw [List.length_map]; omega
  · rw [List.length_append]; exact Nat.le_refl _
theorem Un.hit {c : Ch} {kvs : List (List Key × V)} {t one other : Nat} {v : V} (h : Un c kvs t one other) (q : ¬ Lw c one other) : Un c (putK kvs (kP one other) v) t one (other + 1) := by
  refine ⟨fun a b ha hb u => ?_, fun a b ha hb u => ?_, fun a b ha hb w u => ?_, ?_⟩
  · rw [UIn_put] at u
    rcases Bool.or_eq_true_iff.mp u with u | u
    · obtain ⟨rfl, rfl⟩ := of_decide_eq_true u
      exact q
    · exact h.snd a b ha hb u
  · rw [UIn_put, h.old a b ha hb u, Bool.or_true]
  · rw [UIn_put]
    by_cases e : a = one ∧ b = other
    · rw [decide_eq_true e]; rfl
    · rw [h.new a b ha hb (by omega) u, Bool.or_true]
  · have := putK_le kvs (kP one other) v
    have := h.len
    omega
theorem Un.miss {c : Ch} {kvs : List (List Key × V)} {t one other : Nat} (h : Un c kvs t one other) (q : Lk c (t + 1) one other) : Un c kvs t one (other + 1) := by
  refine ⟨h.snd, h.old, fun a b ha hb w u => ?_, by have := h.len; omega⟩
  by_cases e : a = one ∧ b = other
  · obtain ⟨rfl, rfl⟩ := e
    exact absurd q u
  · exact h.new a b ha hb (by omega) u
theorem Un.fin {c : Ch} {w : Nat} {kvs : List (List Key × V)} (wf : WfC c) (ok : okT w c) (h : Un c kvs c.length 0 0) {a b : Nat} (ha : a < c.length) (hb : b < c.length) : UIn kvs a b = true ↔ ¬ Lw c a b :=
  ⟨h.snd a b ha hb, fun q => h.old a b ha hb fun l => q (deep wf ok ha hb l)⟩
theorem un_zero (c : Ch) : Un c [] 0 0 0 := ⟨fun a b _ _ u => (by cases u), fun a b _ _ u => absurd True.intro u, fun a b _ _ q => by omega, Nat.zero_le _⟩
theorem dx_strs {H : Hp} : ∀ ys : List Str, DxAll H (ys.map V.str) (ys.map PyData.str)
  | [] => .nil
  | y :: ys => .cons (.str y) (dx_strs ys)
theorem strs_can {ys : List Str} (hy : ∀ y ∈ ys, PyData.strOk y = true) : SeqAt.shaped (.list (ys.map PyData.str)) = true := by
  unfold SeqAt.shaped
  rw [Bool.and_eq_true]
  constructor
  · have := can_map (f := PyData.str) (l := ys) fun x hx => by simp [PyData.canLay0, hy x hx]
    simpa [PyData.canLay0] using this
  · refine decide_eq_true ?_
    have := depth_map (f := PyData.str) (n := 1) (l := ys) fun x _ => by simp [PyData.depth]
    simp only [PyData.depth]
    omega
theorem strs_plain (ys : List Str) : plainD (.list (ys.map PyData.str)) = true := plain_map (f := PyData.str) fun x _ => rfl
theorem strs_eqv (xs ys : List Str) : PyData.eqv (.list (xs.map PyData.str)) (.list (ys.map PyData.str)) = decide (xs = ys) := by
  have := eqv_map (f := PyData.str) (fun x y => by simp only [PyData.eqv]; rw [Bool.eq_iff_iff]; simp) xs ys
  simpa [PyData.eqv] using this
theorem sgs_ok : ∀ y ∈ sgs, PyData.strOk y = true := by decide +kernel
theorem keys_ok {w : Nat} {r : List (Str × Nat)} (ok : okR w r) : ∀ y ∈ keysR r, PyData.strOk y = true := fun y hy => sgs_ok y (List.mem_of_mem_take (okR_in ok hy))
def spUnlike : Sp := fun vs H Q _ => ∃ (F : Addr) (ls : List Addr) (c : Ch) (w : Nat), vs = [.ref F] ∧ TbF H F ls c ∧ WfC c ∧ okT w c ∧ c.length ≤ 5 ∧
  ∀ (U : Addr) (kvs : List (List Key × V)) (H' : Hp), Same H H' → H U = none → H' U = some (.dT kvs) → (∀ a b, a < c.length → b < c.length → (UIn kvs a b = true ↔ ¬ Lw c a b)) → Q (.ref U) H'
section
variable {P : Program} {w : World} {K : PySem.W.Frag} {mg : Str → Option Value} {base : Heap} {ad : Str → Addr} {fd : Str → FuncData}
theorem scUnlike : FnScope ["_law_book", "_law_found", "_law_turn", "_law_one", "_law_other", "_law_mine", "_law_its", "_law_apart", "_law_sign"] ["_law_book"] (defScope sUnlike) := ⟨rfl, rfl, rfl, by decide +kernel, rfl, by decide +kernel, by decide +kernel⟩
theorem ok_unlike (X : Tx K mg ad fd) : FnOk P w K mg base CX0 1 (ad "_law_unlike") (fd "_law_unlike") ["_law_book"] spUnlike := by
  refine X.F__law_unlike.ok scUnlike (fun vs H Q E h => ?_) (fun cdv A outer s H vs Q E hr h => ?_)
  · obtain ⟨F, ls, c, w, rfl, tb, wf, ok, c5, k⟩ := h
    rfl
  · obtain ⟨F, ls, c, w, rfl, tb, wf, ok, c5, k⟩ := h
    have HU : (A.deeper (envOfC "_law_unlike" (defScope sUnlike) s.heap.objs.size (ad "_law_unlike") cdv)).units + 1 < cLine := by have := hr.un; omega
    have hu64 : (A.deeper (envOfC "_law_unlike" (defScope sUnlike) s.heap.objs.size (ad "_law_unlike") cdv)).units + 64 < cLine := by have := hr.un; omega
    refine ⟨_, (pss_cons (ps_set (i := 1) scUnlike.nd rfl (.inr rfl) (by exact pe_dnewT))
  (pss_cons (ps_for PassesOwn.never rfl (pi_range1 (by rfl) X.m_range (pa_cons (pe_callB (call_lenK (K := K) rfl) (by rfl) X.m_len (by decide +kernel) (pa_cons (pv 0) pa_nil)) pa_nil)) (pg_name (i := 2) scUnlike.nd rfl (.inl rfl))
  (pss_one (ps_for PassesOwn.never rfl (pi_range1 (by rfl) X.m_range (pa_cons (pe_callB (call_lenK (K := K) rfl) (by rfl) X.m_len (by decide +kernel) (pa_cons (pv 0) pa_nil)) pa_nil)) (pg_name (i := 3) scUnlike.nd rfl (.inl rfl))
  (pss_one (ps_for PassesOwn.never rfl (pi_range1 (by rfl) X.m_range (pa_cons (pe_callB (call_lenK (K := K) rfl) (by rfl) X.m_len (by decide +kernel) (pa_cons (pv 0) pa_nil)) pa_nil)) (pg_name (i := 4) scUnlike.nd rfl (.inl rfl))
  (pss_cons (ps_asg (by exact (pe_tup (pa_cons (pe_ix (ix_listK (K := K) rfl) (pv 0) (pv 3) (fun _ _ => rfl)) (pa_cons (pe_ix (ix_listK (K := K) rfl) (pv 0) (pv 4) (fun _ _ => rfl)) pa_nil)))) (pg_tup rfl (pgs_cons (pg_name (i := 5) scUnlike.nd rfl (.inr rfl)) (pgs_cons (pg_name (i := 6) scUnlike.nd rfl (.inr rfl)) pgs_nil))))
  (pss_cons (ps_set (i := 7) scUnlike.nd rfl (.inl rfl) (by exact (pe_cmpR (op_neD hu64) (pe_callB (call_sortedD rfl) (by rfl) X.m_sorted (by decide +kernel) (pa_cons (pv 5) pa_nil)) (pe_callB (call_sortedD rfl) (by rfl) X.m_sorted (by decide +kernel) (pa_cons (pv 6) pa_nil)) (nomark _))))
  (pss_one (ps_if (PW.pt (pw_or (pt_val (pv 7)) (pw_or1 (pt_val (pe_callB (cr_anyK (K := K) rfl) (by rfl) X.m_any (by decide +kernel) (pa_cons (pe_lc (own := [("_law_sign", 8)]) (g := gName 8) rfl scUnlike.nd (pi_keys (pv 5)) (blkOk_by (own := [("_law_sign", 8)]) (N := ["_law_book", "_law_found", "_law_turn", "_law_one", "_law_other", "_law_mine", "_law_its", "_law_apart", "_law_sign"]) (sc := defScope sUnlike) (by decide +kernel)) (fun _ _ _ _ _ => pg_name (i := 8) scUnlike.nd rfl (Or.inl rfl)) (fun _ _ _ _ _ => pts_nil) (fun _ _ _ _ _ => (pe_cmp (pc_din HU (pe_tup (pa_cons (pe_dget HU (pv 5) (pv 8) (fun _ _ => rfl)) (pa_cons (pe_dget HU (pv 6) (pv 8) (fun _ _ => rfl)) pa_nil))) (pv 1))))) pa_nil))))))
  (pss_one (ps_asg (by exact pe_bl) (pg_sub (pv 1) (pe_tup (pa_cons (pv 3) (pa_cons (pv 4) pa_nil))) (set_dict HU))))
  pss_nil)))))))))
  (pss_one (ps_ret (by exact (pv 1)))))), ?_⟩
    refine fun U nU => ?_
    refine gN ?_
    have sU : Same H (upd H U (.dT [])) := Same.new nU
    have eU : (upd H U (.dT [])) U = some (.dT []) := upd_same
    generalize (upd H U (.dT [])) = H1 at sU eU ⊢
    have ll : (ls.map V.ref).length = c.length := by rw [List.length_map, tb.l]
    let Pv : Nat → Nat → Nat → L2.St → Hp → Prop := fun t one other σ H' => ∃ (kvs : List (List Key × V)) (r2 r3 r4 r5 r6 r7 r8 : Option V), σ = [some (.ref F), some (.ref U), r2, r3, r4, r5, r6, r7, r8] ∧ Same H H' ∧ H' U = some (.dT kvs) ∧ Un c kvs t one other
    refine ⟨.ref F, rfl, .ref F, _, rfl, .inl ⟨_, SqL.of (sU _ _ tb.e), rfl⟩, c.length, by rw [ll], by omega, by omega, ?_⟩
    refine for_range (lo := 0) (n := ((c.length : Int)).toNat) (fun t σ H' => Pv t 0 0 σ H') ⟨_, _, _, _, _, _, _, _, rfl, sU, eU, un_zero c⟩ ?_ ?_
    · rintro t σ H2 ht ⟨kvs, r2, r3, r4, r5, r6, r7, r8, rfl, s2, eU2, un⟩
      refine gN ?_
      refine ⟨.ref F, rfl, .ref F, _, rfl, .inl ⟨_, SqL.of (s2 _ _ tb.e), rfl⟩, c.length, by rw [ll], by omega, by omega, ?_⟩
      refine for_range (lo := 0) (n := ((c.length : Int)).toNat) (fun one σ H' => Pv t one 0 σ H') ⟨_, _, _, _, _, _, _, _, rfl, s2, eU2, un⟩ ?_ ?_
      · rintro one σ H3 h1 ⟨kvs, r2, r3, r4, r5, r6, r7, r8, rfl, s3, eU3, un⟩
        refine gN ?_
        refine ⟨.ref F, rfl, .ref F, _, rfl, .inl ⟨_, SqL.of (s3 _ _ tb.e), rfl⟩, c.length, by rw [ll], by omega, by omega, ?_⟩
        refine for_range (lo := 0) (n := ((c.length : Int)).toNat) (fun other σ H' => ∃ (kvs : List (List Key × V)) (r4 r5 r6 r7 r8 : Option V), σ = [some (.ref F), some (.ref U), r2, some (.int (0 + (one : Int))), r4, r5, r6, r7, r8] ∧ Same H H' ∧ H' U = some (.dT kvs) ∧ Un c kvs t one other) ⟨_, _, _, _, _, _, rfl, s3, eU3, un⟩ ?_ ?_
        · rintro other σ H4 h2 ⟨kvs, r4, r5, r6, r7, r8, rfl, s4, eU4, un⟩
          rw [Int.toNat_natCast] at ht h1 h2
          refine gN ?_
          have h1' : one < c.length := h1
          have h2' : other < c.length := h2
          have tb4 := tb.same s4
          obtain ⟨a, oa, a1, a2, a3⟩ := tb4.row h1'
          obtain ⟨b, ob, b1, b2, b3⟩ := tb4.row h2'
          have okr := (rowOk ok h1').1
          have okr' := (rowOk ok h2').1
          have nd := okR_nd okr
          have nd' := okR_nd okr'
          have l64 : ∀ {r : List (Str × Nat)}, okR w r → (keysR r).length < 64 := fun {r} o => by have := okR_len o; unfold keysR; rw [List.length_map]; omega
          refine ⟨.ref F, rfl, .int (0 + (one : Int)), rfl, F, _, 0 + (one : Int), .ref a, rfl, rfl, SqL.of tb4.e, by rw [Int.zero_add]; exact a2, .ref F, rfl, .int (0 + (other : Int)), rfl, F, _, 0 + (other : Int), .ref b, rfl, rfl, SqL.of tb4.e, by rw [Int.zero_add]; exact b2, sz2, fun T nT => ?_⟩
          have s5 := Same.new nT (o := .tup [.ref a, .ref b])
          have eT : (upd H4 T (.tup [.ref a, .ref b])) T = some (.tup [.ref a, .ref b]) := upd_same
          generalize (upd H4 T (.tup [.ref a, .ref b])) = H5 at s5 eT ⊢
          refine ⟨T, _, rfl, SqT.of eT, rfl, _, _, rfl, _, _, rfl, rfl, ?_⟩
          refine ⟨.ref a, rfl, a, rowK (rowC c one), keysR (rowC c one), rfl, .inr ⟨oa, s5 _ _ a3⟩, rowK_keys _, l64 okr, fun ys S pm st nS => ?_⟩
          obtain rfl := sorted_keys okr pm st
          have s6 := Same.trans s5 (Same.new nS (o := .lst ((keysR (rowC c one)).map V.str)))
          have eS : (upd H5 S (.lst ((keysR (rowC c one)).map V.str))) S = some (.lst ((keysR (rowC c one)).map V.str)) := upd_same
          generalize (upd H5 S (.lst ((keysR (rowC c one)).map V.str))) = H6 at s6 eS ⊢
          refine ⟨.ref b, rfl, b, rowK (rowC c other), keysR (rowC c other), rfl, .inr ⟨ob, s6 _ _ b3⟩, rowK_keys _, l64 okr', fun zs S' pm' st' nS' => ?_⟩
          obtain rfl := sorted_keys okr' pm' st'
          have s7 := Same.trans s6 (Same.new nS' (o := .lst ((keysR (rowC c other)).map V.str)))
          have eS7 := Same.new nS' (o := .lst ((keysR (rowC c other)).map V.str)) _ _ eS
          have eS' : (upd H6 S' (.lst ((keysR (rowC c other)).map V.str))) S' = some (.lst ((keysR (rowC c other)).map V.str)) := upd_same
          generalize (upd H6 S' (.lst ((keysR (rowC c other)).map V.str))) = H7 at s7 eS7 eS' ⊢
          refine ⟨.list ((keysR (rowC c one)).map PyData.str), .list ((keysR (rowC c other)).map PyData.str), Dx.dp (.lst eS7 (dx_strs _)) (strs_plain _), Dx.dp (.lst eS' (dx_strs _)) (strs_plain _), strs_can (keys_ok okr), strs_can (keys_ok okr'), ?_⟩
          rw [strs_eqv]
          refine gN ?_
          have sH7 := Same.trans s4 s7
          have eU7 := s7 _ _ eU4
          refine ⟨_, rfl, _, rfl, ?_⟩
          by_cases ek : keysR (rowC c one) = keysR (rowC c other)
          · rw [decide_eq_true ek]
            refine iteF ?_
            let bf : Nat → Bool := fun j => UIn kvs ((rowC c one).getD j ("", 0)).2 ((lkp (rowC c other) ((rowC c one).getD j ("", 0)).1).getD 0)
            have lr := okR_len okr
            refine ⟨.ref a, rfl, a, oa, rfl, .inl ⟨rowK (rowC c one), s7 _ _ a3, fun D nD => ?_⟩⟩
            refine lc_map (w := walk_keys (d := a) (o := oa) (kvs := rowK (rowC c one))) (fun j => V.bl (bf j)) nD (by rw [rowK_len]; omega) (fun i Hc _ sc => sc _ _ (s7 _ _ a3)) (fun _ => rfl) (fun j x Hc Hd hj sc y => ?_) (fun H8 s8 eD => ?_)
            · obtain ⟨rfl, k', v', hk, rfl⟩ := y
              obtain ⟨e, he, rfl, rfl⟩ : ∃ e, (rowC c one)[j]? = some e ∧ k' = .inr e.1 ∧ v' = .int (e.2 : Int) := by
                unfold rowK at hk
                rw [List.getElem?_map] at hk
                cases er : (rowC c one)[j]? with
                | none => rw [er] at hk; cases hk
                | some e =>
                  rw [er] at hk
                  cases hk
                  exact ⟨e, rfl, rfl, rfl⟩
              have me := List.mem_of_getElem? he
              obtain ⟨g', hg'⟩ := lkp_has (r := rowC c other) (z := e.1) (by rw [← ek]; exact List.mem_map_of_mem (f := fun e : Str × Nat => e.1) me)
              have eb : bf j = UIn kvs e.2 g' := by
                show UIn kvs ((rowC c one).getD j ("", 0)).2 ((lkp (rowC c other) ((rowC c one).getD j ("", 0)).1).getD 0) = _
                rw [List.getD_eq_getElem?_getD, he]
                show UIn kvs e.2 ((lkp (rowC c other) e.1).getD 0) = _
                rw [hg']; rfl
              refine ⟨Same.refl, fun Q' hQ => ?_⟩
              refine ⟨.ref a, rfl, .str e.1, rfl, a, .int (e.2 : Int), rfl, .inl ⟨rowK (rowC c one), .inr e.1, .inr ⟨oa, sc _ _ (s7 _ _ a3)⟩, rfl, by rw [rowK_val, lkp_at nd me]; rfl⟩, .ref b, rfl, .str e.1, rfl, b, .int (g' : Int), rfl, .inl ⟨rowK (rowC c other), .inr e.1, .inr ⟨ob, sc _ _ (s7 _ _ b3)⟩, rfl, by rw [rowK_val, hg']; rfl⟩, sz2, fun T2 nT2 => ⟨.ref U, rfl, U, _, rfl, .inr ⟨kvs, kP e.2 g', T2, .inl (Same.new nT2 _ _ (sc _ _ eU7)), rfl, upd_same, rfl⟩, ?_⟩⟩
              have := hQ _ (Same.new nT2 (o := .tup [.int (e.2 : Int), .int (g' : Int)]))
              rw [eb] at this
              exact this
            · rw [rowK_len] at eD
              have em : (List.range (rowC c one).length).map (fun j => V.bl (bf j)) = ((List.range (rowC c one).length).map bf).map V.bl := by rw [List.map_map]; rfl
              rw [em] at eD
              have sH8 := Same.trans sH7 s8
              have eU8 := s8 _ _ eU7
              refine ⟨D, _, rfl, SqL.of eD, _, rfl, ?_⟩
              cases ea : ((List.range (rowC c one).length).map bf).any id with
              | true =>
                have nl : ¬ Lw c one other := by
                  obtain ⟨x, hx, ex⟩ := List.any_eq_true.mp ea
                  obtain ⟨j, hj, rfl⟩ := List.mem_map.mp hx
                  have hj := List.mem_range.mp hj
                  have he : (rowC c one)[j]? = some (rowC c one)[j] := List.getElem?_eq_getElem hj
                  have me := List.mem_of_getElem? he
                  obtain ⟨g', hg'⟩ := lkp_has (r := rowC c other) (z := (rowC c one)[j].1) (by rw [← ek]; exact List.mem_map_of_mem (f := fun e : Str × Nat => e.1) me)
                  have eb : bf j = UIn kvs (rowC c one)[j].2 g' := by
                    show UIn kvs ((rowC c one).getD j ("", 0)).2 ((lkp (rowC c other) ((rowC c one).getD j ("", 0)).1).getD 0) = _
                    rw [List.getD_eq_getElem?_getD, he]
                    show UIn kvs (rowC c one)[j].2 ((lkp (rowC c other) (rowC c one)[j].1).getD 0) = _
                    rw [hg']; rfl
                  have ex : bf j = true := ex
                  rw [eb] at ex
                  have n2 := un.snd _ _ (rowC_lt wf me) (lkp_lt wf hg') ex
                  exact fun L => n2 (L.goal (lkp_at nd me) hg')
                refine iteT ?_
                refine ⟨.ref U, rfl, .int (0 + (one : Int)), rfl, .int (0 + (other : Int)), rfl, sz2, fun T2 nT2 => ⟨U, _, rfl, .inr ⟨kvs, kP one other, T2, Same.new nT2 _ _ eU8, rfl, by show _ = some (HO.tup [V.int (one : Int), V.int (other : Int)]); rw [upd_same, Int.zero_add, Int.zero_add], by have := un.len; rw [sizeLine_eq]; omega, rfl⟩, ?_⟩⟩
                exact ⟨_, _, _, _, _, _, rfl, fun b u e => (by rw [upd_ne (ne_of_none e nU)]; exact Same.trans sH8 (Same.new nT2) _ _ e), upd_same, un.hit nl⟩
              | false =>
                refine iteF ?_
                refine ⟨kvs, _, _, _, _, _, rfl, sH8, eU8, un.miss ⟨ek, fun z a' b' ha hb => Classical.byContradiction fun nk => ?_⟩⟩
                have u := un.old _ _ (lkp_lt wf ha) (lkp_lt wf hb) nk
                obtain ⟨j, hj, e⟩ := List.mem_iff_getElem.mp (lkp_mem ha)
                have he : (rowC c one)[j]? = some (z, a') := by rw [List.getElem?_eq_getElem hj, e]
                have eb : bf j = true := by
                  show UIn kvs ((rowC c one).getD j ("", 0)).2 ((lkp (rowC c other) ((rowC c one).getD j ("", 0)).1).getD 0) = _
                  rw [List.getD_eq_getElem?_getD, he]
                  show UIn kvs a' ((lkp (rowC c other) z).getD 0) = _
                  rw [hb]; exact u
                have := List.any_eq_false.mp ea _ (List.mem_map_of_mem (f := bf) (List.mem_range.mpr hj))
                exact this eb
          · rw [decide_eq_false ek]
            refine iteT (iteT ?_)
            have nl : ¬ Lw c one other := fun L => ek L.keys
            refine ⟨.ref U, rfl, .int (0 + (one : Int)), rfl, .int (0 + (other : Int)), rfl, sz2, fun T2 nT2 => ⟨U, _, rfl, .inr ⟨kvs, kP one other, T2, Same.new nT2 _ _ eU7, rfl, by show _ = some (HO.tup [V.int (one : Int), V.int (other : Int)]); rw [upd_same, Int.zero_add, Int.zero_add], by have := un.len; rw [sizeLine_eq]; omega, rfl⟩, ?_⟩⟩
            exact ⟨_, _, _, _, _, _, rfl, fun b u e => (by rw [upd_ne (ne_of_none e nU)]; exact Same.trans sH7 (Same.new nT2) _ _ e), upd_same, un.hit nl⟩
        · rintro σ H4 ⟨kvs, r4, r5, r6, r7, r8, rfl, s4, eU4, un⟩
          exact ⟨_, _, _, _, _, _, _, _, rfl, s4, eU4, by rw [Int.toNat_natCast] at un; exact un.row c5⟩
      · rintro σ H3 ⟨kvs, r2, r3, r4, r5, r6, r7, r8, rfl, s3, eU3, un⟩
        exact ⟨_, _, _, _, _, _, _, _, rfl, s3, eU3, by rw [Int.toNat_natCast] at un; exact un.turn c5⟩
    · rintro σ H2 ⟨kvs, r2, r3, r4, r5, r6, r7, r8, rfl, s2, eU2, un⟩
      rw [Int.toNat_natCast] at un
      exact ⟨.ref U, rfl, k U kvs H2 s2 nU eU2 fun a b ha hb => un.fin wf ok ha hb⟩
end
end K20
end

section
set_option maxHeartbeats 4000000
/-! the law's least table -/
namespace K20
open PySem PySem.Spec PyProof.Rows L2
theorem ixM_nat (o : List Nat) (x : Nat) : ixM o x = o.idxOf x := by
  have := idx_same (f := id) (g := id) (t := x) (o := o) fun _ _ => Iff.rfl
  rw [List.map_id] at this
  exact this
noncomputable def rowF (c : Ch) (r : List (Str × Nat)) : List (Str × Nat) := r.map fun e => (e.1, (reached (quo c)).idxOf (rep c e.2))
theorem addAll_succ {o : List Nat} {r : List (Str × Nat)} {j : Nat} {e : Str × Nat} (h : r[j]? = some e) : addAll o (r.take (j + 1)) = addN (addAll o (r.take j)) e.2 := by
  rw [List.take_add_one, h]
  unfold addAll
  rw [Option.toList_some, List.foldl_append]; rfl
def spTable : Sp := fun vs H Q _ => ∃ (F : Addr) (ls : List Addr) (c : Ch) (w : Nat), vs = [.ref F] ∧ TbF H F ls c ∧ WfC c ∧ okT w c ∧ c.length ≤ 5 ∧
  ∀ (D : Addr) (ls' : List Addr) (H' : Hp), Same H H' → H D = none → TbF H' D ls' (chart c) → Q (.ref D) H'
section
variable {P : Program} {w : World} {K : PySem.W.Frag} {mg : Str → Option Value} {base : Heap} {ad : Str → Addr} {fd : Str → FuncData}
theorem scTable : FnScope ["_law_book", "_law_unlike_here", "_law_places", "_law_found", "_law_first", "_law_order", "_law_row", "_law_here", "_law_sign", "_law_goal", "_law_spot", "_law_one"] ["_law_book"] (defScope sTable) := ⟨rfl, rfl, rfl, by decide +kernel, rfl, by decide +kernel, by decide +kernel⟩
theorem ok_table (X : Tx K mg ad fd) : FnOk P w K mg base CX0 2 (ad "_law_table") (fd "_law_table") ["_law_book"] spTable := by
  have G__law_unlike := ok_unlike (P := P) (w := w) (base := base) X
  refine X.F__law_table.ok scTable (fun vs H Q E h => ?_) (fun cdv A outer s H vs Q E hr h => ?_)
  · obtain ⟨F, ls, c, w, rfl, tb, wf, ok, c5, k⟩ := h
    rfl
  · obtain ⟨F, ls, c, w, rfl, tb, wf, ok, c5, k⟩ := h
    have HR__law_unlike : Room 1 _ := hr
    have HU : (A.deeper (envOfC "_law_table" (defScope sTable) s.heap.objs.size (ad "_law_table") cdv)).units + 1 < cLine := by have := hr.un; omega
    refine ⟨_, (pss_cons (ps_asg (by exact (pe_tup (pa_cons (pe_call G__law_unlike HR__law_unlike (by rfl) X.g__law_unlike X.F__law_unlike.kp X.b__law_unlike .nil pass0 (pa_cons (pv 0) pa_nil)) (pa_cons pe_dnewK (pa_cons (pe_lst pa_nil) pa_nil))))) (pg_tup rfl (pgs_cons (pg_name (i := 1) scTable.nd rfl (.inr rfl)) (pgs_cons (pg_name (i := 2) scTable.nd rfl (.inl rfl)) (pgs_cons (pg_name (i := 3) scTable.nd rfl (.inl rfl)) pgs_nil)))))
  (pss_cons (ps_setLc (i := 4) (own := [("_law_spot", 10)]) (g := gName 10) rfl scTable.nd rfl rfl (by rfl) (pi_range1 (by rfl) X.m_range (pa_cons (pe_callB (call_lenK (K := K) rfl) (by rfl) X.m_len (by decide +kernel) (pa_cons (pv 0) pa_nil)) pa_nil)) (blkOk_by (own := [("_law_spot", 10)]) (N := ["_law_book", "_law_unlike_here", "_law_places", "_law_found", "_law_first", "_law_order", "_law_row", "_law_here", "_law_sign", "_law_goal", "_law_spot", "_law_one"]) (sc := defScope sTable) (by decide +kernel)) (fun _ _ _ _ _ => pg_name (i := 10) scTable.nd rfl (Or.inr rfl)) (fun _ _ _ _ _ => pts_nil) (fun _ _ _ _ _ => (pe_callB (cr_minK (K := K) rfl) (by rfl) X.m_min (by decide +kernel) (pa_cons (pe_lc (own := [("_law_one", 11)]) (g := gName 11) rfl scTable.nd (pi_range1 (by rfl) X.m_range (pa_cons (pe_callB (call_lenK (K := K) rfl) (by rfl) X.m_len (by decide +kernel) (pa_cons (pv 0) pa_nil)) pa_nil)) (blkOk_by (own := [("_law_one", 11)]) (N := ["_law_book", "_law_unlike_here", "_law_places", "_law_found", "_law_first", "_law_order", "_law_row", "_law_here", "_law_sign", "_law_goal", "_law_spot", "_law_one"]) (by kernel_rfl)) (fun _ _ _ _ _ => pg_name (i := 11) scTable.nd rfl (Or.inl rfl)) (fun _ _ _ _ _ => pts_one (pt_cmp (pc_dnotin HU (pe_tup (pa_cons (pv 10) (pa_cons (pv 11) pa_nil))) (pv 1)))) (fun _ _ _ _ _ => (pv 11))) pa_nil))))
  (pss_cons (ps_set (i := 5) scTable.nd rfl (.inl rfl) (by exact (pe_lst (pa_cons (pe_ix (ix_listK (K := K) rfl) (pv 4) pe_int (fun _ _ => rfl)) pa_nil))))
  (pss_cons (ps_asg (by exact pe_int) (pg_sub (pv 2) (pe_ix (ix_listK (K := K) rfl) (pv 4) pe_int (fun _ _ => rfl)) (set_dict HU)))
  (pss_cons (ps_while PassesOwn.never (pt_cmpR op_lt (pe_callB (call_lenK (K := K) rfl) (by rfl) X.m_len (by decide +kernel) (pa_cons (pv 3) pa_nil)) (pe_callB (call_lenK (K := K) rfl) (by rfl) X.m_len (by decide +kernel) (pa_cons (pv 5) pa_nil)) (nomark _))
  (pss_cons (ps_par (i := 6) (j := 7) rfl scTable.nd rfl rfl (by decide) rfl rfl (by exact (pa_cons pe_dnewK (pa_cons (pe_ix (ix_listK (K := K) rfl) (pv 0) (pe_ix (ix_listK (K := K) rfl) (pv 5) (pe_callB (call_lenK (K := K) rfl) (by rfl) X.m_len (by decide +kernel) (pa_cons (pv 3) pa_nil)) (fun _ _ => rfl)) (fun _ _ => rfl)) pa_nil))) (by rfl))
  (pss_cons (ps_for PassesOwn.never rfl (pi_list (pe_callB (call_sortedD rfl) (by rfl) X.m_sorted (by decide +kernel) (pa_cons (pv 7) pa_nil))) (pg_name (i := 8) scTable.nd rfl (.inl rfl))
  (pss_cons (ps_set (i := 9) scTable.nd rfl (.inl rfl) (by exact (pe_ix (ix_listK (K := K) rfl) (pv 4) (pe_dget HU (pv 7) (pv 8) (fun _ _ => rfl)) (fun _ _ => rfl))))
  (pss_cons (ps_if (pt_cmp (pc_dnotin HU (pv 9) (pv 2)))
  (pss_cons (ps_asg (by exact (pe_callB (call_lenK (K := K) rfl) (by rfl) X.m_len (by decide +kernel) (pa_cons (pv 5) pa_nil))) (pg_sub (pv 2) (pv 9) (set_dict HU)))
  (pss_one (ps_expr (by exact (pe_bm PySem.F.plainAttrs_list PySem.F.slot_list_append PySem.F.type_list_append mt_append (pv 5) (pa_cons (pv 9) pa_nil))))))
  pss_nil)
  (pss_one (ps_asg (by exact (pe_dget HU (pv 2) (pv 9) (fun _ _ => rfl))) (pg_sub (pv 6) (pv 8) (set_dict HU)))))))
  (pss_one (ps_expr (by exact (pe_bm PySem.F.plainAttrs_list PySem.F.slot_list_append PySem.F.type_list_append mt_append (pv 3) (pa_cons (pv 6) pa_nil))))))))
  (pss_one (ps_ret (by exact (pe_lock (pv 3)))))))))), ?_⟩
    have ll : (ls.map V.ref).length = c.length := by rw [List.length_map, tb.l]
    refine ⟨.ref F, rfl, F, ls, c, w, rfl, tb, wf, ok, c5, fun U kvs H1 s1 nU eU hU => fun Pl nPl => ⟨(by show 0 ≤ sizeLine; omega), fun Fd nFd => ⟨(by show 3 ≤ sizeLine; decide), fun T nT => ?_⟩⟩⟩
    have nPlH : H Pl = none := none_back s1 nPl
    have s1F : Same H1 (upd H1 Pl (.dK [])) := Same.new nPl
    have nFdH : H Fd = none := none_back s1 (none_back s1F nFd)
    have nPF : Pl ≠ Fd := ne_of_none upd_same nFd
    have s12 : Same H1 (upd (upd (upd H1 Pl (.dK [])) Fd (.lst [])) T (.tup [.ref U, .ref Pl, .ref Fd])) := Same.trans s1F (Same.trans (Same.new nFd) (Same.new nT))
    have eT : (upd (upd (upd H1 Pl (.dK [])) Fd (.lst [])) T (.tup [.ref U, .ref Pl, .ref Fd])) T = some (.tup [.ref U, .ref Pl, .ref Fd]) := upd_same
    have ePl : (upd (upd (upd H1 Pl (.dK [])) Fd (.lst [])) T (.tup [.ref U, .ref Pl, .ref Fd])) Pl = some (.dK []) := Same.new nT _ _ (Same.new nFd _ _ upd_same)
    have eFd : (upd (upd (upd H1 Pl (.dK [])) Fd (.lst [])) T (.tup [.ref U, .ref Pl, .ref Fd])) Fd = some (.lst []) := Same.new nT _ _ upd_same
    generalize (upd (upd (upd H1 Pl (.dK [])) Fd (.lst [])) T (.tup [.ref U, .ref Pl, .ref Fd])) = H2 at s12 eT ePl eFd ⊢
    have s02 := Same.trans s1 s12
    have eU2 := s12 _ _ eU
    refine ⟨T, _, rfl, SqT.of eT, rfl, _, _, rfl, _, _, rfl, _, _, rfl, rfl, ?_⟩
    refine ⟨.ref F, rfl, .ref F, _, rfl, .inl ⟨_, SqL.of (s02 _ _ tb.e), rfl⟩, c.length, by rw [ll], by omega, by omega, fun Fs nFs => ?_⟩
    refine lc_map (w := walk_range (lo := 0) (n := ((c.length : Int)).toNat)) (fun i => V.int ((rep c i : Nat) : Int)) nFs (by omega) (fun _ _ _ _ => True.intro) (fun _ => rfl) (fun sp x Hc Hd hsp sc y => ?_) (fun H3 s3 eFs => ?_)
    · obtain ⟨rfl, rfl⟩ := y
      rw [Int.toNat_natCast] at hsp
      refine ⟨Same.refl, fun Q' hQ => ?_⟩
      refine ⟨.ref F, rfl, .ref F, _, rfl, .inl ⟨_, SqL.of (sc _ _ (s02 _ _ tb.e)), rfl⟩, c.length, by rw [ll], by omega, by omega, fun D nD => ?_⟩
      refine lc_it (w := walk_range (lo := 0) (n := ((c.length : Int)).toNat)) (fun i H' => Same Hd H' ∧ H' D = some (.lst (((List.range i).filter fun o => !UIn kvs sp o).map fun (t : Nat) => V.int (t : Int)))) ⟨Same.new nD, upd_same⟩ (fun _ _ _ _ => True.intro) (fun o x Hx Hy ho hP y => ?_) (fun H4 hP => ?_)
      · obtain ⟨sx, eD⟩ := hP
        obtain ⟨rfl, rfl⟩ := y
        refine gN ⟨rfl, ?_⟩
        refine ⟨.int (0 + (sp : Int)), rfl, .int (0 + (o : Int)), rfl, sz2, fun T2 nT2 => ⟨.ref U, rfl, U, _, rfl, .inr ⟨kvs, kP sp o, T2, .inl (Same.new nT2 _ _ (sx _ _ (sc _ _ eU2))), rfl, by show _ = some (HO.tup [V.int (sp : Int), V.int (o : Int)]); rw [upd_same, Int.zero_add, Int.zero_add], rfl⟩, _, rfl, ?_⟩⟩
        have sT := Same.trans sx (Same.new nT2 (o := .tup [.int (0 + (sp : Int)), .int (0 + (o : Int))]))
        have eD2 := Same.new nT2 (o := .tup [.int (0 + (sp : Int)), .int (0 + (o : Int))]) _ _ eD
        have fl : (List.range (o + 1)).filter (fun o => !UIn kvs sp o) = (List.range o).filter (fun o => !UIn kvs sp o) ++ if (!UIn kvs sp o) = true then [o] else [] := by
          rw [List.range_succ, List.filter_append, List.filter_cons]; rfl
        refine ite2 (fun z => ?_) (fun z => ?_)
        · refine ⟨.int (0 + (o : Int)), rfl, _, eD2, by rw [List.length_map, sizeLine_eq]; have := List.length_filter_le (fun o => !UIn kvs sp o) (List.range o); rw [List.length_range] at this; rw [Int.toNat_natCast] at ho; omega, fun b u e => ?_, ?_⟩
          · rw [upd_ne (ne_of_none e nD)]; exact sT _ _ e
          · rw [upd_same, fl, if_pos (show (!UIn kvs sp o) = true from z), List.map_append, Int.zero_add]; rfl
        · refine ⟨sT, ?_⟩
          rw [eD2, fl, if_neg (show ¬ (!UIn kvs sp o) = true from z), List.append_nil]
      · obtain ⟨s4, eD⟩ := hP
        rw [Int.toNat_natCast] at eD
        have em : (((List.range c.length).filter fun o => !UIn kvs sp o).map fun (t : Nat) => V.int (t : Int)) = (((List.range c.length).filter fun o => !UIn kvs sp o).map fun (t : Nat) => (t : Int)).map V.int := by rw [List.map_map]; rfl
        rw [em] at eD
        obtain ⟨r1, r2, r3⟩ := rep_ok (c := c) hsp
        have mr : rep c sp ∈ (List.range c.length).filter fun o => !UIn kvs sp o := by
          rw [List.mem_filter]
          refine ⟨List.mem_range.mpr r1, ?_⟩
          cases e : UIn kvs sp (rep c sp) with
          | false => rfl
          | true => exact absurd r2 ((hU _ _ hsp r1).mp e)
        refine ⟨D, _, rfl, SqL.of eD, by rw [List.length_map]; exact List.length_pos_of_mem mr, fun x hx lx => ?_⟩
        obtain ⟨t, ht, rfl⟩ := List.mem_map.mp hx
        obtain ⟨t1, t2⟩ := List.mem_filter.mp ht
        have le := lx _ (List.mem_map_of_mem (f := fun (t : Nat) => (t : Int)) mr)
        have et : t = rep c sp := by
          by_cases q : t < rep c sp
          · exfalso
            have := (hU _ _ hsp (List.mem_range.mp t1)).mpr (r3 t q)
            rw [this] at t2
            cases t2
          · omega
        have := hQ _ s4
        rw [← et] at this
        exact this
    rw [Int.toNat_natCast] at eFs
    refine gN ?_
    have nFsH : H Fs = none := none_back s02 nFs
    have fat : ∀ {Hq : Hp} {t : Nat}, Hq Fs = some (.lst ((List.range c.length).map fun i => V.int ((rep c i : Nat) : Int))) → t < c.length → atI ((List.range c.length).map fun i => V.int ((rep c i : Nat) : Int)) (t : Int) = some (.int ((rep c t : Nat) : Int)) := fun _ ht => atI_nat (by rw [List.getElem?_map, List.getElem?_range ht]; rfl)
    refine ⟨.ref Fs, rfl, Fs, _, ((0 : Nat) : Int), _, rfl, rfl, SqL.of eFs, fat eFs wf.1, sz1, fun Od nOd => ?_⟩
    rw [rep_zero wf.1]
    refine gN ?_
    have nOdH : H Od = none := none_back (Same.trans s02 s3) nOd
    have s23 := s3
    have s34 : Same H3 (upd H3 Od (.lst [.int ((0 : Nat) : Int)])) := Same.new nOd
    have eOd : (upd H3 Od (.lst [.int ((0 : Nat) : Int)])) Od = some (.lst (intsV [0])) := upd_same
    have nOP : Od ≠ Pl := fun z => by rw [z, s3 _ _ ePl] at nOd; cases nOd
    have nOF : Od ≠ Fd := fun z => by rw [z, s3 _ _ eFd] at nOd; cases nOd
    have nOs : Od ≠ Fs := fun z => by rw [z, eFs] at nOd; cases nOd
    have nPs : Pl ≠ Fs := fun z => by rw [← z, ePl] at nFs; cases nFs
    have nFF : Fd ≠ Fs := fun z => by rw [← z, eFd] at nFs; cases nFs
    have sH4 : Same H (upd H3 Od (.lst [.int ((0 : Nat) : Int)])) := Same.trans (Same.trans s02 s3) s34
    have ePl4 := s34 _ _ (s3 _ _ ePl)
    have eFd4 := s34 _ _ (s3 _ _ eFd)
    have eFs4 := s34 _ _ eFs
    generalize (upd H3 Od (.lst [.int ((0 : Nat) : Int)])) = H4 at eOd sH4 ePl4 eFd4 eFs4 ⊢
    refine ⟨.ref Pl, rfl, .ref Fs, rfl, Fs, _, ((0 : Nat) : Int), _, rfl, rfl, SqL.of eFs4, fat eFs4 wf.1, Pl, _, rfl, .inl ⟨[], phI (rep c 0), ePl4, rfl, by rw [sizeLine_eq]; show 0 < _; omega, rfl⟩, ?_⟩
    rw [rep_zero wf.1]
    have sH5 : Same H (upd H4 Pl (.dK (putK [] (phI 0) (.int 0)))) := fun b u e => by rw [upd_ne (ne_of_none e nPlH)]; exact sH4 _ _ e
    have ePl5 : (upd H4 Pl (.dK (putK [] (phI 0) (.int 0)))) Pl = some (.dK (plc phI 0 [0])) := by rw [upd_same]; rfl
    have eOd5 : (upd H4 Pl (.dK (putK [] (phI 0) (.int 0)))) Od = some (.lst (intsV [0])) := by rw [upd_ne nOP]; exact eOd
    have eFd5 : (upd H4 Pl (.dK (putK [] (phI 0) (.int 0)))) Fd = some (.lst (([] : List Addr).map V.ref)) := by rw [upd_ne nPF.symm]; exact eFd4
    have eFs5 : (upd H4 Pl (.dK (putK [] (phI 0) (.int 0)))) Fs = some (.lst ((List.range c.length).map fun i => V.int ((rep c i : Nat) : Int))) := by rw [upd_ne nPs.symm]; exact eFs4
    generalize (upd H4 Pl (.dK (putK [] (phI 0) (.int 0)))) = H5 at sH5 ePl5 eOd5 eFd5 eFs5 ⊢
    let B3 : Hp → Prop := fun H' => ∀ b o, b ≠ Od → b ≠ Pl → b ≠ Fd → H5 b = some o → H' b = some o
    have sHB : ∀ {H'}, B3 H' → Same H H' := fun B b u e => B b u (ne_of_none e nOdH) (ne_of_none e nPlH) (ne_of_none e nFdH) (sH5 _ _ e)
    have eFsB : ∀ {H'}, B3 H' → H' Fs = some (.lst ((List.range c.length).map fun i => V.int ((rep c i : Nat) : Int))) := fun B => B _ _ nOs.symm nPs.symm nFF.symm eFs5
    let W : Nat → L2.St → Hp → Prop := fun m σ H' => ∃ (n : Nat) (O : List Nat) (ds : List Addr) (rows : Ch) (r6 r7 r8 r9 r10 r11 : Option V), σ = [some (.ref F), some (.ref U), some (.ref Pl), some (.ref Fd), some (.ref Fs), some (.ref Od), r6, r7, r8, r9, r10, r11] ∧ m = c.length + 1 - n ∧ n ≤ O.length ∧ n ≤ c.length ∧ B3 H' ∧
      H' Od = some (.lst (intsV O)) ∧ H' Pl = some (.dK (plc phI 0 O)) ∧ H' Fd = some (.lst (ds.map V.ref)) ∧ NewR H5 H' Fd ds rows ∧ rows.length = n ∧ (∀ i o, i < n → O[i]? = some o → rowC rows i = rowF c (rowC c o)) ∧ O.Nodup ∧ (∀ x ∈ O, x < c.length ∧ rep c x = x) ∧ goR (quo c) (c.length + 1 - n) n O = reached (quo c)
    refine ⟨W, ⟨_, 0, [0], [], [], _, _, _, _, _, _, rfl, rfl, Nat.zero_le _, Nat.zero_le _, fun b o _ _ _ e => e, eOd5, ePl5, eFd5, ⟨rfl, fun i d q => by cases q⟩, rfl, fun i o h _ => absurd h (Nat.not_lt_zero _), by simp, fun x hx => ?_, ?_⟩, ?_⟩
    · rw [List.mem_singleton.mp hx]; exact ⟨wf.1, rep_zero wf.1⟩
    · unfold reached
      rw [quo_len]; rfl
    rintro m σ H6 ⟨n, O, ds, rows, r6, r7, r8, r9, r10, r11, rfl, rfl, hn, hn2, B, eO, eP, eF, nr, lr, er, ndO, ltO, go⟩
    have lO : O.length ≤ c.length := nodup_len ndO fun x hx => (ltO x hx).1
    have lI : (intsV O).length = O.length := by unfold intsV; rw [List.length_map]
    have lds : (ds.map V.ref).length = n := by rw [List.length_map, nr.l, lr]
    refine ⟨.ref Fd, rfl, .ref Fd, _, rfl, .inl ⟨_, SqL.of eF, rfl⟩, .ref Od, rfl, .ref Od, _, rfl, .inl ⟨_, SqL.of eO, rfl⟩, _, _, rfl, rfl, _, rfl, ?_⟩
    rw [lI, lds]
    by_cases hlt : n < O.length
    · rw [decide_eq_true (show (n : Int) < (O.length : Int) by omega)]
      refine iteT ⟨fun σ' H' => ∃ m', m' < c.length + 1 - n ∧ W m' σ' H', fun _ _ z => z, ?_⟩
      obtain ⟨o, ho⟩ : ∃ o, O[n]? = some o := ⟨_, List.getElem?_eq_getElem hlt⟩
      obtain ⟨lo, ro⟩ := ltO o (List.mem_of_getElem? ho)
      let r := rowC c o
      have okr := (rowOk ok lo).1
      have nd_r := okR_nd okr
      have r4 : r.length ≤ 4 := okR_len okr
      have rr : rowC (quo c) o = quoR c r := quo_row lo
      have go3 : goR (quo c) (c.length + 1 - (n + 1)) (n + 1) (addAll O (quoR c r)) = reached (quo c) := by
        rw [← go, show c.length + 1 - n = (c.length + 1 - (n + 1)) + 1 by omega]
        conv => rhs; unfold goR
        rw [ho]
        show _ = goR (quo c) _ (n + 1) (addAll O (rowC (quo c) o))
        rw [rr]
      have pre : ∀ j, ∃ t, reached (quo c) = addAll O (quoR c (r.take j)) ++ t := fun j => by
        obtain ⟨t1, h1⟩ := goR_pre (c := quo c) (c.length + 1 - (n + 1)) (n + 1) (addAll O (quoR c r))
        have e1 : addAll O (quoR c r) = addAll (addAll O (quoR c (r.take j))) (quoR c (r.drop j)) := by
          conv => lhs; rw [← List.take_append_drop j r]
          unfold quoR addAll
          rw [List.map_append, List.foldl_append]
        obtain ⟨t2, h2⟩ := addAll_pre (r := quoR c (r.drop j)) (addAll O (quoR c (r.take j)))
        exact ⟨t2 ++ t1, by rw [← go3, h1, e1, h2, List.append_assoc]⟩
      have tb6 := tb.same (sHB B)
      obtain ⟨a, oa, a1, a2, a3⟩ := tb6.row lo
      have aH : H a = some (.frz oa (.dK (rowK r))) := by
        obtain ⟨a', oa', b1, _, b3⟩ := tb.row lo
        rw [a1] at b1
        cases b1
        have := sHB B _ _ b3
        rw [a3] at this
        cases this
        exact b3
      refine fun R nR => ?_
      have nRO : R ≠ Od := fun z => by rw [z, eO] at nR; cases nR
      have nRP : R ≠ Pl := fun z => by rw [z, eP] at nR; cases nR
      have nRF : R ≠ Fd := fun z => by rw [z, eF] at nR; cases nR
      have nR5 : H5 R = none := by
        cases e : H5 R with
        | none => rfl
        | some u => rw [B _ _ nRO nRP nRF e] at nR; cases nR
      have nin : R ∉ ds := fun q => by
        obtain ⟨j, hj, e⟩ := List.mem_iff_getElem.mp q
        have := (nr.k j R (by rw [List.getElem?_eq_getElem hj, e])).2.2
        rw [nR] at this; cases this
      have s67 : Same H6 (upd H6 R (.dK [])) := Same.new nR
      have eR7 : (upd H6 R (.dK [])) R = some (.dK (rowK [])) := upd_same
      generalize (upd H6 R (.dK [])) = H7 at s67 eR7 ⊢
      have B7 : B3 H7 := fun b u x y z e => s67 _ _ (B b u x y z e)
      refine ⟨.ref F, rfl, .ref Od, rfl, .ref Fd, rfl, .ref Fd, _, rfl, .inl ⟨_, SqL.of (s67 _ _ eF), rfl⟩, Od, _, _, .int (o : Int), rfl, rfl, SqL.of (s67 _ _ eO), by rw [lds]; exact atI_nat (by unfold intsV; rw [List.getElem?_map, ho]; rfl), F, _, (o : Int), .ref a, rfl, rfl, SqL.of (s67 _ _ tb6.e), a2, _, _, rfl, ?_⟩
      refine ⟨.ref a, rfl, a, rowK r, keysR r, rfl, .inr ⟨oa, s67 _ _ a3⟩, rowK_keys _, by unfold keysR; rw [List.length_map]; exact Nat.lt_of_le_of_lt r4 (by decide), fun ys S pm st nS => ?_⟩
      obtain rfl := sorted_keys okr pm st
      have s78 : Same H7 (upd H7 S (.lst ((keysR r).map V.str))) := Same.new nS
      have eS : (upd H7 S (.lst ((keysR r).map V.str))) S = some (.lst ((keysR r).map V.str)) := upd_same
      have nSO : S ≠ Od := fun z => by rw [z, s67 _ _ eO] at nS; cases nS
      have nSP : S ≠ Pl := fun z => by rw [z, s67 _ _ eP] at nS; cases nS
      have nSR : S ≠ R := fun z => by rw [z, eR7] at nS; cases nS
      generalize (upd H7 S (.lst ((keysR r).map V.str))) = H8 at s78 eS ⊢
      have s68 := Same.trans s67 s78
      have keepN : ∀ {Ha Hb : Hp}, NewR H5 Ha Fd ds rows → (∀ b o, b ≠ Od → b ≠ Pl → b ≠ R → Ha b = some o → Hb b = some o) → NewR H5 Hb Fd ds rows := fun {Ha Hb} nn q => ⟨nn.l, fun i d e => by
        obtain ⟨x, y, z⟩ := nn.k i d e
        refine ⟨x, y, q _ _ (fun w => ?_) (fun w => ?_) (fun w => nin (w ▸ List.mem_of_getElem? e)) z⟩
        · rw [w, eOd5] at x; cases x
        · rw [w, ePl5] at x; cases x⟩
      have keepB : ∀ {Ha Hb : Hp}, B3 Ha → (∀ b o, b ≠ Od → b ≠ Pl → b ≠ R → Ha b = some o → Hb b = some o) → B3 Hb := fun {Ha Hb} BB q b u x y z e => q _ _ x y (fun w => by rw [w, nR5] at e; cases e) (BB b u x y z e)
      have lxs : ((keysR r).map V.str).length = r.length := by unfold keysR; rw [List.length_map, List.length_map]
      refine ⟨S, rfl, ⟨_, SqL.of eS⟩, ?_⟩
      refine for_it (w := walk_list (K := K) (a := S) (xs := (keysR r).map V.str)) (fun j σ H' => ∃ r8 r9, σ = [some (.ref F), some (.ref U), some (.ref Pl), some (.ref Fd), some (.ref Fs), some (.ref Od), some (.ref R), some (.ref a), r8, r9, r10, r11] ∧ B3 H' ∧ H' S = some (.lst ((keysR r).map V.str)) ∧ H' Od = some (.lst (intsV (addAll O (quoR c (r.take j))))) ∧ H' Pl = some (.dK (plc phI 0 (addAll O (quoR c (r.take j))))) ∧ H' Fd = some (.lst (ds.map V.ref)) ∧ NewR H5 H' Fd ds rows ∧ H' R = some (.dK (rowK (rowF c (r.take j))))) ⟨_, _, rfl, fun b u x y z e => s78 _ _ (B7 b u x y z e), eS, s68 _ _ eO, s68 _ _ eP, s68 _ _ eF, keepN nr fun b u _ _ _ e => s68 _ _ e, s78 _ _ eR7⟩ (fun i σ H' _ ⟨_, _, _, _, z, _⟩ => SqL.of z) ?_ ?_
      · rintro j x σ H' H9 hj ⟨r8, r9, rfl, B9, eS9, eO9, eP9, eF9, nr9, eR9⟩ ⟨e0, hx⟩
        subst e0
        rw [lxs] at hj
        obtain ⟨e, he⟩ : ∃ e, r[j]? = some e := ⟨_, List.getElem?_eq_getElem hj⟩
        have ex : x = V.str e.1 := by
          unfold keysR at hx
          rw [List.getElem?_map, List.getElem?_map, he] at hx
          exact (Option.some.inj hx).symm
        subst ex
        have me : e ∈ rowC c o := List.mem_of_getElem? he
        have le := rowC_lt wf me
        have nOj : addAll O (quoR c (r.take (j + 1))) = addN (addAll O (quoR c (r.take j))) (rep c e.2) := by
          have h1 : (quoR c r)[j]? = some (e.1, rep c e.2) := by unfold quoR; rw [List.getElem?_map, he]; rfl
          have := addAll_succ (o := O) h1
          have qt : ∀ i, quoR c (r.take i) = (quoR c r).take i := fun i => by unfold quoR; rw [List.map_take]
          rw [qt, qt]
          exact this
        have nj : (addAll O (quoR c (r.take j))).length ≤ c.length := nodup_len (nodup_addAll ndO) fun x hx => by
          rcases mem_addAll.mp hx with q | ⟨e', he', rfl⟩
          · exact (ltO x q).1
          · obtain ⟨e2, h2, rfl⟩ := List.mem_map.mp he'
            exact (rep_ok (rowC_lt wf (List.mem_of_mem_take h2))).1
        have dg : ∀ {Hq : Hp}, B3 Hq → DGet Hq a (.str e.1) (some (.int (e.2 : Int))) := fun BB => .inl ⟨rowK r, .inr e.1, .inr ⟨oa, sHB BB _ _ aH⟩, rfl, by rw [rowK_val, lkp_at nd_r me]; rfl⟩
        refine gN ?_
        refine ⟨.ref Fs, rfl, .ref a, rfl, .str e.1, rfl, a, .int (e.2 : Int), rfl, dg B9, Fs, _, (e.2 : Int), _, rfl, rfl, SqL.of (eFsB B9), fat (eFsB B9) le, ?_⟩
        refine gN ?_
        have fin : ∀ {Hq : Hp} {r8 r9 : Option V}, B3 Hq → Hq S = some (.lst ((keysR r).map V.str)) → Hq Od = some (.lst (intsV (addAll O (quoR c (r.take (j + 1)))))) → Hq Pl = some (.dK (plc phI 0 (addAll O (quoR c (r.take (j + 1)))))) → Hq Fd = some (.lst (ds.map V.ref)) → NewR H5 Hq Fd ds rows →
            ∃ r8' r9', [some (V.ref F), some (.ref U), some (.ref Pl), some (.ref Fd), some (.ref Fs), some (.ref Od), some (.ref R), some (.ref a), r8, r9, r10, r11] = [some (V.ref F), some (.ref U), some (.ref Pl), some (.ref Fd), some (.ref Fs), some (.ref Od), some (.ref R), some (.ref a), r8', r9', r10, r11] ∧ B3 (upd Hq R (.dK (putK (rowK (rowF c (r.take j))) (.inr e.1) (.int ((0 + ixM (addAll O (quoR c (r.take (j + 1)))) (rep c e.2) : Nat) : Int))))) ∧ (upd Hq R (.dK (putK (rowK (rowF c (r.take j))) (.inr e.1) (.int ((0 + ixM (addAll O (quoR c (r.take (j + 1)))) (rep c e.2) : Nat) : Int))))) S = some (.lst ((keysR r).map V.str)) ∧ (upd Hq R (.dK (putK (rowK (rowF c (r.take j))) (.inr e.1) (.int ((0 + ixM (addAll O (quoR c (r.take (j + 1)))) (rep c e.2) : Nat) : Int))))) Od = some (.lst (intsV (addAll O (quoR c (r.take (j + 1)))))) ∧ (upd Hq R (.dK (putK (rowK (rowF c (r.take j))) (.inr e.1) (.int ((0 + ixM (addAll O (quoR c (r.take (j + 1)))) (rep c e.2) : Nat) : Int))))) Pl = some (.dK (plc phI 0 (addAll O (quoR c (r.take (j + 1)))))) ∧ (upd Hq R (.dK (putK (rowK (rowF c (r.take j))) (.inr e.1) (.int ((0 + ixM (addAll O (quoR c (r.take (j + 1)))) (rep c e.2) : Nat) : Int))))) Fd = some (.lst (ds.map V.ref)) ∧ NewR H5 (upd Hq R (.dK (putK (rowK (rowF c (r.take j))) (.inr e.1) (.int ((0 + ixM (addAll O (quoR c (r.take (j + 1)))) (rep c e.2) : Nat) : Int))))) Fd ds rows ∧ (upd Hq R (.dK (putK (rowK (rowF c (r.take j))) (.inr e.1) (.int ((0 + ixM (addAll O (quoR c (r.take (j + 1)))) (rep c e.2) : Nat) : Int))))) R = some (.dK (rowK (rowF c (r.take (j + 1))))) := by
          intro Hq r8 r9 Bq qS qO qP qF qn
          have sq : ∀ {v : HO} (b : Addr) (u : HO), b ≠ Od → b ≠ Pl → b ≠ R → Hq b = some u → (upd Hq R v) b = some u := fun b u _ _ n e => by rw [upd_ne n]; exact e
          refine ⟨_, _, rfl, keepB Bq sq, by rw [upd_ne nSR]; exact qS, by rw [upd_ne nRO.symm]; exact qO, by rw [upd_ne nRP.symm]; exact qP, by rw [upd_ne nRF.symm]; exact qF, keepN qn sq, ?_⟩
          rw [upd_same]
          have lz : lkp (rowF c (r.take j)) e.1 = none := by
            have := lkp_map e.1 (fun t => (reached (quo c)).idxOf (rep c t)) (r.take j)
            rw [lkp_take nd_r he] at this
            exact this
          rw [rowK_put lz, Nat.zero_add]
          have mg : rep c e.2 ∈ addAll O (quoR c (r.take (j + 1))) := by rw [nOj]; exact mem_addN.mpr (.inr rfl)
          obtain ⟨t, ht⟩ := pre (j + 1)
          have ei : ixM (addAll O (quoR c (r.take (j + 1)))) (rep c e.2) = (reached (quo c)).idxOf (rep c e.2) := by
            rw [← ixM_nat, ht, idx_pre mg]
          have tk : rowF c (r.take (j + 1)) = rowF c (r.take j) ++ [(e.1, (reached (quo c)).idxOf (rep c e.2))] := by
            unfold rowF
            rw [List.take_add_one, he, Option.toList_some, List.map_append]; rfl
          rw [ei, tk]
        have lrF : (rowK (rowF c (r.take j))).length < sizeLine := by
          unfold rowF
          rw [rowK_len, List.length_map, List.length_take, sizeLine_eq]
          exact Nat.lt_of_le_of_lt (Nat.le_trans (Nat.min_le_right _ _) r4) (by decide)
        refine ⟨.int ((rep c e.2 : Nat) : Int), rfl, .ref Pl, rfl, Pl, _, rfl, .inl ⟨_, phI (rep c e.2), .inl eP9, rfl, rfl⟩, _, rfl, ?_⟩
        rw [plc_val phI_inj]
        by_cases hm : rep c e.2 ∈ addAll O (quoR c (r.take j))
        · rw [if_pos hm]
          refine iteF ?_
          have e2 : addAll O (quoR c (r.take (j + 1))) = addAll O (quoR c (r.take j)) := by
            rw [nOj]
            unfold addN
            rw [if_pos hm]
          rw [← e2] at eO9 eP9 hm
          exact ⟨.ref Pl, rfl, .int ((rep c e.2 : Nat) : Int), rfl, Pl, _, rfl, .inl ⟨_, phI (rep c e.2), .inl eP9, rfl, by rw [plc_val phI_inj, if_pos hm]⟩, .ref R, rfl, .str e.1, rfl, R, _, rfl, .inl ⟨_, .inr e.1, eR9, rfl, lrF, rfl⟩, fin B9 eS9 eO9 eP9 eF9 nr9⟩
        · rw [if_neg hm]
          refine iteT ?_
          have e2 : addAll O (quoR c (r.take (j + 1))) = addAll O (quoR c (r.take j)) ++ [rep c e.2] := by
            rw [nOj]
            unfold addN
            rw [if_neg hm]
          refine ⟨.ref Od, rfl, .ref Od, _, rfl, .inl ⟨_, SqL.of eO9, rfl⟩, .ref Pl, rfl, .int ((rep c e.2 : Nat) : Int), rfl, Pl, _, rfl, .inl ⟨_, phI (rep c e.2), eP9, rfl, by rw [plc_len, sizeLine_eq]; omega, rfl⟩, ?_⟩
          rw [plc_put phI_inj hm (by unfold intsV; rw [List.length_map])]
          have eOA : (upd H9 Pl (.dK (plc phI 0 (addAll O (quoR c (r.take j)) ++ [rep c e.2])))) Od = some (.lst (intsV (addAll O (quoR c (r.take j))))) := by rw [upd_ne nOP]; exact eO9
          refine ⟨.ref Od, rfl, .inl ⟨rfl, _, SqL.of eOA⟩, .int ((rep c e.2 : Nat) : Int), rfl, Od, _, _, rfl, rfl, eOA, by unfold intsV; rw [List.length_map, sizeLine_eq]; omega, ?_⟩
          rw [← e2]
          have sB : ∀ (b : Addr) (u : HO), b ≠ Od → b ≠ Pl → b ≠ R → H9 b = some u → (upd (upd H9 Pl (.dK (plc phI 0 (addAll O (quoR c (r.take (j + 1))))))) Od (.lst (intsV (addAll O (quoR c (r.take j))) ++ [.int ((rep c e.2 : Nat) : Int)]))) b = some u := fun b u x y _ q => by rw [upd_ne x, upd_ne y]; exact q
          have eOB : (upd (upd H9 Pl (.dK (plc phI 0 (addAll O (quoR c (r.take (j + 1))))))) Od (.lst (intsV (addAll O (quoR c (r.take j))) ++ [.int ((rep c e.2 : Nat) : Int)]))) Od = some (.lst (intsV (addAll O (quoR c (r.take (j + 1)))))) := by
            rw [upd_same, e2]
            unfold intsV
            rw [List.map_append]; rfl
          have ePB : (upd (upd H9 Pl (.dK (plc phI 0 (addAll O (quoR c (r.take (j + 1))))))) Od (.lst (intsV (addAll O (quoR c (r.take j))) ++ [.int ((rep c e.2 : Nat) : Int)]))) Pl = some (.dK (plc phI 0 (addAll O (quoR c (r.take (j + 1)))))) := by
            rw [upd_ne nOP.symm, upd_same]
          have B10 := keepB B9 sB
          have eS10 := sB _ _ nSO nSP nSR eS9
          have eF10 := sB _ _ nOF.symm nPF.symm nRF.symm eF9
          have nr10 := keepN nr9 sB
          have eR10 : (upd (upd H9 Pl (.dK (plc phI 0 (addAll O (quoR c (r.take (j + 1))))))) Od (.lst (intsV (addAll O (quoR c (r.take j))) ++ [.int ((rep c e.2 : Nat) : Int)]))) R = some (.dK (rowK (rowF c (r.take j)))) := by rw [upd_ne nRO, upd_ne nRP]; exact eR9
          have hm2 : rep c e.2 ∈ addAll O (quoR c (r.take (j + 1))) := by rw [nOj]; exact mem_addN.mpr (.inr rfl)
          exact ⟨.ref Pl, rfl, .int ((rep c e.2 : Nat) : Int), rfl, Pl, _, rfl, .inl ⟨_, phI (rep c e.2), .inl ePB, rfl, by rw [plc_val phI_inj, if_pos hm2]⟩, .ref R, rfl, .str e.1, rfl, R, _, rfl, .inl ⟨_, .inr e.1, eR10, rfl, lrF, rfl⟩, fin B10 eS10 eOB ePB eF10 nr10⟩
      · rintro σ H9 ⟨r8, r9, rfl, B9, eS9, eO9, eP9, eF9, nr9, eR9⟩
        rw [lxs, List.take_length] at eO9 eP9 eR9
        obtain ⟨t, ht⟩ := addAll_pre (r := quoR c r) O
        have n1 : O.length ≤ (addAll O (quoR c r)).length := by rw [ht, List.length_append]; omega
        refine ⟨.ref Fd, rfl, .inl ⟨rfl, _, SqL.of eF9⟩, .ref R, rfl, Fd, _, _, rfl, rfl, eF9, by rw [lds, sizeLine_eq]; omega, c.length + 1 - (n + 1), by omega, n + 1, addAll O (quoR c r), ds ++ [R], rows ++ [rowF c r], _, _, _, _, _, _, rfl, rfl, by omega, by omega, fun b u x y z e => by rw [upd_ne z]; exact B9 b u x y z e, by rw [upd_ne nOF]; exact eO9, by rw [upd_ne nPF]; exact eP9, by rw [upd_same, List.map_append]; rfl, ?_, by rw [List.length_append, lr]; rfl, fun i o' hi ho' => ?_, nodup_addAll ndO, fun x hx => ?_, go3⟩
        · refine (nr9.add nR5 nRF eR9).keep fun b kvs _ nb e => ?_
          rw [upd_ne nb]; exact e
        · by_cases q : i < n
          · rw [rowC_app (by rw [lr]; exact q)]
            refine er i o' q ?_
            rw [ht, List.getElem?_append_left (by omega)] at ho'
            exact ho'
          · have : i = n := by omega
            subst this
            rw [ht, List.getElem?_append_left (by omega), ho] at ho'
            cases ho'
            have := rowC_lst (c := rows) (r := rowF c r)
            rw [lr] at this
            exact this
        · rcases mem_addAll.mp hx with q | ⟨e', he', rfl⟩
          · exact ltO x q
          · obtain ⟨e2, h2, rfl⟩ := List.mem_map.mp he'
            have l2 := rowC_lt wf h2
            exact ⟨(rep_ok l2).1, rep_rep l2⟩
    · rw [decide_eq_false (show ¬ (n : Int) < (O.length : Int) by omega)]
      refine iteF ?_
      have en : n = O.length := by omega
      have go2 : O = reached (quo c) := by
        rw [← go, show c.length + 1 - n = (c.length - n) + 1 by omega]
        unfold goR
        rw [List.getElem?_eq_none (by omega)]
      have cl2 : (chart c).length = n := by rw [chart_len, ← go2, en]
      refine ⟨.ref Fd, rfl, fun b => H5 b = none, fun H7 LP => ?_⟩
      have nt : NewT H5 H6 Fd (chart c) := ⟨ds, eF, by rw [nr.l, lr, cl2], fun i d q => by
        obtain ⟨x, _, z⟩ := nr.k i d q
        have hi : i < n := by
          have := (List.getElem?_eq_some_iff.mp q).1
          rw [nr.l, lr] at this
          exact this
        obtain ⟨i', e1, e2, e3⟩ := chart_row wf (k := i) (by rw [cl2]; exact hi)
        rw [← go2] at e1
        have er' := er i i' hi e1
        rw [z, er', e3]
        exact ⟨x, rfl⟩⟩
      obtain ⟨ls', tb7⟩ := nt.lock LP
      have sH7 : Same H H7 := fun b u e => by
        rw [(LP b).2 (.inl (show ¬ (H5 b = none) by rw [sH5 _ _ e]; simp))]
        exact sHB B _ _ e
      exact k Fd ls' H7 sH7 nFdH tb7
end
end K20
end

section
set_option maxHeartbeats 4000000
/-! walks -/
namespace K20
open PySem PySem.Spec PyProof.Rows L2
theorem sum_ones {α : Type} : ∀ l : List α, (l.map fun _ => 1).sum = l.length
  | [] => rfl
  | x :: l => by
    rw [List.map_cons, List.sum_cons, sum_ones l, List.length_cons]; omega
theorem sum_take {f : Nat → Nat} {l : List Nat} {j g : Nat} (h : l[j]? = some g) : ((l.take (j + 1)).map f).sum = ((l.take j).map f).sum + f g := by
  rw [List.take_add_one, h, Option.toList_some, List.map_append, List.sum_append]
  simp
theorem sgs_one : ∀ z ∈ sgs, z.length = 1 := by decide +kernel
/-- walks at D: their ends gs -/
def WkAt (H : Hp) (D : Addr) (i : Nat) (gs : List Nat) : Prop := ∃ ts : List Addr, H D = some (.lst (ts.map V.ref)) ∧ ts.length = gs.length ∧ ∀ (j : Nat) (t : Addr), ts[j]? = some t → ∃ x : Str, H t = some (.tup [.str x, .int ((gs.getD j 0 : Nat) : Int)]) ∧ x.length ≤ i
theorem WkAt.but {H H' : Hp} {D L : Addr} {i : Nat} {gs : List Nat} {xs : List V} (h : WkAt H D i gs) (n : D ≠ L) (eL : H L = some (.lst xs)) (b : But L H H') : WkAt H' D i gs := by
  obtain ⟨ts, e, l, k⟩ := h
  refine ⟨ts, b _ _ n e, l, fun j t ht => ?_⟩
  obtain ⟨x, h1, h2⟩ := k j t ht
  exact ⟨x, b _ _ (fun z => by rw [z, eL] at h1; cases h1) h1, h2⟩
def spWalks : Sp := fun vs H Q _ => ∃ (F : Addr) (ls : List Addr) (c : Ch) (w span spot : Nat), vs = [.ref F, .int (span : Int), .int (spot : Int)] ∧ TbF H F ls c ∧ WfC c ∧ okT w c ∧ c.length ≤ 64 ∧ span ≤ 6 ∧ spot < c.length ∧
  ∀ (D : Addr) (ts : List V) (H' : Hp), Same H H' → H D = none → H' D = some (.lst ts) → ts.length = cnt c span spot → Q (.ref D) H'
section
variable {P : Program} {w : World} {K : PySem.W.Frag} {mg : Str → Option Value} {base : Heap} {ad : Str → Addr} {fd : Str → FuncData}
theorem scWalks : FnScope ["_law_chart", "_law_span", "_law_spot", "_law_found", "_law_turn", "_law_longer", "_law_row", "_law_here", "_law_sign"] ["_law_chart", "_law_span", "_law_spot"] (defScope sWalks) := ⟨rfl, rfl, rfl, by decide +kernel, rfl, by decide +kernel, by decide +kernel⟩
theorem ok_walks (X : Tx K mg ad fd) : FnOk P w K mg base CX0 1 (ad "_law_walks") (fd "_law_walks") ["_law_chart", "_law_span", "_law_spot"] spWalks := by
  refine X.F__law_walks.ok scWalks (fun vs H Q E h => ?_) (fun cdv A outer s H vs Q E hr h => ?_)
  · obtain ⟨F, ls, c, w, span, spot, rfl, tb, wf, ok, cl, l6, hs, k⟩ := h
    rfl
  · obtain ⟨F, ls, c, w, span, spot, rfl, tb, wf, ok, cl, l6, hs, k⟩ := h
    have HU : (A.deeper (envOfC "_law_walks" (defScope sWalks) s.heap.objs.size (ad "_law_walks") cdv)).units + 1 < cLine := by have := hr.un; omega
    refine ⟨_, (pss_cons (ps_set (i := 3) scWalks.nd rfl (.inl rfl) (by exact (pe_lst (pa_cons (pe_tup (pa_cons pe_str (pa_cons (pv 2) pa_nil))) pa_nil))))
  (pss_cons (ps_for PassesOwn.never rfl (pi_range1 (by rfl) X.m_range (pa_cons (pv 1) pa_nil)) (pg_name (i := 4) scWalks.nd rfl (.inl rfl))
  (pss_cons (ps_set (i := 5) scWalks.nd rfl (.inl rfl) (by exact (pe_lst pa_nil)))
  (pss_cons (ps_for PassesOwn.never rfl (pi_list (pv 3)) (pg_tup rfl (pgs_cons (pg_name (i := 6) scWalks.nd rfl (.inr rfl)) (pgs_cons (pg_name (i := 7) scWalks.nd rfl (.inr rfl)) pgs_nil)))
  (pss_one (ps_expr (by exact (pe_bm PySem.F.plainAttrs_list PySem.F.slot_list_extend PySem.F.type_list_extend mt_extend (pv 5) (pa_cons (pe_lc (own := [("_law_sign", 8)]) (g := gName 8) rfl scWalks.nd (pi_listK (K := K) rfl (pe_callB (call_sortedD rfl) (by rfl) X.m_sorted (by decide +kernel) (pa_cons (pe_ix (ix_listK (K := K) rfl) (pv 0) (pv 7) (fun _ _ => rfl)) pa_nil))) (blkOk_by (own := [("_law_sign", 8)]) (N := ["_law_chart", "_law_span", "_law_spot", "_law_found", "_law_turn", "_law_longer", "_law_row", "_law_here", "_law_sign"]) (sc := defScope sWalks) (by decide +kernel)) (fun _ _ _ _ _ => pg_name (i := 8) scWalks.nd rfl (Or.inl rfl)) (fun _ _ _ _ _ => pts_nil) (fun _ _ _ _ _ => (pe_tup (pa_cons (pe_op op_add_str (pv 6) (pv 8)) (pa_cons (pe_dget HU (pe_ix (ix_listK (K := K) rfl) (pv 0) (pv 7) (fun _ _ => rfl)) (pv 8) (fun _ _ => rfl)) pa_nil))))) pa_nil))))))
  (pss_one (ps_set (i := 3) scWalks.nd rfl (.inl rfl) (by exact (pv 5)))))))
  (pss_one (ps_ret (by exact (pv 3)))))), ?_⟩
    refine ⟨.int (spot : Int), rfl, sz2, fun T nT => ⟨sz1, fun D nD => ?_⟩⟩
    refine gN ?_
    have nDH : H D = none := none_back (Same.new nT) nD
    have sH : Same H (upd (upd H T (.tup [.str "", .int (spot : Int)])) D (.lst [.ref T])) := Same.trans (Same.new nT) (Same.new nD)
    have wk : WkAt (upd (upd H T (.tup [.str "", .int (spot : Int)])) D (.lst [.ref T])) D 0 [spot] := by
      refine ⟨[T], upd_same, rfl, fun j t ht => ?_⟩
      cases j with
      | zero =>
        cases ht
        exact ⟨"", Same.new nD _ _ upd_same, Nat.le_refl _⟩
      | succ j => cases ht
    generalize (upd (upd H T (.tup [.str "", .int (spot : Int)])) D (.lst [.ref T])) = H1 at sH wk ⊢
    refine ⟨.int (span : Int), rfl, (span : Int), rfl, by omega, by omega, ?_⟩
    refine for_range (lo := 0) (n := ((span : Int)).toNat) (fun i σ H' => ∃ (D : Addr) (gs : List Nat) (r4 r5 r6 r7 r8 : Option V), σ = [some (.ref F), some (.int (span : Int)), some (.int (spot : Int)), some (.ref D), r4, r5, r6, r7, r8] ∧ Same H H' ∧ H D = none ∧ WkAt H' D i gs ∧ gs.length ≤ 4 ^ i ∧ (∀ g ∈ gs, g < c.length) ∧ (gs.map (cnt c (span - i))).sum = cnt c span spot) ⟨D, [spot], _, _, _, _, _, rfl, sH, nDH, wk, Nat.le_refl _, (fun g hg => by rw [List.mem_singleton.mp hg]; exact hs), by simp⟩ ?_ ?_
    · rintro i σ H2 hi ⟨D, gs, r4, r5, r6, r7, r8, rfl, s2, nD, wk, gl, glt, sm⟩
      rw [Int.toNat_natCast] at hi
      refine gN ?_
      refine ⟨(by show 0 ≤ sizeLine; omega), fun L nL => ?_⟩
      refine gN ?_
      have nLH : H L = none := none_back s2 nL
      obtain ⟨ts, eD, lt, kt⟩ := id wk
      have nDL : D ≠ L := ne_of_none eD nL
      have s3 : Same H2 (upd H2 L (.lst [])) := Same.new nL
      have eL : (upd H2 L (.lst [])) L = some (.lst (([] : List Addr).map V.ref)) := upd_same
      have sH3 := Same.trans s2 s3
      have eD3 := s3 _ _ eD
      have kt3 : ∀ (j : Nat) (t : Addr), ts[j]? = some t → ∃ x : Str, (upd H2 L (.lst [])) t = some (.tup [.str x, .int ((gs.getD j 0 : Nat) : Int)]) ∧ x.length ≤ i := fun j t ht => let ⟨x, a, b⟩ := kt j t ht; ⟨x, s3 _ _ a, b⟩
      generalize (upd H2 L (.lst [])) = H3 at s3 eL sH3 eD3 kt3 ⊢
      have p4 : 4 ^ i ≤ 1024 := Nat.le_trans (Nat.pow_le_pow_right (by decide) (show i ≤ 5 by omega)) (by decide)
      refine ⟨.ref D, rfl, D, rfl, ⟨_, SqL.of eD3⟩, ?_⟩
      refine for_it (w := walk_list (K := K) (a := D) (xs := ts.map V.ref)) (fun j σ H' => ∃ (us : List Addr) (hs : List Nat) (r6 r7 r8 : Option V), σ = [some (.ref F), some (.int (span : Int)), some (.int (spot : Int)), some (.ref D), some (.int (0 + (i : Int))), some (.ref L), r6, r7, r8] ∧ But L H3 H' ∧ H' L = some (.lst (us.map V.ref)) ∧ us.length = hs.length ∧ (∀ (m : Nat) (t : Addr), us[m]? = some t → ∃ x : Str, H' t = some (.tup [.str x, .int ((hs.getD m 0 : Nat) : Int)]) ∧ x.length ≤ i + 1) ∧ hs.length ≤ 4 * j ∧ (∀ g ∈ hs, g < c.length) ∧ (hs.map (cnt c (span - (i + 1)))).sum = ((gs.take j).map (cnt c (span - i))).sum) ⟨[], [], _, _, _, rfl, But.rfl, eL, rfl, (fun m t h => by cases h), Nat.zero_le _, (fun g h => by cases h), rfl⟩ (fun j σ H' _ ⟨_, _, _, _, _, _, b, _⟩ => SqL.of (b _ _ nDL eD3)) ?_ ?_
      · rintro j x σ H' H4 hj ⟨us, hs, r6, r7, r8, rfl, b4, eL4, lu, ku, h4, hlt, sm4⟩ ⟨e0, hx⟩
        subst e0
        rw [List.length_map] at hj
        obtain ⟨t, ht⟩ : ∃ t, ts[j]? = some t := ⟨_, List.getElem?_eq_getElem hj⟩
        rw [List.getElem?_map, ht] at hx
        cases hx
        obtain ⟨x, ht3, xl⟩ := kt3 j t ht
        have nLt : t ≠ L := fun z => by rw [z, eL] at ht3; cases ht3
        have ht4 := b4 _ _ nLt ht3
        have hg : gs[j]? = some (gs.getD j 0) := by
          rw [List.getD_eq_getElem?_getD, List.getElem?_eq_getElem (by omega)]; rfl
        have lg := glt _ (List.mem_of_getElem? hg)
        generalize gs.getD j 0 = g at ht3 ht4 hg lg
        have tb4 : TbF H4 F ls c := by
          have t3 := tb.same sH3
          refine ⟨b4 _ _ (fun z => by have := tb.e; rw [z, nLH] at this; cases this) t3.e, tb.l, fun i a q => ?_⟩
          obtain ⟨o, e⟩ := t3.k i a q
          exact ⟨o, b4 _ _ (fun z => by rw [z, eL] at e; cases e) e⟩
        obtain ⟨a, oa, a1, a2, a3⟩ := tb4.row lg
        have okr := (rowOk ok lg).1
        have nd := okR_nd okr
        have r4' : (rowC c g).length ≤ 4 := okR_len okr
        refine ⟨t, _, rfl, SqT.of ht4, rfl, _, _, rfl, _, _, rfl, rfl, ?_⟩
        refine ⟨.ref L, rfl, .inl ⟨rfl, _, SqL.of eL4⟩, ?_⟩
        refine ⟨.ref F, rfl, .int (g : Int), rfl, F, _, (g : Int), .ref a, rfl, rfl, SqL.of tb4.e, a2, a, rowK (rowC c g), keysR (rowC c g), rfl, .inr ⟨oa, a3⟩, rowK_keys _, by unfold keysR; rw [List.length_map]; omega, fun ys S pm st nS => ?_⟩
        obtain rfl := sorted_keys okr pm st
        have s45 : Same H4 (upd H4 S (.lst ((keysR (rowC c g)).map V.str))) := Same.new nS
        have eS : (upd H4 S (.lst ((keysR (rowC c g)).map V.str))) S = some (.lst ((keysR (rowC c g)).map V.str)) := upd_same
        generalize (upd H4 S (.lst ((keysR (rowC c g)).map V.str))) = H5 at s45 eS ⊢
        have lxs : ((keysR (rowC c g)).map V.str).length = (rowC c g).length := by unfold keysR; rw [List.length_map, List.length_map]
        refine ⟨S, rfl, ⟨_, SqL.of eS⟩, fun C nC => ?_⟩
        have nCL : C ≠ L := fun z => by rw [z, s45 _ _ eL4] at nC; cases nC
        refine lc_rel (w := walk_list (K := K) (a := S) (xs := (keysR (rowC c g)).map V.str)) (fun m v H' => ∃ (t : Addr) (y : Str), v = .ref t ∧ t ≠ C ∧ H' t = some (.tup [.str y, .int ((((rowC c g).getD m ("", 0)).2 : Nat) : Int)]) ∧ y.length ≤ i + 1) nC (by rw [lxs]; omega) (fun i H' _ s => SqL.of (s _ _ eS)) (fun i v H' H6 up ⟨t, y, e1, e2, e3, e4⟩ => ⟨t, y, e1, e2, up _ _ e2 e3, e4⟩) (fun m x' H' H6 hm s ⟨acc, eC⟩ ⟨e0, hx⟩ Nx hN => ?_) (mn_name _) (fun H6 zs s eC lz R => ?_)
        · subst e0
          rw [lxs] at hm
          obtain ⟨e, he⟩ : ∃ e, (rowC c g)[m]? = some e := ⟨_, List.getElem?_eq_getElem hm⟩
          have ex : x' = V.str e.1 := by
            unfold keysR at hx
            rw [List.getElem?_map, List.getElem?_map, he] at hx
            exact (Option.some.inj hx).symm
          subst ex
          have me : e ∈ rowC c g := List.mem_of_getElem? he
          have s46 := Same.trans s45 s
          have z1 : e.1.length = 1 := sgs_one _ (List.mem_of_mem_take (okR_in okr (List.mem_map_of_mem (f := fun e : Str × Nat => e.1) me)))
          refine gN ⟨rfl, ?_⟩
          refine ⟨.str x, rfl, .str e.1, rfl, x, e.1, rfl, rfl, by rw [z1, sizeLine_eq]; omega, .ref F, rfl, .int (g : Int), rfl, F, _, (g : Int), .ref a, rfl, rfl, SqL.of (s46 _ _ tb4.e), a2, .str e.1, rfl, a, .int (e.2 : Int), rfl, .inl ⟨rowK (rowC c g), .inr e.1, .inr ⟨oa, s46 _ _ a3⟩, rfl, by rw [rowK_val, lkp_at nd me]; rfl⟩, sz2, fun T2 nT2 => hN _ _ (Same.new nT2) ⟨T2, x ++ e.1, rfl, fun z => ?_, ?_, by rw [Str.length_append, z1]; omega⟩⟩
          · rw [z, eC] at nT2
            cases nT2
          · rw [upd_same, List.getD_eq_getElem?_getD, he]; rfl
        · have s46 := Same.trans s45 s
          obtain ⟨vs, rfl, hvs⟩ := refs_of (R := fun m t => ∃ y : Str, H6 t = some (.tup [.str y, .int ((((rowC c g).getD m ("", 0)).2 : Nat) : Int)]) ∧ y.length ≤ i + 1) fun m z hz => let ⟨t, y, e1, _, e3, e4⟩ := R m z hz; ⟨t, e1, y, e3, e4⟩
          have lv : vs.length = (rowC c g).length := by rw [← List.length_map (f := V.ref), lz, lxs]
          have eL6 := s46 _ _ eL4
          refine ⟨L, C, _, _, rfl, rfl, eL6, eC, by rw [List.length_map, List.length_map, lu, lv, sizeLine_eq]; rw [lt] at hj; omega, ?_⟩
          have bL : But L H6 (upd H6 L (.lst (us.map V.ref ++ vs.map V.ref))) := But.upd
          have hgets : ∀ m, m < (rowC c g).length → (hs ++ (rowC c g).map fun e => e.2).getD (hs.length + m) 0 = ((rowC c g).getD m ("", 0)).2 := fun m hm => by
            rw [List.getD_eq_getElem?_getD, List.getElem?_append_right (by omega), show hs.length + m - hs.length = m by omega, List.getElem?_map, List.getD_eq_getElem?_getD, List.getElem?_eq_getElem hm]; rfl
          refine ⟨us ++ vs, hs ++ (rowC c g).map fun e => e.2, _, _, _, rfl, (b4.trans (But.same s46)).trans bL, by rw [upd_same, List.map_append], by rw [List.length_append, List.length_append, List.length_map, lu, lv], fun m t hm => ?_, by rw [List.length_append, List.length_map]; omega, fun y hy => ?_, ?_⟩
          · by_cases q : m < us.length
            · rw [List.getElem?_append_left q] at hm
              obtain ⟨y, y1, y2⟩ := ku m t hm
              refine ⟨y, ?_, y2⟩
              rw [List.getD_eq_getElem?_getD, List.getElem?_append_left (by omega), ← List.getD_eq_getElem?_getD]
              exact bL _ _ (fun z => by rw [z, eL4] at y1; cases y1) (s46 _ _ y1)
            · rw [List.getElem?_append_right (by omega)] at hm
              obtain ⟨y, y1, y2⟩ := hvs _ t hm
              have hlm := (List.getElem?_eq_some_iff.mp hm).1
              refine ⟨y, ?_, y2⟩
              have := hgets (m - us.length) (by omega)
              rw [show hs.length + (m - us.length) = m by omega] at this
              rw [this]
              exact bL _ _ (fun z => by rw [z, eL6] at y1; cases y1) y1
          · rcases List.mem_append.mp hy with q | q
            · exact hlt y q
            · obtain ⟨e, he, rfl⟩ := List.mem_map.mp q
              exact rowC_lt wf he
          · rw [List.map_append, List.sum_append, sm4, sum_take hg, List.map_map]
            congr 1
            rw [show span - i = (span - (i + 1)) + 1 by omega]
            rfl
      · rintro σ H4 ⟨us, hs, r6, r7, r8, rfl, b4, eL4, lu, ku, h4, hlt, sm4⟩
        rw [List.length_map, lt] at h4 sm4
        rw [List.take_length, sm] at sm4
        refine ⟨.ref L, rfl, L, hs, _, _, _, _, _, rfl, fun b u e => b4 _ _ (ne_of_none e nLH) (sH3 _ _ e), nLH, ⟨us, eL4, lu, ku⟩, ?_, hlt, sm4⟩
        rw [Nat.pow_succ]
        omega
    · rintro σ H2 ⟨D, gs, r4, r5, r6, r7, r8, rfl, s2, nD, ⟨ts, eD, lt, kt⟩, gl, glt, sm⟩
      rw [Int.toNat_natCast, Nat.sub_self] at sm
      refine ⟨.ref D, rfl, k D _ H2 s2 nD eD ?_⟩
      rw [List.length_map, lt, ← sm]
      exact (sum_ones gs).symm
end
end K20
end

section
set_option maxHeartbeats 4000000
/-! counts by the law -/
namespace K20
open PySem PySem.Spec PyProof.Rows L2
theorem sum_cast {α : Type} (f : α → Nat) : ∀ l : List α, (l.map fun e => ((f e : Nat) : Int)).sum = (((l.map f).sum : Nat) : Int)
  | [] => rfl
  | x :: l => by
    rw [List.map_cons, List.sum_cons, sum_cast f l, List.map_cons, List.sum_cons]
    omega
def cntV (c : Ch) (k : Nat) : List V := (List.range c.length).map fun s => V.int ((cnt c k s : Nat) : Int)
def spCounts : Sp := fun vs H Q _ => ∃ (F : Addr) (ls : List Addr) (c : Ch) (w span : Nat), vs = [.ref F, .int (span : Int)] ∧ TbF H F ls c ∧ WfC c ∧ okT w c ∧ c.length ≤ 64 ∧ span ≤ 400 ∧
  ∀ (D L : Addr) (xs : List V) (H' : Hp), Same H H' → H D = none → H' D = some (.lst (xs ++ [.ref L])) → H' L = some (.lst (cntV c span)) → Q (.ref D) H'
section
variable {P : Program} {w : World} {K : PySem.W.Frag} {mg : Str → Option Value} {base : Heap} {ad : Str → Addr} {fd : Str → FuncData}
theorem scCounts : FnScope ["_law_chart", "_law_span", "_law_found", "_law_turn", "_law_last", "_law_row", "_law_goal"] ["_law_chart", "_law_span"] (defScope sCounts) := ⟨rfl, rfl, rfl, by decide +kernel, rfl, by decide +kernel, by decide +kernel⟩
theorem ok_counts (X : Tx K mg ad fd) : FnOk P w K mg base CX0 1 (ad "_law_counts") (fd "_law_counts") ["_law_chart", "_law_span"] spCounts := by
  refine X.F__law_counts.ok scCounts (fun vs H Q E h => ?_) (fun cdv A outer s H vs Q E hr h => ?_)
  · obtain ⟨F, ls, c, w, span, rfl, tb, wf, ok, cl, l4, k⟩ := h
    rfl
  · obtain ⟨F, ls, c, w, span, rfl, tb, wf, ok, cl, l4, k⟩ := h
    refine ⟨_, (pss_cons (ps_set (i := 2) scCounts.nd rfl (.inl rfl) (by exact (pe_lst (pa_cons (pe_op op_rep (pe_lst (pa_cons pe_int pa_nil)) (pe_callB (call_lenK (K := K) rfl) (by rfl) X.m_len (by decide +kernel) (pa_cons (pv 0) pa_nil))) pa_nil))))
  (pss_cons (ps_for PassesOwn.never rfl (pi_range1 (by rfl) X.m_range (pa_cons (pv 1) pa_nil)) (pg_name (i := 3) scCounts.nd rfl (.inl rfl))
  (pss_cons (ps_set (i := 4) scCounts.nd rfl (.inr rfl) (by exact (pe_ix (ix_listK (K := K) rfl) (pv 2) (pe_un un_neg pe_int) (fun _ _ => rfl))))
  (pss_one (ps_expr (by exact (pe_bm PySem.F.plainAttrs_list PySem.F.slot_list_append PySem.F.type_list_append mt_append (pv 2) (pa_cons (pe_lc (own := [("_law_row", 5)]) (g := gName 5) rfl scCounts.nd (pi_listK (K := K) rfl (pv 0)) (blkOk_by (own := [("_law_row", 5)]) (N := ["_law_chart", "_law_span", "_law_found", "_law_turn", "_law_last", "_law_row", "_law_goal"]) (sc := defScope sCounts) (by decide +kernel)) (fun _ _ _ _ _ => pg_name (i := 5) scCounts.nd rfl (Or.inl rfl)) (fun _ _ _ _ _ => pts_nil) (fun _ _ _ _ _ => (pe_callB (cr_sumK (K := K) rfl) (by rfl) X.m_sum (by decide +kernel) (pa_cons (pe_lc (own := [("_law_goal", 6)]) (g := gName 6) rfl scCounts.nd (pi_values (pv 5)) (blkOk_by (own := [("_law_goal", 6)]) (N := ["_law_chart", "_law_span", "_law_found", "_law_turn", "_law_last", "_law_row", "_law_goal"]) (by kernel_rfl)) (fun _ _ _ _ _ => pg_name (i := 6) scCounts.nd rfl (Or.inl rfl)) (fun _ _ _ _ _ => pts_nil) (fun _ _ _ _ _ => (pe_ix (ix_listK (K := K) rfl) (pv 4) (pv 6) (fun _ _ => rfl)))) pa_nil)))) pa_nil)))))))
  (pss_one (ps_ret (by exact (pv 2)))))), ?_⟩
    have ll : (ls.map V.ref).length = c.length := by rw [List.length_map, tb.l]
    refine ⟨sz1, fun O nO => ?_⟩
    have tb1 := tb.same (Same.new nO (o := .lst [.int 1]))
    refine ⟨.ref F, rfl, .ref F, _, rfl, .inl ⟨_, SqL.of tb1.e, rfl⟩, O, _, _, rfl, rfl, upd_same, by omega, by rw [ll]; omega, by rw [ll, sizeLine_eq]; show 1 * _ ≤ _; omega, fun L nL => ⟨sz1, fun D nD => ?_⟩⟩
    refine gN ?_
    have nDH : H D = none := none_back (Same.trans (Same.new nO) (Same.new nL)) nD
    have rp : (List.replicate ((((ls.map V.ref).length : Nat) : Int)).toNat [V.int 1]).flatten = cntV c 0 := by
      rw [ll, Int.toNat_natCast]
      unfold cntV
      show _ = (List.range c.length).map fun _ => V.int 1
      rw [List.map_const', List.length_range]
      simp
    have eL : (upd (upd (upd H O (.lst [.int 1])) L (.lst (List.replicate ((((ls.map V.ref).length : Nat) : Int)).toNat [V.int 1]).flatten)) D (.lst [.ref L])) L = some (.lst (cntV c 0)) := Same.new nD _ _ (by rw [upd_same, rp])
    have sH : Same H (upd (upd (upd H O (.lst [.int 1])) L (.lst (List.replicate ((((ls.map V.ref).length : Nat) : Int)).toNat [V.int 1]).flatten)) D (.lst [.ref L])) := Same.trans (Same.new nO) (Same.trans (Same.new nL) (Same.new nD))
    have eD : (upd (upd (upd H O (.lst [.int 1])) L (.lst (List.replicate ((((ls.map V.ref).length : Nat) : Int)).toNat [V.int 1]).flatten)) D (.lst [.ref L])) D = some (.lst ([] ++ [.ref L])) := upd_same
    generalize (upd (upd (upd H O (.lst [.int 1])) L (.lst (List.replicate ((((ls.map V.ref).length : Nat) : Int)).toNat [V.int 1]).flatten)) D (.lst [.ref L])) = H1 at eL sH eD ⊢
    refine ⟨.int (span : Int), rfl, (span : Int), rfl, by omega, by omega, ?_⟩
    refine for_range (lo := 0) (n := ((span : Int)).toNat) (fun i σ H' => ∃ (L : Addr) (xs : List V) (r3 r4 r5 r6 : Option V), σ = [some (.ref F), some (.int (span : Int)), some (.ref D), r3, r4, r5, r6] ∧ Same H H' ∧ H' D = some (.lst (xs ++ [.ref L])) ∧ xs.length = i ∧ H' L = some (.lst (cntV c i))) ⟨L, [], _, _, _, _, rfl, sH, eD, rfl, eL⟩ ?_ ?_
    · rintro i σ H2 hi ⟨L, xs, r3, r4, r5, r6, rfl, s2, eD2, lx, eL2⟩
      rw [Int.toNat_natCast] at hi
      refine gN ?_
      refine ⟨.ref D, rfl, 1, rfl, D, _, (-1 : Int), .ref L, rfl, rfl, SqL.of eD2, atI_last _ _, ?_⟩
      refine gN ?_
      have tb2 := tb.same s2
      have nLD : L ≠ D := fun z => by
        rw [z, eD2] at eL2
        have := HO.lst.inj (Option.some.inj eL2)
        have e : (xs ++ [V.ref L])[i]? = (cntV c i)[i]? := by rw [this]
        rw [List.getElem?_append_right (by omega), lx, Nat.sub_self] at e
        unfold cntV at e
        rw [List.getElem?_map] at e
        cases q : (List.range c.length)[i]? with
        | none => rw [q] at e; cases e
        | some y => rw [q] at e; cases e
      refine ⟨.ref D, rfl, .inl ⟨rfl, _, SqL.of eD2⟩, ?_⟩
      refine ⟨.ref F, rfl, F, rfl, ⟨_, SqL.of tb2.e⟩, fun M nM => ?_⟩
      refine lc_map (w := walk_list (K := K) (a := F) (xs := ls.map V.ref)) (fun s => V.int ((cnt c (i + 1) s : Nat) : Int)) nM (by rw [ll]; omega) (fun i Hc _ sc => SqL.of (sc _ _ tb2.e)) (fun _ => rfl) (fun s x Hc Hd hsl sc y => ?_) (fun H3 s3 eM => ?_)
      · obtain ⟨rfl, hx⟩ := y
        rw [ll] at hsl
        obtain ⟨a, oa, a1, _, a3⟩ := tb2.row hsl
        rw [List.getElem?_map, a1] at hx
        cases hx
        refine ⟨Same.refl, fun Q' hQ => ?_⟩
        have ha := sc _ _ a3
        have r4' : (rowC c s).length ≤ 4 := okR_len (rowOk ok hsl).1
        refine ⟨.ref a, rfl, a, oa, _, rfl, ha, fun D2 hD2 => ?_⟩
        refine lc_map (w := walk_values (d := a) (o := oa) (kvs := rowK (rowC c s))) (fun j => V.int ((cnt c i ((rowC c s).getD j ("", 0)).2 : Nat) : Int)) hD2 (by rw [rowK_len]; omega) (fun j Hc _ sc2 => sc2 _ _ ha) (fun _ => rfl) (fun j x Hc Hd hj sc2 y => ?_) (fun H4 s4 eD4 => ?_)
        · obtain ⟨rfl, k', hk⟩ := y
          obtain ⟨e, he, rfl, rfl⟩ : ∃ e, (rowC c s)[j]? = some e ∧ k' = .inr e.1 ∧ x = .int (e.2 : Int) := by
            unfold rowK at hk
            rw [List.getElem?_map] at hk
            cases er : (rowC c s)[j]? with
            | none => rw [er] at hk; cases hk
            | some e =>
              rw [er] at hk
              cases hk
              exact ⟨e, rfl, rfl, rfl⟩
          have le := rowC_lt wf (List.mem_of_getElem? he)
          refine ⟨Same.refl, fun Q2 hQ2 => ?_⟩
          refine ⟨.ref L, rfl, .int (e.2 : Int), rfl, L, _, (e.2 : Int), .int ((cnt c i e.2 : Nat) : Int), rfl, rfl, SqL.of (sc2 _ _ (sc _ _ eL2)), atI_nat (by unfold cntV; rw [List.getElem?_map, List.getElem?_range le]; rfl), ?_⟩
          have := hQ2 _ Same.refl
          rw [List.getD_eq_getElem?_getD, he] at this
          exact this
        · rw [rowK_len] at eD4
          have em : (List.range (rowC c s).length).map (fun j => V.int ((cnt c i ((rowC c s).getD j ("", 0)).2 : Nat) : Int)) = ((rowC c s).map fun e => ((cnt c i e.2 : Nat) : Int)).map V.int := by
            rw [List.map_map]
            exact range_map fun j e he => by rw [List.getD_eq_getElem?_getD, he]; rfl
          rw [em] at eD4
          refine ⟨D2, _, rfl, SqL.of eD4, ?_⟩
          rw [sum_cast]
          exact hQ _ s4
      · rw [ll] at eM
        have nMD : M ≠ D := fun z => by rw [z, eD2] at nM; cases nM
        have eD3 := s3 _ _ eD2
        refine ⟨D, _, _, rfl, rfl, eD3, by rw [List.length_append, lx, sizeLine_eq]; show i + 1 < _; omega, M, xs ++ [.ref L], _, _, _, _, rfl, fun b u e => ?_, ?_, by rw [List.length_append, lx]; rfl, ?_⟩
        · rw [upd_ne (ne_of_none e nDH)]
          exact s3 _ _ (s2 _ _ e)
        · rw [upd_same]
        · rw [upd_ne nMD]; exact eM
    · rintro σ H2 ⟨L, xs, r3, r4, r5, r6, rfl, s2, eD2, lx, eL2⟩
      rw [Int.toNat_natCast] at eL2
      exact ⟨.ref D, rfl, k D L xs H2 s2 nDH eD2 eL2⟩
end
end K20
end

section
set_option maxHeartbeats 4000000
/-! lengths -/
namespace K20
open PySem PySem.Spec PyProof.Rows L2
def Sh (n : Nat) : Prop := n.log2 < 801
theorem sh_of {n k : Nat} (h : n ≤ 4 ^ k) (hk : k ≤ 400) : Sh n := by
  unfold Sh
  by_cases z : n = 0
  · rw [z]; decide
  · refine (Nat.log2_lt z).mpr (Nat.lt_of_le_of_lt h ?_)
    rw [show (4 : Nat) = 2 ^ 2 from rfl, ← Nat.pow_mul]
    exact Nat.pow_lt_pow_right (by decide) (by omega)
theorem sh_small {n : Nat} (h : n < 64) : Sh n := sh_of (k := 3) (by omega) (by decide)
theorem sh_show {n : Nat} (h : Sh n) : (PyData.int (n : Int)).showable = true := by
  unfold Sh at h
  simp only [PyData.showable]
  exact decide_eq_true (show ((n : Int)).natAbs.log2 < 1920 by rw [Int.natAbs_natCast]; omega)
theorem sh_leaf {n : Nat} (h : Sh n) : (PyData.int (n : Int)).leavesShort 802 = true := by
  unfold Sh at h
  simp only [PyData.leavesShort]
  refine decide_eq_true ?_
  rw [PyData.shown_int]
  show (Str.ofString (toString (n : Int))).length ≤ 802
  rw [PySem.ofString_length]
  exact int_text_length_le (k := 801) (by decide) (by rw [Int.natAbs_natCast]; exact h)
theorem sh_weight {n : Nat} (h : Sh n) : (PyData.int (n : Int)).weight ≤ 801 := by
  unfold Sh at h
  simp only [PyData.weight, Int.natAbs_natCast]
  split <;> omega
/-- what repr asks -/
def R3 (d : PyData) : Prop := d.showable = true ∧ d.depth ≤ 40 ∧ d.shown.length ≤ sizeLine
def numsD (l : List Nat) : PyData := .list (l.map fun (n : Nat) => PyData.int (n : Int))
theorem nums_all : ∀ {l : List Nat}, (∀ n ∈ l, Sh n) → PyData.showableAll (l.map fun (n : Nat) => PyData.int (n : Int)) = true ∧ PyData.leavesShortAll 802 (l.map fun (n : Nat) => PyData.int (n : Int)) = true ∧ PyData.weightAll (l.map fun (n : Nat) => PyData.int (n : Int)) ≤ 802 * l.length ∧ PyData.depthAll (l.map fun (n : Nat) => PyData.int (n : Int)) ≤ 1
  | [], _ => ⟨rfl, rfl, by simp [PyData.weightAll], by simp [PyData.depthAll]⟩
  | n :: l, h => by
    have h1 := h n List.mem_cons_self
    obtain ⟨a, b, c, e⟩ := nums_all fun x hx => h x (List.mem_cons_of_mem _ hx)
    rw [List.map_cons]
    refine ⟨?_, ?_, ?_, ?_⟩
    · simp only [PyData.showableAll, Bool.and_eq_true]; exact ⟨sh_show h1, a⟩
    · simp only [PyData.leavesShortAll, Bool.and_eq_true]; exact ⟨sh_leaf h1, b⟩
    · rw [List.length_cons]
      simp only [PyData.weightAll]
      have := sh_weight h1
      omega
    · simp only [PyData.depthAll, PyData.depth]
      omega
theorem r3_of {d : PyData} {w dp : Nat} (a : d.showable = true) (b : d.leavesShort 802 = true) (c : d.weight ≤ w) (e : d.depth ≤ dp) (hw : w ≤ 16000) (hd : dp ≤ 40) : R3 d := ⟨a, Nat.le_trans e hd, by
  have h1 := PyData.shown_le 802 (by decide) d b
  have h2 : (802 + 2) * d.weight ≤ (802 + 2) * 16000 := Nat.mul_le_mul_left _ (Nat.le_trans c hw)
  rw [sizeLine_eq]
  omega⟩
theorem nums_r3 {l : List Nat} (h : ∀ n ∈ l, Sh n) (hl : l.length ≤ 16) : R3 (numsD l) := by
  obtain ⟨a, b, c, e⟩ := nums_all h
  refine r3_of (w := 802 * l.length) (dp := 2) ?_ ?_ ?_ ?_ (by omega) (by decide)
  · simp only [numsD, PyData.showable]; exact a
  · simp only [numsD, PyData.leavesShort]; exact b
  · simp only [numsD, PyData.weight]; exact c
  · simp only [numsD, PyData.depth]; omega
theorem dx_nums {H : Hp} : ∀ l : List Nat, DxAll H (l.map fun (n : Nat) => V.int (n : Int)) (l.map fun (n : Nat) => PyData.int (n : Int))
  | [] => .nil
  | n :: l => .cons (.int _) (dx_nums l)
/-! ### tables as data -/
def rowDD (r : List (Str × Nat)) : PyData := .dict (((rowK r).map fun p => keyD p.1).zip (r.map fun e => .int (e.2 : Int)))
def tbD (c : Ch) : PyData := .list (c.map rowDD)
theorem dx_row {H : Hp} {a : Addr} {r : List (Str × Nat)} (h : Rd H a (.dK (rowK r))) : Dx H (.ref a) (rowDD r) := by
  refine .dic h ?_
  unfold rowK
  rw [List.map_map]
  have key : ∀ r : List (Str × Nat), DxAll H (r.map ((fun p : Key × V => p.2) ∘ fun e => ((.inr e.1 : Key), V.int (e.2 : Int)))) (r.map fun e => .int (e.2 : Int)) := by
    intro r
    induction r with
    | nil => exact .nil
    | cons e r ih => exact .cons (.int _) ih
  exact key r
theorem dx_tb {H : Hp} {D : Addr} {ls : List Addr} {c : Ch} (e : H D = some (.lst (ls.map V.ref))) (l : ls.length = c.length) (k : ∀ (i : Nat) (a : Addr), ls[i]? = some a → Rd H a (.dK (rowK (rowC c i)))) : Dx H (.ref D) (tbD c) := by
  refine .lst e (dxAll_of (by rw [List.length_map, List.length_map, l]) fun j v hv => ?_)
  rw [List.getElem?_map] at hv
  cases el : ls[j]? with
  | none => rw [el] at hv; cases hv
  | some a =>
    rw [el] at hv
    cases hv
    have hj : j < c.length := by rw [← l]; exact (List.getElem?_eq_some_iff.mp el).1
    exact ⟨rowDD (rowC c j), by rw [List.getElem?_map, row_get hj]; rfl, dx_row (k j a el)⟩
theorem TbF.dx {H : Hp} {F : Addr} {ls : List Addr} {c : Ch} (h : TbF H F ls c) : Dx H (.ref F) (tbD c) := dx_tb h.e h.l fun i a q => let ⟨o, e⟩ := h.k i a q; .inr ⟨o, e⟩
theorem NewT.dx {H0 H : Hp} {D : Addr} {c : Ch} (h : NewT H0 H D c) : Dx H (.ref D) (tbD c) := by
  obtain ⟨ds, e, l, k⟩ := h
  exact dx_tb e l fun i d q => .inl (k i d q).2
theorem row_all : ∀ {r : List (Str × Nat)}, (∀ e ∈ r, e.1 ∈ sgs ∧ e.2 < 64) → PyData.showableKv (((rowK r).map fun p => keyD p.1).zip (r.map fun e => .int (e.2 : Int))) = true ∧ PyData.leavesShortKv 802 (((rowK r).map fun p => keyD p.1).zip (r.map fun e => .int (e.2 : Int))) = true ∧ PyData.weightKv (((rowK r).map fun p => keyD p.1).zip (r.map fun e => .int (e.2 : Int))) ≤ 10 * r.length ∧ PyData.depthKv (((rowK r).map fun p => keyD p.1).zip (r.map fun e => .int (e.2 : Int))) ≤ 1
  | [], _ => ⟨rfl, rfl, by simp [PyData.weightKv, rowK], by simp [PyData.depthKv, rowK]⟩
  | e :: r, h => by
    obtain ⟨h1, h2⟩ := h e List.mem_cons_self
    obtain ⟨a, b, c, d⟩ := row_all fun x hx => h x (List.mem_cons_of_mem _ hx)
    have hs := sh_small h2
    have z1 : e.1.cps.size = 1 := sgs_one _ h1
    have z2 : ∀ z ∈ sgs, (z.cps.toList.all fun c => decide (c < 16 ^ 8)) = true := by decide +kernel
    have w2 : (PyData.int (e.2 : Int)).weight ≤ 7 := by
      simp only [PyData.weight, Int.natAbs_natCast]
      split
      · omega
      · rename_i q
        have z : e.2 ≠ 0 := fun y => q (by rw [y]; rfl)
        have := (Nat.log2_lt (k := 6) z).mpr (by omega)
        omega
    show PyData.showableKv ((.str e.1, .int (e.2 : Int)) :: _) = true ∧ PyData.leavesShortKv 802 ((.str e.1, .int (e.2 : Int)) :: _) = true ∧ PyData.weightKv ((.str e.1, .int (e.2 : Int)) :: _) ≤ _ ∧ PyData.depthKv ((.str e.1, .int (e.2 : Int)) :: _) ≤ _
    refine ⟨?_, ?_, ?_, ?_⟩
    · simp only [PyData.showableKv, Bool.and_eq_true]
      exact ⟨⟨by simp [PyData.showable], sh_show hs⟩, a⟩
    · simp only [PyData.leavesShortKv, Bool.and_eq_true]
      exact ⟨⟨by simp only [PyData.leavesShort]; exact z2 _ h1, sh_leaf hs⟩, b⟩
    · rw [List.length_cons]
      have c' : PyData.weightKv ((List.map (fun p => keyD p.1) (rowK r)).zip (List.map (fun e => PyData.int (e.2 : Int)) r)) ≤ 10 * r.length := c
      have w1 : (PyData.str e.1).weight = 1 := by simp only [PyData.weight]; exact z1
      simp only [PyData.weightKv]
      rw [w1]
      refine Nat.le_trans (Nat.add_le_add_left c' _) ?_
      omega
    · have d' : PyData.depthKv ((List.map (fun p => keyD p.1) (rowK r)).zip (List.map (fun e => PyData.int (e.2 : Int)) r)) ≤ 1 := d
      simp only [PyData.depthKv, PyData.depth]
      refine Nat.max_le.mpr ⟨by decide, ?_⟩
      first
      | exact d'
      | exact Nat.max_le.mpr ⟨by decide, d'⟩
theorem tb_r3 {c : Ch} {w : Nat} (wf : WfC c) (ok : okT w c) (cl : c.length ≤ 16) : R3 (tbD c) := by
  have key : ∀ l : List (List (Str × Nat)), (∀ r ∈ l, r.length ≤ 4 ∧ ∀ e ∈ r, e.1 ∈ sgs ∧ e.2 < 64) → PyData.showableAll (l.map rowDD) = true ∧ PyData.leavesShortAll 802 (l.map rowDD) = true ∧ PyData.weightAll (l.map rowDD) ≤ 41 * l.length ∧ PyData.depthAll (l.map rowDD) ≤ 2 := by
    intro l
    induction l with
    | nil => exact fun _ => ⟨rfl, rfl, by simp [PyData.weightAll], by simp [PyData.depthAll]⟩
    | cons r l ih =>
      intro h
      obtain ⟨h1, h2⟩ := h r List.mem_cons_self
      obtain ⟨a, b, c, d⟩ := ih fun x hx => h x (List.mem_cons_of_mem _ hx)
      obtain ⟨a', b', c', d'⟩ := row_all h2
      rw [List.map_cons]
      refine ⟨?_, ?_, ?_, ?_⟩
      · simp only [PyData.showableAll, Bool.and_eq_true, rowDD, PyData.showable]; exact ⟨a', a⟩
      · simp only [PyData.leavesShortAll, Bool.and_eq_true, rowDD, PyData.leavesShort]; exact ⟨b', b⟩
      · rw [List.length_cons]
        have w1 : (rowDD r).weight ≤ 40 := by
          simp only [rowDD, PyData.weight]
          omega
        simp only [PyData.weightAll]
        omega
      · simp only [PyData.depthAll]
        refine Nat.max_le.mpr ⟨?_, d⟩
        simp only [rowDD, PyData.depth]
        omega
  obtain ⟨a, b, e, d⟩ := key c fun r hr => by
    obtain ⟨h1, _⟩ := ok r hr
    refine ⟨okR_len h1, fun e he => ⟨List.mem_of_mem_take (okR_in h1 (List.mem_map_of_mem (f := fun e : Str × Nat => e.1) he)), ?_⟩⟩
    have := wf.2 r hr e he
    omega
  refine r3_of (w := 41 * c.length) (dp := 3) ?_ ?_ ?_ ?_ (by omega) (by decide)
  · simp only [tbD, PyData.showable]; exact a
  · simp only [tbD, PyData.leavesShort]; exact b
  · simp only [tbD, PyData.weight]; exact e
  · simp only [tbD, PyData.depth]; omega
end K20
end

section
set_option maxHeartbeats 4000000
/-! a length is right -/
namespace K20
open PySem PySem.Spec PyProof.Rows L2
def spLenR (C : Addr) : Sp := fun vs H Q _ => ∃ (a F Du : Addr) (ls : List Addr) (c : Ch) (w L : Nat), vs = [.ref a, .ref F, .int (L : Int), .ref Du] ∧ MedO C H a w c ∧ TbF H F ls c ∧ WfC c ∧ okT w c ∧ c.length ≤ 16 ∧ 2 ≤ w ∧ w ≤ 4 ∧ L ≤ 400 ∧ H Du = some (.lst (cntV c L)) ∧ ∀ H', Same H H' → Q (.bl true) H'
theorem cnt_sh {c : Ch} {w L s : Nat} (wf : WfC c) (ok : okT w c) (hL : L ≤ 400) (hs : s < c.length) : Sh (cnt c L s) := sh_of (cnt_le c wf ok L s hs) hL
def cntN (c : Ch) (k : Nat) : List Nat := (List.range c.length).map fun s => cnt c k s
theorem cntV_eq (c : Ch) (k : Nat) : cntV c k = (cntN c k).map fun (n : Nat) => V.int (n : Int) := by
  unfold cntV cntN
  rw [List.map_map]; rfl
theorem cntN_r3 {c : Ch} {w L : Nat} (wf : WfC c) (ok : okT w c) (hL : L ≤ 400) (cl : c.length ≤ 16) : R3 (numsD (cntN c L)) := nums_r3 (fun n hn => by
  obtain ⟨s, hs, rfl⟩ := List.mem_map.mp hn
  exact cnt_sh wf ok hL (List.mem_range.mp hs)) (by unfold cntN; rw [List.length_map, List.length_range]; exact cl)
theorem cntV_at {c : Ch} {k s : Nat} (h : s < c.length) : atI (cntV c k) (s : Int) = some (.int ((cnt c k s : Nat) : Int)) := atI_nat (by unfold cntV; rw [List.getElem?_map, List.getElem?_range h]; rfl)
theorem cntV_dx {H : Hp} {D : Addr} {c : Ch} {k : Nat} (e : H D = some (.lst (cntV c k))) : Dx H (.ref D) (numsD (cntN c k)) := .lst (by rw [e, cntV_eq]) (dx_nums _)
theorem int_log {n : Nat} (h : Sh n) : ((n : Int)).natAbs.log2 < 1920 := by
  unfold Sh at h
  rw [Int.natAbs_natCast]
  omega
section
variable {P : Program} {w : World} {K : PySem.W.Frag} {mg : Str → Option Value} {base : Heap} {ad : Str → Addr} {fd : Str → FuncData}
theorem scLengthRight : FnScope ["_law_tome", "_law_chart", "_law_span", "_law_due", "_law_told", "_law_named_now", "_law_spot"] ["_law_tome", "_law_chart", "_law_span", "_law_due"] (defScope sLengthRight) := ⟨rfl, rfl, rfl, by decide +kernel, rfl, by decide +kernel, by decide +kernel⟩
theorem ok_length_right (X : Tx K mg ad fd) (M : MedC K mg ad fd) : FnG P w K mg base 6 (ad "_law_length_right") (fd "_law_length_right") ["_law_tome", "_law_chart", "_law_span", "_law_due"] (spLenR (ad "Medium")) := by
  have G_count := ok_count (P := P) (w := w) (base := base) X M
  refine fnG_body X.F__law_length_right scLengthRight (fun vs H Q E h => ?_) (fun cdv A outer s H vs Q E hr h => ?_)
  · obtain ⟨a, F, Du, ls, c, w, L, rfl, m, tb, wf, ok, cl, w2, w4, lL, eDu, k⟩ := h
    rfl
  · obtain ⟨a, F, Du, ls, c, w, L, rfl, m, tb, wf, ok, cl, w2, w4, lL, eDu, k⟩ := h
    have hg := hr.gd
    have hs := X.sys
    have hu64 : (A.deeper (envOfC "_law_length_right" (defScope sLengthRight) s.heap.objs.size (ad "_law_length_right") cdv)).units + 64 < cLine := by have := hr.rm.un; omega
    have HR_count : Room 5 _ := hr.rm.mono (by decide)
    obtain ⟨bd, vbd, bc2⟩ := b_count2 X
    obtain ⟨i1, kc1⟩ := k_count X
    obtain ⟨i2, kc2⟩ := k_count2 X
    refine ⟨_, (pss_cons (ps_setLc (i := 4) (own := [("_law_spot", 6)]) (g := gName 6) rfl scLengthRight.nd rfl rfl (by rfl) (pi_range1 (by rfl) X.m_range (pa_cons (pe_callB (call_lenK (K := K) rfl) (by rfl) X.m_len (by decide +kernel) (pa_cons (pv 1) pa_nil)) pa_nil)) (blkOk_by (own := [("_law_spot", 6)]) (N := ["_law_tome", "_law_chart", "_law_span", "_law_due", "_law_told", "_law_named_now", "_law_spot"]) (sc := defScope sLengthRight) (by decide +kernel)) (fun _ _ _ _ _ => pg_name (i := 6) scLengthRight.nd rfl (Or.inl rfl)) (fun _ _ _ _ _ => pts_nil) (fun _ _ _ _ _ => (pe_call G_count HR_count (by rfl) X.g_count X.F_count.kp (b_count X) .nil pass0 (pa_cons (pv 0) (pa_cons (pv 2) (pa_cons (pv 6) pa_nil))))))
  (pss_cons (ps_if (PW.pt (pw_or (pt_cmpR op_ne (pe_callB (call_repr hg hu64 hs) (by rfl) X.m_repr (by decide +kernel) (pa_cons (pv 4) pa_nil)) (pe_callB (call_repr hg hu64 hs) (by rfl) X.m_repr (by decide +kernel) (pa_cons (pv 3) pa_nil)) (nomark _)) (pw_or1 (pt_cmpR op_ne (pe_callB SkE.call_repr_int (by rfl) X.m_repr (by decide +kernel) (pa_cons (pe_call G_count HR_count (by rfl) X.g_count X.F_count.kp bc2 vbd pass0 (pa_cons (pv 0) (pa_cons (pv 2) pa_nil))) pa_nil)) (pe_callB SkE.call_repr_int (by rfl) X.m_repr (by decide +kernel) (pa_cons (pe_ix (ix_listK (K := K) rfl) (pv 3) pe_int (fun _ _ => rfl)) pa_nil)) (nomark _)))))
  (pss_one (ps_ret (by exact pe_bl)))
  pss_nil)
  (pss_cons (ps_setLc (i := 5) (own := [("_law_spot", 6)]) (g := gName 6) rfl scLengthRight.nd rfl rfl (by rfl) (pi_range1 (by rfl) X.m_range (pa_cons (pe_callB (call_lenK (K := K) rfl) (by rfl) X.m_len (by decide +kernel) (pa_cons (pv 1) pa_nil)) pa_nil)) (blkOk_by (own := [("_law_spot", 6)]) (N := ["_law_tome", "_law_chart", "_law_span", "_law_due", "_law_told", "_law_named_now", "_law_spot"]) (sc := defScope sLengthRight) (by decide +kernel)) (fun _ _ _ _ _ => pg_name (i := 6) scLengthRight.nd rfl (Or.inl rfl)) (fun _ _ _ _ _ => pts_nil) (fun _ _ _ _ _ => (pe_callKW G_count HR_count (by rfl) X.g_count X.F_count.kp kc1 (pk_cons (pv 6) (pk_cons (pv 2) (pk_cons (pv 0) pk_nil))))))
  (pss_one (ps_ret (by exact (pe_and (pe_cmpR op_eq (pe_callB (call_repr hg hu64 hs) (by rfl) X.m_repr (by decide +kernel) (pa_cons (pv 5) pa_nil)) (pe_callB (call_repr hg hu64 hs) (by rfl) X.m_repr (by decide +kernel) (pa_cons (pv 3) pa_nil)) (nomark _)) (pe_one (pe_cmpR op_eq (pe_callB SkE.call_repr_int (by rfl) X.m_repr (by decide +kernel) (pa_cons (pe_callKW G_count HR_count (by rfl) X.g_count X.F_count.kp kc2 (pk_cons (pv 2) (pk_cons (pv 0) pk_nil))) pa_nil)) (pe_callB SkE.call_repr_int (by rfl) X.m_repr (by decide +kernel) (pa_cons (pe_ix (ix_listK (K := K) rfl) (pv 3) pe_int (fun _ _ => rfl)) pa_nil)) (nomark _)))))))))), ?_⟩
    have ll : (ls.map V.ref).length = c.length := by rw [List.length_map, tb.l]
    obtain ⟨r1, r2, r3⟩ := cntN_r3 wf ok lL cl
    refine ⟨.ref F, rfl, .ref F, _, rfl, .inl ⟨_, SqL.of tb.e, rfl⟩, c.length, by rw [ll], by omega, by omega, fun T nT => ?_⟩
    refine lc_map (w := walk_range (lo := 0) (n := ((c.length : Int)).toNat)) (fun s => V.int ((cnt c L s : Nat) : Int)) nT (by omega) (fun _ _ _ _ => True.intro) (fun _ => rfl) (fun sp x Hc Hd hsp sc y => ?_) (fun H1 s1 eT => ?_)
    · obtain ⟨rfl, rfl⟩ := y
      rw [Int.toNat_natCast] at hsp
      refine ⟨Same.refl, fun Q' hQ => ?_⟩
      refine ⟨.ref a, rfl, .int (L : Int), rfl, .int (0 + (sp : Int)), rfl, a, w, c, L, sp, by rw [Int.zero_add]; rfl, m.same sc, wf, ok, w2, w4, lL, hsp, by omega, fun H2 s2 => hQ H2 s2⟩
    · rw [Int.toNat_natCast] at eT
      have eT : H1 T = some (.lst (cntV c L)) := eT
      refine gN ?_
      have m1 := m.same s1
      have eD1 := s1 _ _ eDu
      refine ⟨.ref T, rfl, T, _, rfl, cntV_dx eT, r1, r2, r3, .ref Du, rfl, Du, _, rfl, cntV_dx eD1, r1, r2, r3, rfl, _, rfl, ?_⟩
      rw [decide_eq_true rfl]
      refine iteF ?_
      refine ⟨.ref a, rfl, .int (L : Int), rfl, a, w, c, L, 0, rfl, m1, wf, ok, w2, w4, lL, wf.1, by omega, fun H2 s2 => ?_⟩
      have s12 := Same.trans s1 s2
      have eD2 := s12 _ _ eDu
      refine ⟨_, rfl, int_log (cnt_sh wf ok lL wf.1), .ref Du, rfl, Du, _, ((0 : Nat) : Int), _, rfl, rfl, SqL.of eD2, cntV_at wf.1, _, rfl, int_log (cnt_sh wf ok lL wf.1), rfl, _, rfl, ?_⟩
      rw [decide_eq_true rfl]
      refine iteF ?_
      have tb2 := tb.same s12
      refine ⟨.ref F, rfl, .ref F, _, rfl, .inl ⟨_, SqL.of tb2.e, rfl⟩, c.length, by rw [ll], by omega, by omega, fun T2 nT2 => ?_⟩
      refine lc_map (w := walk_range (lo := 0) (n := ((c.length : Int)).toNat)) (fun s => V.int ((cnt c L s : Nat) : Int)) nT2 (by omega) (fun _ _ _ _ => True.intro) (fun _ => rfl) (fun sp x Hc Hd hsp sc y => ?_) (fun H3 s3 eT3 => ?_)
      · obtain ⟨rfl, rfl⟩ := y
        rw [Int.toNat_natCast] at hsp
        refine ⟨Same.refl, fun Q' hQ => ?_⟩
        refine ⟨.int (0 + (sp : Int)), rfl, .int (L : Int), rfl, .ref a, rfl, a, w, c, L, sp, by rw [Int.zero_add]; rfl, (m.same s12).same sc, wf, ok, w2, w4, lL, hsp, by omega, fun H4 s4 => hQ H4 s4⟩
      · rw [Int.toNat_natCast] at eT3
        have eT3 : H3 T2 = some (.lst (cntV c L)) := eT3
        refine gN ?_
        have s13 := Same.trans s12 s3
        have eD3 := s13 _ _ eDu
        refine ⟨.ref T2, rfl, T2, _, rfl, cntV_dx eT3, r1, r2, r3, .ref Du, rfl, Du, _, rfl, cntV_dx eD3, r1, r2, r3, rfl, _, rfl, ?_⟩
        rw [decide_eq_true rfl]
        refine iteT ?_
        refine ⟨.int (L : Int), rfl, .ref a, rfl, a, w, c, L, 0, rfl, m.same s13, wf, ok, w2, w4, lL, wf.1, by omega, fun H4 s4 => ?_⟩
        have s14 := Same.trans s13 s4
        have eD4 := s14 _ _ eDu
        refine ⟨_, rfl, int_log (cnt_sh wf ok lL wf.1), .ref Du, rfl, Du, _, ((0 : Nat) : Int), _, rfl, rfl, SqL.of eD4, cntV_at wf.1, _, rfl, int_log (cnt_sh wf ok lL wf.1), rfl, ?_⟩
        rw [decide_eq_true rfl]
        exact k _ s14
end
end K20
end

section
set_option maxHeartbeats 4000000
/-! right -/
namespace K20
open PySem PySem.Spec PyProof.Rows L2
def spRight : Sp := fun vs H Q _ => ∃ (pt : Addr), vs = [.ref pt] ∧ PotAt H pt ∧ ∀ H', But pt H H' → PotAt H' pt → Q (.bl true) H'
theorem TbF.pot {H : Hp} {F pt : Addr} {ls : List Addr} {c : Ch} (h : TbF H F ls c) (p : PotAt H pt) : F ≠ pt := fun z => by
  obtain ⟨x, y, e, _⟩ := p
  have := h.e
  rw [z, e] at this
  have := HO.lst.inj (Option.some.inj this)
  cases ls with
  | nil => cases this
  | cons a ls => cases (List.cons.inj this).1
theorem TbF.but {H H' : Hp} {F pt : Addr} {ls : List Addr} {c : Ch} (h : TbF H F ls c) (p : PotAt H pt) (b : But pt H H') : TbF H' F ls c := by
  refine ⟨b _ _ (h.pot p) h.e, h.l, fun i a q => ?_⟩
  obtain ⟨o, e⟩ := h.k i a q
  obtain ⟨x, y, u, _⟩ := p
  exact ⟨o, b _ _ (fun z => by rw [z, u] at e; cases e) e⟩
theorem MedO.but {C : Addr} {H H' : Hp} {a pt : Addr} {w : Nat} {c : Ch} (h : MedO C H a w c) (p : PotAt H pt) (b : But pt H H') : MedO C H' a w c := by
  obtain ⟨dx, F, ls, L, ts, e, tb, ld⟩ := h
  have tb' := tb.but p b
  obtain ⟨x, y, u, _⟩ := p
  refine ⟨dx, F, ls, L, ts, b _ _ (fun z => by rw [z, u] at e; cases e) e, tb', b _ _ (fun z => by have := ld.e; rw [z, u] at this; cases this) ld.e, ld.l, fun i t q => ?_⟩
  have k := ld.k i t q
  exact b _ _ (fun z => by rw [z, u] at k; cases k) k
structure Ct (C : Addr) (H0 H : Hp) (pt x F : Addr) (ls : List Addr) (c : Ch) (w : Nat) : Prop where
  hp : PotAt H pt
  b : But pt H0 H
  mo : MedO C H x w c
  tb : TbF H F ls c
theorem Ct.same {C : Addr} {H0 H H' : Hp} {pt x F : Addr} {ls : List Addr} {c : Ch} {w : Nat} (h : Ct C H0 H pt x F ls c w) (s : Same H H') : Ct C H0 H' pt x F ls c w := ⟨h.hp.same s, h.b.trans (But.same s), h.mo.same s, h.tb.same s⟩
theorem nf_med {K : PySem.W.Frag} {C : Addr} : PySem.W.notFirst K C (.ref C) = true := by unfold PySem.W.notFirst; simp
section
variable {P : Program} {w : World} {K : PySem.W.Frag} {mg : Str → Option Value} {base : Heap} {ad : Str → Addr} {fd : Str → FuncData}
theorem scRight : FnScope ["_law_pot_here", "_law_width_now", "_law_raw_here", "_law_chart", "_law_tome", "_law_span", "_law_due", "_law_far", "_law_spot", "_law_row", "_law_goal"] ["_law_pot_here"] (defScope sRight) := ⟨rfl, rfl, rfl, by decide +kernel, rfl, by decide +kernel, by decide +kernel⟩
theorem ok_right (X : Tx K mg ad fd) (M : MedC K mg ad fd) : FnG P w K mg base 7 (ad "_law_right") (fd "_law_right") ["_law_pot_here"] spRight := by
  have G__law_draw := ok_draw (P := P) (w := w) (base := base) X
  have G__law_raw := ok_raw (P := P) (w := w) (base := base) X
  have G__law_table := ok_table (P := P) (w := w) (base := base) X
  have G__law_walks := ok_walks (P := P) (w := w) (base := base) X
  have G__law_counts := ok_counts (P := P) (w := w) (base := base) X
  have G_count := ok_count (P := P) (w := w) (base := base) X M
  have G_Medium___init__ := ok_minit (P := P) (w := w) (base := base) X M
  have G_Medium_table := ok_mtable (P := P) (w := w) (base := base) X M
  have G_Medium___eq__ := ok_meq (P := P) (w := w) (base := base) X M
  have G__law_length_right := ok_length_right (P := P) (w := w) (base := base) X M
  refine fnG_body X.F__law_right scRight (fun vs H Q E h => ?_) (fun cdv A outer s H vs Q E hr h => ?_)
  · obtain ⟨pt, rfl, hp, k⟩ := h
    rfl
  · obtain ⟨pt, rfl, hp, k⟩ := h
    have hg := hr.gd
    have hs := X.sys
    have hu64 : (A.deeper (envOfC "_law_right" (defScope sRight) s.heap.objs.size (ad "_law_right") cdv)).units + 64 < cLine := by have := hr.rm.un; omega
    have HR__law_draw : Room 1 _ := hr.rm.mono (by decide)
    have HR__law_raw : Room 3 _ := hr.rm.mono (by decide)
    have HR__law_table : Room 2 _ := hr.rm.mono (by decide)
    have HR__law_walks : Room 1 _ := hr.rm.mono (by decide)
    have HR__law_counts : Room 1 _ := hr.rm.mono (by decide)
    have HR_count : Room 5 _ := hr.rm.mono (by decide)
    have HR_Medium___init__ : Room 5 _ := hr.rm.mono (by decide)
    have HR_Medium_table : Room 1 _ := hr.rm.mono (by decide)
    have HR_Medium___eq__ : Room 1 _ := hr.rm.mono (by decide)
    have HG__law_length_right : RoomG 6 _ := hr
    have HR_Medium_make : Room (5 + 1) _ := hr.rm.mono (by decide)
    refine ⟨_, (pss_cons (ps_set (i := 1) scRight.nd rfl (.inl rfl) (by exact (pe_op op_add pe_int (pe_call G__law_draw HR__law_draw (by rfl) X.g__law_draw X.F__law_draw.kp X.b__law_draw .nil pass0 (pa_cons (pv 0) (pa_cons pe_int pa_nil))))))
  (pss_cons (ps_set (i := 2) scRight.nd rfl (.inl rfl) (by exact (pe_call G__law_raw HR__law_raw (by rfl) X.g__law_raw X.F__law_raw.kp X.b__law_raw .nil pass0 (pa_cons (pv 0) (pa_cons (pv 1) pa_nil)))))
  (pss_cons (ps_asg (by exact (pe_tup (pa_cons (pe_call G__law_table HR__law_table (by rfl) X.g__law_table X.F__law_table.kp X.b__law_table .nil pass0 (pa_cons (pv 2) pa_nil)) (pa_cons (pe_make M.mks G_Medium___init__ HR_Medium_make (by rfl) M.G M.b_init .nil pass0 (pa_cons (pv 1) (pa_cons (pv 2) pa_nil))) pa_nil)))) (pg_tup rfl (pgs_cons (pg_name (i := 3) scRight.nd rfl (.inr rfl)) (pgs_cons (pg_name (i := 4) scRight.nd rfl (.inr rfl)) pgs_nil))))
  (pss_cons (ps_if (pt_cmpR op_ne (pe_callB (call_repr hg hu64 hs) (by rfl) X.m_repr (by decide +kernel) (pa_cons (pe_meth0 (pv 4) M.cl M.m_table G_Medium_table HR_Medium_table M.b_table .nil pass0) pa_nil)) (pe_callB (call_repr hg hu64 hs) (by rfl) X.m_repr (by decide +kernel) (pa_cons (pv 3) pa_nil)) (nomark _))
  (pss_one (ps_ret (by exact pe_bl)))
  pss_nil)
  (pss_cons (ps_for PassesOwn.never rfl (pi_range1 (by rfl) X.m_range (pa_cons pe_int pa_nil)) (pg_name (i := 5) scRight.nd rfl (.inr rfl))
  (pss_cons (ps_setLc (i := 6) (own := [("_law_spot", 8)]) (g := gName 8) rfl scRight.nd rfl rfl (by rfl) (pi_range1 (by rfl) X.m_range (pa_cons (pe_callB (call_lenK (K := K) rfl) (by rfl) X.m_len (by decide +kernel) (pa_cons (pv 3) pa_nil)) pa_nil)) (blkOk_by (own := [("_law_spot", 8)]) (N := ["_law_pot_here", "_law_width_now", "_law_raw_here", "_law_chart", "_law_tome", "_law_span", "_law_due", "_law_far", "_law_spot", "_law_row", "_law_goal"]) (sc := defScope sRight) (by decide +kernel)) (fun _ _ _ _ _ => pg_name (i := 8) scRight.nd rfl (Or.inl rfl)) (fun _ _ _ _ _ => pts_nil) (fun _ _ _ _ _ => (pe_callB (call_lenK (K := K) rfl) (by rfl) X.m_len (by decide +kernel) (pa_cons (pe_call G__law_walks HR__law_walks (by rfl) X.g__law_walks X.F__law_walks.kp X.b__law_walks .nil pass0 (pa_cons (pv 3) (pa_cons (pv 5) (pa_cons (pv 8) pa_nil)))) pa_nil))))
  (pss_one (ps_if (pt_not (pt_val (pe_callG (E := E0) G__law_length_right HG__law_length_right (by rfl) X.g__law_length_right X.F__law_length_right.kp X.b__law_length_right (pa_cons (pv 4) (pa_cons (pv 3) (pa_cons (pv 5) (pa_cons (pv 6) pa_nil)))))))
  (pss_one (ps_ret (by exact pe_bl)))
  pss_nil))))
  (pss_cons (ps_set (i := 7) scRight.nd rfl (.inl rfl) (by exact (pe_call G__law_draw HR__law_draw (by rfl) X.g__law_draw X.F__law_draw.kp X.b__law_draw .nil pass0 (pa_cons (pv 0) (pa_cons pe_int pa_nil)))))
  (pss_cons (ps_for PassesOwn.never rfl (pi_listK (K := K) rfl (pe_lst (pa_cons (pv 7) (pa_cons pe_int (pa_cons (pe_callB (call_max2 rfl) (by rfl) X.m_max (by decide +kernel) (pa_cons pe_int (pa_cons (pe_op op_sub (pv 7) pe_int) pa_nil))) pa_nil))))) (pg_name (i := 5) scRight.nd rfl (.inr rfl))
  (pss_one (ps_if (pt_not (pt_val (pe_callG (E := E0) G__law_length_right HG__law_length_right (by rfl) X.g__law_length_right X.F__law_length_right.kp X.b__law_length_right (pa_cons (pv 4) (pa_cons (pv 3) (pa_cons (pv 5) (pa_cons (pe_ix (ix_listK (K := K) rfl) (pe_call G__law_counts HR__law_counts (by rfl) X.g__law_counts X.F__law_counts.kp X.b__law_counts .nil pass0 (pa_cons (pv 3) (pa_cons (pv 5) pa_nil))) (pe_un un_neg pe_int) (fun _ _ => rfl)) pa_nil)))))))
  (pss_one (ps_ret (by exact pe_bl)))
  pss_nil)))
  (pss_cons (ps_for PassesOwn.never rfl (pi_enum (by rfl) X.m_enumerate (pa_cons (pv 3) pa_nil)) (pg_tup rfl (pgs_cons (pg_name (i := 8) scRight.nd rfl (.inl rfl)) (pgs_cons (pg_name (i := 9) scRight.nd rfl (.inl rfl)) pgs_nil)))
  (pss_one (ps_if (pt_cmpR op_ne (pe_call G_count HR_count (by rfl) X.g_count X.F_count.kp (b_count X) .nil pass0 (pa_cons (pv 4) (pa_cons pe_int (pa_cons (pv 8) pa_nil)))) (pe_callB (cr_sumK (K := K) rfl) (by rfl) X.m_sum (by decide +kernel) (pa_cons (pe_lc (own := [("_law_goal", 10)]) (g := gName 10) rfl scRight.nd (pi_values (pv 9)) (blkOk_by (own := [("_law_goal", 10)]) (N := ["_law_pot_here", "_law_width_now", "_law_raw_here", "_law_chart", "_law_tome", "_law_span", "_law_due", "_law_far", "_law_spot", "_law_row", "_law_goal"]) (sc := defScope sRight) (by decide +kernel)) (fun _ _ _ _ _ => pg_name (i := 10) scRight.nd rfl (Or.inl rfl)) (fun _ _ _ _ _ => pts_nil) (fun _ _ _ _ _ => (pe_call G_count HR_count (by rfl) X.g_count X.F_count.kp (b_count X) .nil pass0 (pa_cons (pv 4) (pa_cons pe_int (pa_cons (pv 10) pa_nil)))))) pa_nil)) (nomark _))
  (pss_one (ps_ret (by exact pe_bl)))
  pss_nil)))
  (pss_one (ps_ret (by exact (pe_and (pe_cmpR (op_eqO G_Medium___eq__ HR_Medium___eq__ M.b_eq M.eq M.eqf) (pv 4) (pe_make M.mks G_Medium___init__ HR_Medium_make (by rfl) M.G M.b_init .nil pass0 (pa_cons (pv 1) (pa_cons (pv 3) pa_nil))) (nomark _)) (pe_one (pe_cmpR op_eq (pe_callB (call_repr hg hu64 hs) (by rfl) X.m_repr (by decide +kernel) (pa_cons (pe_meth0 (pv 4) M.cl M.m_table G_Medium_table HR_Medium_table M.b_table .nil pass0) pa_nil)) (pe_callB (call_repr hg hu64 hs) (by rfl) X.m_repr (by decide +kernel) (pa_cons (pv 3) pa_nil)) (nomark _))))))))))))))), ?_⟩
    refine ⟨.ref pt, rfl, pt, 3, rfl, hp, by decide, by decide, fun d0 H1 d00 d01 hp1 b1 => ?_⟩
    obtain ⟨m, rfl⟩ := Int.eq_ofNat_of_zero_le d00
    refine ⟨2, (m : Int), rfl, rfl, ?_⟩
    refine gN ?_
    have w2 : 2 ≤ 2 + m := by omega
    have w4 : 2 + m ≤ 4 := by omega
    refine ⟨.ref pt, rfl, .int ((2 + m : Nat) : Int), rfl, pt, 2 + m, rfl, hp1, w2, w4, fun R ls c H2 nR tb wf ok c5 hp2 b2 => ?_⟩
    refine gN ?_
    have wfc := chart_wf wf
    have okc := chart_ok wf ok
    have lc := Nat.le_trans (chart_le wf) c5
    refine ⟨.ref R, rfl, R, ls, c, 2 + m, rfl, tb, wf, ok, c5, fun F ls' H3 s3 nF tbF => ?_⟩
    refine ⟨.int ((2 + m : Nat) : Int), rfl, .ref R, rfl, fun x dx nx ndx ne => ?_⟩
    have sx : Same H3 (upd (upd H3 dx (.own x)) x (.ins (ad "Medium") dx [])) := fun b o e => by rw [upd_ne (ne_of_none e nx), upd_ne (ne_of_none e ndx)]; exact e
    refine ⟨x, dx, R, ls, c, 2 + m, rfl, upd_same, w2, w4, (tb.same s3).same sx, wf, ok, by omega, by omega, fun H4 b4 mo => ⟨rfl, sz2, fun T nT => ?_⟩⟩
    have s34 : Same H3 H4 := fun b o e => b4 _ _ (ne_of_none e nx) (sx _ _ e)
    have ct4 : Ct (ad "Medium") H H4 pt x F ls' (chart c) (2 + m) := ⟨(hp2.same s3).same s34, (b1.trans b2).trans (But.same (Same.trans s3 s34)), mo, tbF.same s34⟩
    have ct5 := ct4.same (Same.new nT (o := .tup [.ref F, .ref x]))
    have eT : (upd H4 T (.tup [.ref F, .ref x])) T = some (.tup [.ref F, .ref x]) := upd_same
    generalize (upd H4 T (.tup [.ref F, .ref x])) = H5 at ct5 eT ⊢
    refine ⟨T, _, rfl, SqT.of eT, rfl, _, _, rfl, _, _, rfl, rfl, ?_⟩
    clear tb s3 nF tbF nx ndx ne sx b4 mo s34 ct4
    have idm := chart_chart wf
    generalize chart c = cc at wfc okc lc ct5 idm
    obtain ⟨q1, q2, q3⟩ := tb_r3 wfc okc (Nat.le_trans lc (by decide))
    have ll : (ls'.map V.ref).length = cc.length := by rw [List.length_map, ct5.tb.l]
    obtain ⟨dx5, _, _, _, _, e5, _⟩ := id ct5.mo
    refine ⟨.ref x, rfl, x, dx5, _, rfl, e5, rfl, x, 2 + m, cc, rfl, ct5.mo, by omega, fun D H6 s6 nD nt => ?_⟩
    have ct6 := ct5.same s6
    refine ⟨D, _, rfl, nt.dx, q1, q2, q3, .ref F, rfl, F, _, rfl, ct6.tb.dx, q1, q2, q3, rfl, _, rfl, ?_⟩
    rw [decide_eq_true rfl]
    refine iteF ?_
    refine ⟨7, rfl, by decide, by decide, ?_⟩
    refine for_range (lo := 0) (n := (7 : Int).toNat) (fun i σ H' => ∃ (r5 r6 r7 r8 r9 r10 : Option V), σ = [some (.ref pt), some (.int ((2 + m : Nat) : Int)), some (.ref R), some (.ref F), some (.ref x), r5, r6, r7, r8, r9, r10] ∧ Ct (ad "Medium") H H' pt x F ls' cc (2 + m)) ⟨_, _, _, _, _, _, rfl, ct6⟩ ?_ ?_
    · rintro i σ H7 hi ⟨r5, r6, r7, r8, r9, r10, rfl, ct⟩
      have hi : i < 7 := hi
      refine gN ?_
      refine ⟨.ref F, rfl, .ref F, _, rfl, .inl ⟨_, SqL.of ct.tb.e, rfl⟩, cc.length, by rw [ll], by omega, by omega, fun Du nDu => ?_⟩
      refine lc_map (w := walk_range (lo := 0) (n := ((cc.length : Int)).toNat)) (fun s => V.int ((cnt cc i s : Nat) : Int)) nDu (by omega) (fun _ _ _ _ => True.intro) (fun _ => rfl) (fun sp y Hc Hd hsp sc yy => ?_) (fun H8 s8 eDu => ?_)
      · obtain ⟨rfl, rfl⟩ := yy
        rw [Int.toNat_natCast] at hsp
        refine ⟨Same.refl, fun Q' hQ => ?_⟩
        refine ⟨.ref F, rfl, .int (0 + (i : Int)), rfl, .int (0 + (sp : Int)), rfl, F, ls', cc, 2 + m, i, sp, by rw [Int.zero_add, Int.zero_add]; rfl, ct.tb.same sc, wfc, okc, by omega, by omega, hsp, fun D2 ts H9 s9 nD2 eD2 lt => ?_⟩
        refine ⟨.ref D2, _, rfl, .inl ⟨_, SqL.of eD2, rfl⟩, ?_⟩
        rw [lt]
        exact hQ _ s9
      · rw [Int.toNat_natCast] at eDu
        have eDu : H8 Du = some (.lst (cntV cc i)) := eDu
        refine gN ?_
        have ct8 := ct.same s8
        refine ⟨.ref x, rfl, .ref F, rfl, .int (0 + (i : Int)), rfl, .ref Du, rfl, x, F, Du, ls', cc, 2 + m, i, by rw [Int.zero_add]; rfl, ct8.mo, ct8.tb, wfc, okc, by omega, w2, w4, by omega, eDu, fun H9 s9 => ⟨true, rfl, ?_⟩⟩
        exact iteF ⟨_, _, _, _, _, _, rfl, ct8.same s9⟩
    · rintro σ H7 ⟨r5, r6, r7, r8, r9, r10, rfl, ct⟩
      refine ⟨.ref pt, rfl, pt, 401, rfl, ct.hp, by decide, by decide, fun d H8 g0 g1 hp8 b8 => ?_⟩
      obtain ⟨far, rfl⟩ := Int.eq_ofNat_of_zero_le g0
      refine gN ?_
      have ct8 : Ct (ad "Medium") H H8 pt x F ls' cc (2 + m) := ⟨hp8, ct.b.trans b8, ct.mo.but ct.hp b8, ct.tb.but ct.hp b8⟩
      have hfar : far ≤ 400 := by omega
      refine ⟨.int (far : Int), rfl, .int (far : Int), rfl, (far : Int), 1, rfl, rfl, 0, (far : Int) - 1, rfl, (by show 3 ≤ sizeLine; decide), fun L nL => ?_⟩
      have ct9 := ct8.same (Same.new nL (o := .lst [V.int (far : Int), .int 400, .int (if (far : Int) - 1 > 0 then (far : Int) - 1 else 0)]))
      have eL : (upd H8 L (.lst [V.int (far : Int), .int 400, .int (if (far : Int) - 1 > 0 then (far : Int) - 1 else 0)])) L = some (.lst [V.int (far : Int), .int 400, .int (if (far : Int) - 1 > 0 then (far : Int) - 1 else 0)]) := upd_same
      generalize (upd H8 L (.lst [V.int (far : Int), .int 400, .int (if (far : Int) - 1 > 0 then (far : Int) - 1 else 0)])) = H9 at ct9 eL ⊢
      refine ⟨L, rfl, ⟨_, SqL.of eL⟩, ?_⟩
      refine for_it (w := walk_list (K := K) (a := L) (xs := [V.int (far : Int), .int 400, .int (if (far : Int) - 1 > 0 then (far : Int) - 1 else 0)])) (fun i σ H' => ∃ (r5 r6 r8 r9 r10 : Option V), σ = [some (.ref pt), some (.int ((2 + m : Nat) : Int)), some (.ref R), some (.ref F), some (.ref x), r5, r6, some (.int (far : Int)), r8, r9, r10] ∧ Ct (ad "Medium") H H' pt x F ls' cc (2 + m) ∧ H' L = some (.lst [V.int (far : Int), .int 400, .int (if (far : Int) - 1 > 0 then (far : Int) - 1 else 0)])) ⟨_, _, _, _, _, rfl, ct9, eL⟩ (fun i σ H' _ ⟨_, _, _, _, _, _, _, z⟩ => SqL.of z) ?_ ?_
      · rintro i y σ H' Ha hi ⟨r5, r6, r8, r9, r10, rfl, ct, eL⟩ ⟨e0, hy⟩
        subst e0
        obtain ⟨n, rfl, hn⟩ : ∃ n : Nat, y = .int (n : Int) ∧ n ≤ 400 := by
          have my := List.mem_of_getElem? hy
          simp only [List.mem_cons, List.not_mem_nil, or_false] at my
          rcases my with rfl | rfl | rfl
          · exact ⟨far, rfl, hfar⟩
          · exact ⟨400, rfl, Nat.le_refl _⟩
          · by_cases q : (far : Int) - 1 > 0
            · rw [if_pos q]
              exact ⟨far - 1, by rw [show ((far : Int) - 1) = ((far - 1 : Nat) : Int) by omega], by omega⟩
            · rw [if_neg q]
              exact ⟨0, rfl, by omega⟩
        refine gN ?_
        refine ⟨.ref x, rfl, .ref F, rfl, .int (n : Int), rfl, .ref F, rfl, .int (n : Int), rfl, F, ls', cc, 2 + m, n, rfl, ct.tb, wfc, okc, by omega, hn, fun D L2 xs Hb sb nD eD eL2 => ?_⟩
        have ctb := ct.same sb
        refine ⟨1, rfl, D, _, (-1 : Int), .ref L2, rfl, rfl, SqL.of eD, atI_last _ _, x, F, L2, ls', cc, 2 + m, n, rfl, ctb.mo, ctb.tb, wfc, okc, by omega, w2, w4, hn, eL2, fun Hc sc => ⟨true, rfl, ?_⟩⟩
        exact iteF ⟨_, _, _, _, _, rfl, ctb.same sc, sc _ _ (sb _ _ eL)⟩
      · rintro σ Ha ⟨r5, r6, r8, r9, r10, rfl, ct, _⟩
        refine ⟨.ref F, rfl, F, _, rfl, SqL.of ct.tb.e, ?_⟩
        refine for_it (w := walk_enum (K := K) (a := F) (xs := ls'.map V.ref)) (fun i σ H' => ∃ (r8 r9 r10 : Option V), σ = [some (.ref pt), some (.int ((2 + m : Nat) : Int)), some (.ref R), some (.ref F), some (.ref x), r5, r6, some (.int (far : Int)), r8, r9, r10] ∧ Ct (ad "Medium") H H' pt x F ls' cc (2 + m)) ⟨_, _, _, rfl, ct⟩ (fun i σ H' _ ⟨_, _, _, _, c⟩ => SqL.of c.tb.e) ?_ ?_
        · rintro i y σ H' Hb hi ⟨r8, r9, r10, rfl, ct⟩ ⟨T, u, v, rfl, hT, rfl, eu, ev⟩
          cases eu
          rw [ll] at hi
          obtain ⟨a, o, h1, h2, h3⟩ := ct.tb.row hi
          have ev : (ls'.map V.ref)[i]? = some v := ev
          rw [List.getElem?_map, h1] at ev
          cases ev
          have sT := Same.new hT (o := .tup [V.int (i : Nat), V.ref a])
          have ctT := ct.same sT
          have aT := sT _ _ h3
          refine ⟨T, _, rfl, SqT.of upd_same, rfl, _, _, rfl, _, _, rfl, rfl, ?_⟩
          generalize (upd H' T (.tup [V.int (i : Nat), V.ref a])) = Hb at ctT aT ⊢
          refine ⟨.ref x, rfl, .int (i : Int), rfl, x, 2 + m, cc, 400, i, rfl, ctT.mo, wfc, okc, w2, w4, by omega, hi, by omega, fun Hc sc => ?_⟩
          have ctc := ctT.same sc
          have ac := sc _ _ aT
          have r4' : (rowC cc i).length ≤ 4 := okR_len (rowOk okc hi).1
          refine ⟨.ref a, rfl, a, o, _, rfl, ac, fun D2 hD2 => ?_⟩
          refine lc_map (w := walk_values (d := a) (o := o) (kvs := rowK (rowC cc i))) (fun j => V.int ((cnt cc 399 ((rowC cc i).getD j ("", 0)).2 : Nat) : Int)) hD2 (by rw [rowK_len]; omega) (fun j Hx _ sc2 => sc2 _ _ ac) (fun _ => rfl) (fun j y Hx Hy hj sc2 yy => ?_) (fun Hd sd eD4 => ?_)
          · obtain ⟨rfl, k', hk⟩ := yy
            obtain ⟨e, he, rfl, rfl⟩ : ∃ e, (rowC cc i)[j]? = some e ∧ k' = .inr e.1 ∧ y = .int (e.2 : Int) := by
              unfold rowK at hk
              rw [List.getElem?_map] at hk
              cases er : (rowC cc i)[j]? with
              | none => rw [er] at hk; cases hk
              | some e =>
                rw [er] at hk
                cases hk
                exact ⟨e, rfl, rfl, rfl⟩
            have le := rowC_lt wfc (List.mem_of_getElem? he)
            refine ⟨Same.refl, fun Q2 hQ2 => ?_⟩
            refine ⟨.ref x, rfl, .int (e.2 : Int), rfl, x, 2 + m, cc, 399, e.2, rfl, ctc.mo.same sc2, wfc, okc, w2, w4, by omega, le, by omega, fun He se => ?_⟩
            have := hQ2 _ se
            rw [List.getD_eq_getElem?_getD, he] at this
            exact this
          · rw [rowK_len] at eD4
            have em : (List.range (rowC cc i).length).map (fun j => V.int ((cnt cc 399 ((rowC cc i).getD j ("", 0)).2 : Nat) : Int)) = ((rowC cc i).map fun e => ((cnt cc 399 e.2 : Nat) : Int)).map V.int := by
              rw [List.map_map]
              exact range_map fun j e he => by rw [List.getD_eq_getElem?_getD, he]; rfl
            rw [em] at eD4
            refine ⟨D2, _, rfl, SqL.of eD4, rfl, _, rfl, ?_⟩
            rw [sum_cast]
            have e4 : cnt cc 400 i = ((rowC cc i).map fun e => cnt cc 399 e.2).sum := rfl
            rw [decide_eq_true (show V.int ((cnt cc 400 i : Nat) : Int) = V.int ((((rowC cc i).map fun e => cnt cc 399 e.2).sum : Nat) : Int) by rw [e4])]
            exact iteF ⟨_, _, _, rfl, ctc.same sd⟩
        · rintro σ Hb ⟨r8, r9, r10, rfl, ct⟩
          refine ⟨.ref x, rfl, .int ((2 + m : Nat) : Int), rfl, .ref F, rfl, fun x2 dx2 nx ndx ne => ?_⟩
          have sx : Same Hb (upd (upd Hb dx2 (.own x2)) x2 (.ins (ad "Medium") dx2 [])) := fun b o e => by rw [upd_ne (ne_of_none e nx), upd_ne (ne_of_none e ndx)]; exact e
          refine ⟨x2, dx2, F, ls', cc, 2 + m, rfl, upd_same, w2, w4, ct.tb.same sx, wfc, okc, by omega, by rw [idm]; omega, fun Hc b4 mo => ⟨rfl, ?_⟩⟩
          have sbc : Same Hb Hc := fun b o e => b4 _ _ (ne_of_none e nx) (sx _ _ e)
          rw [idm] at mo
          have ctc := ct.same sbc
          obtain ⟨dxc, _, _, _, _, ec, _⟩ := id ctc.mo
          refine ⟨x, dxc, _, .ref (ad "Medium"), rfl, ec, ty_med M mo, nf_med, x, x2, 2 + m, cc, rfl, ctc.mo, mo, okc, by omega, _, rfl, iteT ?_⟩
          refine ⟨.ref x, rfl, x, dxc, _, rfl, ec, rfl, x, 2 + m, cc, rfl, ctc.mo, by omega, fun D2 Hd sd nD2 nt2 => ?_⟩
          have ctd := ctc.same sd
          refine ⟨D2, _, rfl, nt2.dx, q1, q2, q3, .ref F, rfl, F, _, rfl, ctd.tb.dx, q1, q2, q3, rfl, ?_⟩
          rw [decide_eq_true rfl]
          exact k _ ctd.b ctd.hp
end
end K20
end

section
set_option maxHeartbeats 4000000
/-! the law -/
namespace K20
open PySem PySem.Spec PyProof.Rows L2
theorem sqKeep {K : PySem.W.Frag} {H H' : Hp} {a : Addr} {xs : List V} (h : SqL K H a xs) (s : ∀ o, H a = some o → H' a = some o) : SqL K H' a xs := by
  rcases h with h | h
  · rcases h with e | ⟨o, e⟩
    · exact .inl (.inl (s _ e))
    · exact .inl (.inr ⟨o, s _ e⟩)
  · exact .inr h
def spLaw (K : PySem.W.Frag) : Sp := fun vs H Q _ => ∃ (a : Addr) (ns : List Int), vs = [.ref a] ∧ SqL K H a (ns.map V.int) ∧ ∀ H', Q (.bl true) H'
section
variable {P : Program} {w : World} {K : PySem.W.Frag} {mg : Str → Option Value} {base : Heap} {ad : Str → Addr} {fd : Str → FuncData}
theorem scLaw : FnScope ["_law_script", "_law_k"] ["_law_script"] (defScope sLaw) := ⟨rfl, rfl, rfl, by decide +kernel, rfl, by decide +kernel, by decide +kernel⟩
theorem ok_law (X : Tx K mg ad fd) (M : MedC K mg ad fd) : FnG P w K mg base 8 (ad "law") (fd "law") ["_law_script"] (spLaw K) := by
  have G__law_pot := ok_pot (P := P) (w := w) (base := base) X
  have G__law_right := ok_right (P := P) (w := w) (base := base) X M
  refine fnG_body X.F_law scLaw (fun vs H Q E h => ?_) (fun cdv A outer s H vs Q E hr h => ?_)
  · obtain ⟨a, ns, rfl, sq, k⟩ := h
    rfl
  · obtain ⟨a, ns, rfl, sq, k⟩ := h
    have hg := hr.gd
    have hs := X.sys
    have hu64 : (A.deeper (envOfC "law" (defScope sLaw) s.heap.objs.size (ad "law") cdv)).units + 64 < cLine := by have := hr.rm.un; omega
    have HR__law_pot : Room 1 _ := hr.rm.mono (by decide)
    have HG__law_right : RoomG 7 _ := hr
    refine ⟨_, (pss_one (ps_ret (by exact (pe_callB (cr_allK (K := K) rfl) (by rfl) X.m_all (by decide +kernel) (pa_cons (pe_lc (own := [("_law_k", 1)]) (g := gName 1) rfl scLaw.nd (pi_range1 (by rfl) X.m_range (pa_cons (pe_callB (call_max2 rfl) (by rfl) X.m_max (by decide +kernel) (pa_cons pe_int (pa_cons (pe_callB (call_min2 rfl) (by rfl) X.m_min (by decide +kernel) (pa_cons (pe_callB (call_lenK (K := K) rfl) (by rfl) X.m_len (by decide +kernel) (pa_cons (pv 0) pa_nil)) (pa_cons pe_int pa_nil))) pa_nil))) pa_nil)) (blkOk_by (own := [("_law_k", 1)]) (N := ["_law_script", "_law_k"]) (sc := defScope sLaw) (by decide +kernel)) (fun _ _ _ _ _ => pg_name (i := 1) scLaw.nd rfl (Or.inl rfl)) (fun _ _ _ _ _ => pts_nil) (fun _ _ _ _ _ => (pe_callG (E := E0) G__law_right HG__law_right (by rfl) X.g__law_right X.F__law_right.kp X.b__law_right (pa_cons (pe_call G__law_pot HR__law_pot (by rfl) X.g__law_pot X.F__law_pot.kp X.b__law_pot .nil pass0 (pa_cons (pv 0) (pa_cons (pv 1) pa_nil))) pa_nil)))) pa_nil))))), ?_⟩
    obtain ⟨m, hm, em⟩ : ∃ m : Nat, m ≤ 4 ∧ (if (if 4 < ((ns.map V.int).length : Int) then 4 else ((ns.map V.int).length : Int)) > 1 then (if 4 < ((ns.map V.int).length : Int) then 4 else ((ns.map V.int).length : Int)) else 1) = (m : Int) := by
      by_cases c : 4 < ((ns.map V.int).length : Int)
      · rw [if_pos c, if_pos (by decide)]; exact ⟨4, Nat.le_refl _, rfl⟩
      · rw [if_neg c]
        by_cases c2 : ((ns.map V.int).length : Int) > 1
        · rw [if_pos c2]; exact ⟨_, by omega, rfl⟩
        · rw [if_neg c2]; exact ⟨1, by omega, rfl⟩
    refine ⟨.ref a, rfl, .ref a, _, rfl, .inl ⟨_, sq, rfl⟩, _, _, rfl, 1, _, rfl, _, rfl, ?_⟩
    rw [em]
    refine ⟨by omega, by omega, fun D2 hD2 => ?_⟩
    refine lc_range (lo := 0) (n := (m : Int).toNat) (fun i H' => (∀ o, H a = some o → H' a = some o) ∧ H' D2 = some (.lst ((List.replicate i true).map V.bl))) ⟨fun o e => Same.new hD2 _ _ e, upd_same⟩ (fun i H' hi hP => ?_) (fun H' hP => ?_)
    · obtain ⟨s4, eD⟩ := hP
      refine ⟨rfl, .ref a, rfl, .int (0 + i), rfl, a, ns, _, rfl, sqKeep sq s4, by omega, by omega, fun p H4 hp0 hpot s5 => ⟨p, rfl, hpot, fun H5 hb hp5 => ?_⟩⟩
      have eD4 := s5 _ _ eD
      have nDp : D2 ≠ p := ne_of_none eD hp0
      have eD5 := hb _ _ nDp eD4
      refine ⟨_, eD5, ?_, ?_, ?_⟩
      · rw [List.length_map, List.length_replicate, sizeLine_eq]; omega
      · intro o e
        rw [upd_ne (ne_of_none e hD2)]
        exact hb _ _ (ne_of_none (s4 o e) hp0) (s5 _ _ (s4 o e))
      · rw [upd_same, List.replicate_succ', List.map_append]; rfl
    · obtain ⟨s4, eD⟩ := hP
      have ea : (List.replicate (m : Int).toNat true).all id = true := by simp
      refine ⟨D2, _, rfl, SqL.of eD, ?_⟩
      rw [ea]
      exact k _
end
end K20
end

section
set_option maxHeartbeats 4000000
/-! the end of a law whose defs call repr -/
namespace K20
open PySem PySem.Spec PyProof.Rows L2
/-- what is tracked at the law's call: the script, unless it is one of the module's own objects -/
def H0 (K : PySem.W.Frag) (a : Addr) (o : Obj) (xs : List V) : Hp := fun b => if b = a ∧ K.lookup a = none then some (.frz o (.lst xs)) else none
theorem H0_some {K : PySem.W.Frag} {a : Addr} {o : Obj} {xs : List V} {b : Addr} {u : HO} (h : H0 K a o xs b = some u) : b = a ∧ K.lookup a = none ∧ u = .frz o (.lst xs) := by
  unfold H0 at h
  split at h
  · rename_i c
    exact ⟨c.1, c.2, (Option.some.inj h).symm⟩
  · cases h
theorem law_endG {P : Program} {w : World} {K : PySem.W.Frag} {mg mb : Str → Option Value} {k : Nat} {fa a : Addr} {fd : FuncData} {x : Str} {sp : Sp} {s₁ : Shared} {vs : List Value} {ns : List Int}
    (inK : K.In s₁.heap) (gl : s₁.heap.Ns mainGlobals mg) (bl : s₁.heap.Ns builtinsNs mb) (bb : ∀ x : Str, x ≠ "__name__" → mb x = bootBuiltins x) (nl : s₁.heap.NoLimit) (g0 : s₁.gens = #[])
    (at_a : s₁.heap.get? a = some { cls := .type "list", data := .seq vs.toArray }) (hints : IntsAre vs ns) (size : ns.length ≤ sizeLine) (room : Room k callerA)
    (F : ∀ base : Heap, K.In base → base.Ns mainGlobals mg → FnG P w K mg base k fa fd [x] sp) (bind : ∀ (s : Shared) (u : Value), BindsTo s fd ⟨[u], []⟩ [(x, u)])
    (goal : ∀ H : Hp, Only H → SqL K H a (ns.map V.int) → sp [.ref a] H (fun v _ => v = .bl true) fun _ _ _ => False) :
    codeAny (model P w) callerA (.call (.ref fa) ⟨[.ref a], []⟩) (fun r s' => r = .ok (.ret (.bool true)) ∧ OldK s₁.heap s'.heap ∧ s'.os = s₁.os ∧ AllBare s'.gens) s₁ := by
  let ob : Obj := { cls := .type "list", data := .seq vs.toArray }
  have vals := vals_ints hints
  let H := H0 K a ob (ns.map V.int)
  have only : Only H := fun b => by
    cases e : H b with
    | none => exact .inl rfl
    | some u => exact .inr ⟨_, _, congrArg some (H0_some e).2.2⟩
  have sq : SqL K H a (ns.map V.int) := by
    cases e : K.lookup a with
    | some o =>
      have z : o = ob := Option.some.inj ((inK a o e).symm.trans at_a)
      subst z
      exact .inr ⟨_, _, _, e, rfl, rfl, rfl, by rw [List.size_toArray, hints.length]; exact size, by simpa using vals⟩
    | none => exact .inl (.inr ⟨ob, if_pos ⟨rfl, e⟩⟩)
  have ok : HOk P w H s₁.heap := fun b u e => by
    obtain ⟨rfl, _, rfl⟩ := H0_some e
    exact ⟨at_a, by rw [List.length_map]; exact size, vs, _, vals, at_a⟩
  have up : ∀ {b : Addr} {o : Obj}, s₁.heap.get? b = some o → H b = none → (hidT s₁.heap H).get? b = some o := fun e n => hidT_get e n
  have inB : K.In (hidT s₁.heap H) := fun b o e => up (inK b o e) (by
    cases z : H b with
    | none => rfl
    | some u =>
      obtain ⟨rfl, n, _⟩ := H0_some z
      have n2 : K.lookup b = some o := e
      rw [n] at n2; cases n2)
  have ns' : ∀ {b : Addr} {m : Str → Option Value}, s₁.heap.Ns b m → (hidT s₁.heap H).Ns b m := by
    rintro b m ⟨o, es, ep, e, d, r⟩
    refine ⟨o, es, ep, up e ?_, d, r⟩
    cases z : H b with
    | none => rfl
    | some u =>
      obtain ⟨rfl, _, _⟩ := H0_some z
      have z2 : o = ob := Option.some.inj (e.symm.trans at_a)
      subst z2
      have d' : Data.seq vs.toArray _ = Data.dict es ep := d
      cases d'
  have md : Mod K mg (hidT s₁.heap H) := ⟨inB, ns' gl, ⟨mb, ns' bl, bb⟩, nl.elim fun mc q => ⟨mc, ns' q.1, q.2⟩⟩
  have nofr : ∀ b, b ∉ frs ([] : List Env) := fun b z => by cases (show b ∈ ([] : List Addr) from z)
  have e0 : Env0 P w K mg (hidT s₁.heap H) callerA [] s₁ H := ⟨rfl, md, fun b o e => of_hidT e, Nat.le_of_eq (hidT_size _ _), trivial, fun b z => (nofr b z).elim, ok, .of_eq g0⟩
  refine codeAny_mono ((F _ inB (ns' gl)).run callerA [] s₁ H ⟨[.ref a], []⟩ [.ref a] [.ref a] _ _ ⟨room, rfl⟩ e0 (bind s₁ (.ref a)) (.cons rfl .nil) (goal H only sq)) ?_
  intro r s' hr
  match r, hr with
  | .ok (.ret u), ⟨v, H', os, bare, un, ok', rv, (hv : v = .bl true)⟩ =>
    subst hv
    obtain rfl : u = Value.bool true := rv
    refine ⟨rfl, OldK.of_keep fun b o e => ?_, os, bare⟩
    rcases only b with z | ⟨o2, xs, z⟩
    · exact un.keep b o e z (nofr b) (by simp)
    · have old := (ok b _ z).1
      rw [e] at old
      cases old
      exact (ok' b _ (un.frzs b _ _ z)).1
theorem walk_ofG {l : PySem.W.OpenLaw} {n k : Nat} {q : Program} {loose : List Str} {XP : (Str → Option Value) → Heap → Prop} {YP : World → Heap → Prop} {d : DefRec} {K : Params → PySem.W.Frag} {sp : World → Sp} {x : Str}
    (hn : l.most = some n) (hn2 : n ≤ sizeLine) (hdf : d.params.defaults = []) (hr : Room k callerA)
    (hY : ∀ (w : World) (h : Heap), YP w h → (K w.params).In h)
    (F : ∀ (w : World) (mg : Str → Option Value) (fa : Addr) (h : Heap), (K w.params).In h → h.Ns mainGlobals mg → mg d.name = some (.ref fa) →
      ∃ fd : FuncData, (∀ (s : Shared) (u : Value), BindsTo s fd ⟨[u], []⟩ [(x, u)]) ∧ ∀ base : Heap, (K w.params).In base → base.Ns mainGlobals mg → FnG l.prog w (K w.params) mg base k fa fd [x] (sp w))
    (hsp : ∀ (w : World) (H : Hp) (a : Addr) (ns : List Int), ns.length ≤ n → Only H → SqL (K w.params) H a (ns.map V.int) → sp w [.ref a] H (fun v _ => v = .bl true) fun _ _ _ => False) :
    PySem.W.WalkO q loose XP YP l.row.toRowW d [] (fun f vs => PySem.call f vs) :=
  Att.attach_call hn hdf fun w s₀ s₁ mg mb fa o pm cd doc a vs ns G Y ho hd hcd hmg hobj hints hlen hg => by
    obtain ⟨fd, hb, hF⟩ := F w mg fa _ (hY w _ Y) G.T.g hmg
    exact law_endG (hY w _ Y) G.T.g G.T.b G.T.builtins G.T.nolimit hg hobj hints (Nat.le_trans hlen hn2) hr hF hb fun H hO hS => hsp w H a ns hlen hO hS
end K20
end

section
set_option maxHeartbeats 4000000
/-! what the top has left, as bools of the written part -/
namespace K20
open PySem PySem.Spec PyProof.Rows L2
section
open PySem.W
/-- the def at f, without defaults -/
def fnA (K : Frag) (f : Addr) : He.FnW := match K.lookup f with
  | some ⟨_, _, .func fd, _⟩ => some (fd.name, fd.qualname, fd.params, fd.body, fd.scope, fd.globals, fd.closure, fd.builtins)
  | _ => none
def plain2 (d k : Value) (b : Bool) : Bool := match d, k with
  | .none, .none => b
  | _, _ => false
theorem plain2_ok {d k : Value} {b : Bool} (h : plain2 d k b = true) : d = .none ∧ k = .none ∧ b = true := by
  unfold plain2 at h
  split at h
  · exact ⟨rfl, rfl, h⟩
  · cases h
def plainB (K : Frag) (f : Addr) : Bool := match K.lookup f with
  | some ⟨_, _, .func fd, _⟩ => plain2 fd.defaults fd.kwdefaults (codeIn K fd.code fd.qualname)
  | _ => false
theorem fn_at {K : Frag} {f : Addr} {nm qual : Str} {params : Arguments} {body : List Stmt} {scope : Scope} (e : fnA K f = some (nm, qual, params, .stmts body, scope, mainGlobals, [], builtinsNs)) (c : plainB K f = true) :
    ∃ (oc : Value) (od : Option Addr) (doc pm : Value) (an : Option Addr) (cdv ct : Value) (osl : Array (Option Value)), K.lookup f = some ⟨oc, od, .func (fnOf nm qual params body scope .none .none doc pm an cdv ct), osl⟩ ∧ codeIn K cdv qual = true := by
  unfold fnA at e
  unfold plainB at c
  cases q : K.lookup f with
  | none => rw [q] at e; cases e
  | some o =>
    obtain ⟨oc, od, dt, osl⟩ := o
    rw [q] at c e
    cases dt with
    | func fd =>
      obtain ⟨n1, n2, n3, n4, n5, n6, n7, n8, n9, n10, n11, n12, n13, n14, n15⟩ := fd
      have e2 : (some (n1, n2, n3, n4, n5, n6, n7, n15) : He.FnW) = some (nm, qual, params, .stmts body, scope, mainGlobals, [], builtinsNs) := e
      simp only [Option.some.injEq, Prod.mk.injEq] at e2
      obtain ⟨h1, h2, h3, h4, h5, h6, h7, h8⟩ := e2
      subst h1 h2 h3 h4 h5 h6 h7 h8
      obtain ⟨rfl, rfl, c3⟩ := plain2_ok (show plain2 n8 n9 (codeIn K n13 n2) = true from c)
      exact ⟨oc, od, n10, n11, n12, n13, n14, osl, rfl, c3⟩
    | _ => cases e
def dfnB (K : Frag) (f : Addr) (dvs : List V) : Bool := match K.lookup f with
  | some ⟨_, _, .func fd, _⟩ => He.dflB K fd.defaults dvs && codeIn K fd.code fd.qualname
  | _ => false
theorem fnV_at {K : Frag} {f : Addr} {dvs : List V} {nm qual : Str} {params : Arguments} {body : List Stmt} {scope : Scope} (e : fnA K f = some (nm, qual, params, .stmts body, scope, mainGlobals, [], builtinsNs)) (c : dfnB K f dvs = true) :
    ∃ (oc : Value) (od : Option Addr) (dV kV doc pm : Value) (an : Option Addr) (cdv ct : Value) (osl : Array (Option Value)), K.lookup f = some ⟨oc, od, .func (fnOf nm qual params body scope dV kV doc pm an cdv ct), osl⟩ ∧ DflV K dV dvs ∧ codeIn K cdv qual = true := by
  unfold fnA at e
  unfold dfnB at c
  cases q : K.lookup f with
  | none => rw [q] at e; cases e
  | some o =>
    obtain ⟨oc, od, dt, osl⟩ := o
    rw [q] at c e
    cases dt with
    | func fd =>
      obtain ⟨n1, n2, n3, n4, n5, n6, n7, n8, n9, n10, n11, n12, n13, n14, n15⟩ := fd
      have e2 : (some (n1, n2, n3, n4, n5, n6, n7, n15) : He.FnW) = some (nm, qual, params, .stmts body, scope, mainGlobals, [], builtinsNs) := e
      simp only [Option.some.injEq, Prod.mk.injEq] at e2
      obtain ⟨h1, h2, h3, h4, h5, h6, h7, h8⟩ := e2
      subst h1 h2 h3 h4 h5 h6 h7 h8
      obtain ⟨c1, c2⟩ := He.ba (show (He.dflB K n8 dvs && codeIn K n13 n2) = true from c)
      exact ⟨oc, od, n8, n9, n10, n11, n12, n13, n14, osl, rfl, He.dflB_ok c1, c2⟩
    | _ => cases e
theorem binds_nil {K : Frag} {fd : FuncData} {ps : List Str} (h : ∃ ds, Vals ([] : List V) ds ∧ Binds K fd ps ds) : Binds K fd ps [] := by
  obtain ⟨ds, v, b⟩ := h
  cases v
  exact b
/-- a constant of a class: a whole number -/
def conB (K : Frag) (C : Addr) (f : Str) (n : Int) : Bool := match findIn K (.ref C) f with
  | some (some (.int i t)) => decide (i = n) && decide (specialIn K (.int i t) "__get__" = some none)
  | _ => false
theorem con_ok {K : Frag} {C : Addr} {f : Str} {n : Int} (h : conB K C f n = true) (cp : copiedNames.contains f = false) : ∃ u, Con K C f (.int n) u := by
  unfold conB at h
  split at h
  · rename_i i t e
    obtain ⟨h1, h2⟩ := He.ba h
    have h1 := of_decide_eq_true h1
    subst h1
    exact ⟨_, e, ⟨t, rfl⟩, of_decide_eq_true h2, cp⟩
  · cases h
/-- a constant of a class: a text -/
def conSB (K : Frag) (C : Addr) (f z : Str) : Bool := match findIn K (.ref C) f with
  | some (some (.str x t)) => decide (x = z) && decide (specialIn K (.str x t) "__get__" = some none)
  | _ => false
theorem conS_ok {K : Frag} {C : Addr} {f z : Str} (h : conSB K C f z = true) (cp : copiedNames.contains f = false) : ∃ u, Con K C f (.str z) u := by
  unfold conSB at h
  split at h
  · rename_i x t e
    obtain ⟨h1, h2⟩ := He.ba h
    have h1 := of_decide_eq_true h1
    subst h1
    exact ⟨_, e, ⟨t, rfl⟩, of_decide_eq_true h2, cp⟩
  · cases h
/-- a constant read off the class: a whole number -/
def cvalB (K : Frag) (C : Addr) (f : Str) (n : Int) : Bool := match findCls K (.ref C) (.type "type") f with
  | some (.val (.int i t)) => decide (i = n)
  | _ => false
theorem cval_ok {K : Frag} {C : Addr} {f : Str} {n : Int} (h : cvalB K C f n = true) : ∃ u, ClX.CVal K C (.type "type") f (.int n) u := by
  unfold cvalB at h
  split at h
  · rename_i i t e
    have h1 := of_decide_eq_true h
    subst h1
    exact ⟨_, e, ⟨t, rfl⟩⟩
  · cases h
end
end K20
end

section
set_option maxHeartbeats 0
/-! what the top has left, by names -/
namespace K20
open PySem PySem.Spec PyProof.Rows L2
def meths : List (Str × (Str × Str)) := [("Medium.__init__", ("Medium", "__init__")), ("Medium.table", ("Medium", "table")), ("Medium.leads", ("Medium", "leads")), ("Medium.__len__", ("Medium", "__len__")), ("Medium.__eq__", ("Medium", "__eq__"))]
def adK (K : PySem.W.Frag) (x : Str) : Addr := match meths.lookup x with
  | some (C, m) => He.ma K (He.ga K C) m
  | none => He.ga K x
def fdK (K : PySem.W.Frag) (x : Str) : FuncData := match K.lookup (adK K x) with
  | some ⟨_, _, .func f, _⟩ => f
  | _ => PySem.W.fnOf "" "" (defArgs sLaw) (defBody sLaw) (defScope sLaw) .none .none .none .none none .none .none
def addrs0 : List Addr := [
  1,
  2,
  3,
  6,
  15,
  17,
  18,
  20,
  21,
  22,
  29,
  30,
  31,
  32,
  35,
  42,
  44,
  45,
  47,
  48,
  49,
  50,
  51,
  54,
  61,
  63,
  64,
  66,
  67,
  68,
  69,
  70,
  73,
  80,
  82,
  83,
  85,
  86,
  87,
  88,
  89,
  92,
  99,
  101,
  102,
  104,
  105,
  106,
  107,
  108,
  111,
  118,
  120,
  121,
  123,
  124,
  125,
  126,
  127,
  130]
def addrs1 : List Addr := [
  137,
  139,
  140,
  142,
  143,
  144,
  145,
  146,
  149,
  156,
  158,
  159,
  161,
  162,
  163,
  164,
  165,
  168,
  175,
  177,
  178,
  180,
  181,
  182,
  183,
  184,
  187,
  194,
  195,
  196,
  197,
  200,
  207,
  208,
  209,
  212,
  219,
  221,
  222,
  224,
  225,
  226,
  227,
  228,
  231,
  238,
  239,
  240,
  241,
  244,
  251,
  253,
  254,
  256,
  257,
  258,
  259,
  260,
  263,
  265]
def addrs2 : List Addr := [
  266,
  268,
  269,
  270,
  272,
  273,
  275,
  276,
  277,
  279,
  280,
  282,
  283,
  284,
  286,
  287,
  289,
  290,
  291,
  294,
  295,
  296,
  298,
  299,
  301,
  302,
  303,
  305,
  306,
  308,
  309,
  310,
  312,
  313,
  315,
  316,
  317,
  319,
  320,
  322,
  323,
  324,
  326,
  327,
  329,
  330,
  331,
  334,
  335,
  336,
  338,
  339,
  341,
  342,
  343,
  345,
  346,
  348,
  349,
  350]
def addrs3 : List Addr := [
  352,
  353,
  355,
  356,
  357,
  360,
  361,
  362,
  365,
  366,
  367,
  370,
  371,
  372,
  374,
  375,
  377,
  378,
  379,
  381,
  382,
  384,
  385,
  386,
  389,
  390,
  391,
  394,
  395,
  396,
  398,
  399,
  401,
  402,
  403,
  404,
  407,
  408,
  409,
  412,
  413,
  421,
  423,
  424,
  426,
  427,
  428,
  430,
  431,
  433,
  434,
  435,
  436,
  437,
  438,
  440,
  441,
  443,
  444,
  445]
def addrs4 : List Addr := [
  446,
  447,
  448,
  450,
  451,
  453,
  454,
  455,
  456,
  457,
  458,
  460,
  461,
  463,
  464,
  465,
  466,
  467,
  468,
  470,
  471,
  473,
  474,
  475,
  476,
  478,
  479,
  481,
  482,
  483,
  484,
  487,
  488,
  489,
  491,
  492,
  494,
  495,
  496,
  498,
  499,
  501,
  502,
  503,
  504,
  506,
  507,
  509,
  510,
  511,
  513,
  514,
  516,
  517,
  518,
  520,
  521,
  523,
  524,
  525]
def addrs5 : List Addr := [
  527,
  528,
  530,
  531,
  532,
  534,
  535,
  537,
  538,
  539,
  541,
  542,
  544,
  545,
  546,
  548,
  549,
  551,
  552,
  553,
  555,
  556,
  558,
  559,
  560,
  562,
  563,
  565,
  566,
  567,
  568,
  569,
  570,
  571,
  574,
  575,
  577,
  578,
  580,
  581,
  582,
  584,
  585,
  587,
  588,
  589,
  591,
  592,
  594,
  595,
  596,
  597,
  599,
  600,
  602,
  603,
  604,
  606,
  607,
  609]
def addrs6 : List Addr := [
  610,
  611,
  614,
  615,
  616,
  618,
  619,
  621,
  622,
  623,
  625,
  626,
  628,
  629,
  630,
  632,
  633,
  635,
  636,
  637,
  639,
  640,
  642,
  643,
  644,
  647,
  648,
  649,
  652,
  653,
  654,
  657,
  658,
  659,
  662,
  663,
  664,
  667,
  668,
  669,
  672,
  673,
  674,
  677,
  678]
def addrs : List Addr := addrs0 ++ (addrs1 ++ (addrs2 ++ (addrs3 ++ (addrs4 ++ (addrs5 ++ (addrs6))))))
def facts0 : List (PySem.W.Frag → Bool) := [
  fun K => He.eqO (PySem.W.nsIn K mainGlobals "isinstance") (some none),
  fun K => He.eqO (PySem.W.nsIn K mainGlobals "int") (some none),
  fun K => He.eqO (PySem.W.nsIn K mainGlobals "bool") (some none),
  fun K => He.eqO (PySem.W.nsIn K mainGlobals "str") (some none),
  fun K => He.eqO (PySem.W.nsIn K mainGlobals "all") (some none),
  fun K => He.eqO (PySem.W.nsIn K mainGlobals "any") (some none),
  fun K => He.eqO (PySem.W.nsIn K mainGlobals "len") (some none),
  fun K => He.eqO (PySem.W.nsIn K mainGlobals "abs") (some none),
  fun K => He.eqO (PySem.W.nsIn K mainGlobals "max") (some none),
  fun K => He.eqO (PySem.W.nsIn K mainGlobals "min") (some none),
  fun K => He.eqO (PySem.W.nsIn K mainGlobals "divmod") (some none),
  fun K => He.eqO (PySem.W.nsIn K mainGlobals "range") (some none),
  fun K => He.eqO (PySem.W.nsIn K mainGlobals "repr") (some none),
  fun K => He.eqO (PySem.W.nsIn K mainGlobals "dict") (some none),
  fun K => He.eqO (PySem.W.nsIn K mainGlobals "list") (some none),
  fun K => He.eqO (PySem.W.nsIn K mainGlobals "tuple") (some none),
  fun K => He.eqO (PySem.W.nsIn K mainGlobals "enumerate") (some none),
  fun K => He.eqO (PySem.W.nsIn K mainGlobals "sum") (some none),
  fun K => He.eqO (PySem.W.nsIn K mainGlobals "sorted") (some none),
  fun K => He.eqO (PySem.W.nsIn K mainGlobals "ValueError") (some none),
  fun K => He.eqO (PySem.W.nsIn K mainGlobals "ArithmeticError") (some none),
  fun K => match K.lookup sysModules with | some o => decide (o.cls ≠ .type "list") | none => false,
  fun K => He.Fa.ok K (.str "ALL_SIGNS" "abcd"),
  fun K => He.Fa.ok K (.int "MOST_IN_ROW" 2000),
  fun K => He.Fa.ok K (.int "MOST_IN_TABLE" 64),
  fun K => He.Fa.ok K (.int "MOST_LENGTH" 400),
  fun K => plainB K (adK K "is_integer"),
  fun K => PySem.W.keepIn K (.ref (adK K "is_integer")),
  fun K => He.eqO (PySem.W.nsIn K mainGlobals "is_integer") (some (some (.ref (adK K "is_integer")))),
  fun K => plainB K (adK K "is_count")]
def facts1 : List (PySem.W.Frag → Bool) := [
  fun K => PySem.W.keepIn K (.ref (adK K "is_count")),
  fun K => He.eqO (PySem.W.nsIn K mainGlobals "is_count") (some (some (.ref (adK K "is_count")))),
  fun K => plainB K (adK K "is_between"),
  fun K => PySem.W.keepIn K (.ref (adK K "is_between")),
  fun K => He.eqO (PySem.W.nsIn K mainGlobals "is_between") (some (some (.ref (adK K "is_between")))),
  fun K => plainB K (adK K "is_sign"),
  fun K => PySem.W.keepIn K (.ref (adK K "is_sign")),
  fun K => He.eqO (PySem.W.nsIn K mainGlobals "is_sign") (some (some (.ref (adK K "is_sign")))),
  fun K => plainB K (adK K "is_row"),
  fun K => PySem.W.keepIn K (.ref (adK K "is_row")),
  fun K => He.eqO (PySem.W.nsIn K mainGlobals "is_row") (some (some (.ref (adK K "is_row")))),
  fun K => plainB K (adK K "is_list"),
  fun K => PySem.W.keepIn K (.ref (adK K "is_list")),
  fun K => He.eqO (PySem.W.nsIn K mainGlobals "is_list") (some (some (.ref (adK K "is_list")))),
  fun K => plainB K (adK K "is_short_row"),
  fun K => PySem.W.keepIn K (.ref (adK K "is_short_row")),
  fun K => He.eqO (PySem.W.nsIn K mainGlobals "is_short_row") (some (some (.ref (adK K "is_short_row")))),
  fun K => plainB K (adK K "check_many"),
  fun K => PySem.W.keepIn K (.ref (adK K "check_many")),
  fun K => He.eqO (PySem.W.nsIn K mainGlobals "check_many") (some (some (.ref (adK K "check_many")))),
  fun K => plainB K (adK K "check_state"),
  fun K => PySem.W.keepIn K (.ref (adK K "check_state")),
  fun K => He.eqO (PySem.W.nsIn K mainGlobals "check_state") (some (some (.ref (adK K "check_state")))),
  fun K => plainB K (adK K "check_length"),
  fun K => PySem.W.keepIn K (.ref (adK K "check_length")),
  fun K => He.eqO (PySem.W.nsIn K mainGlobals "check_length") (some (some (.ref (adK K "check_length")))),
  fun K => plainB K (adK K "is_dict_of_state"),
  fun K => PySem.W.keepIn K (.ref (adK K "is_dict_of_state")),
  fun K => He.eqO (PySem.W.nsIn K mainGlobals "is_dict_of_state") (some (some (.ref (adK K "is_dict_of_state")))),
  fun K => plainB K (adK K "check_table")]
def facts2 : List (PySem.W.Frag → Bool) := [
  fun K => PySem.W.keepIn K (.ref (adK K "check_table")),
  fun K => He.eqO (PySem.W.nsIn K mainGlobals "check_table") (some (some (.ref (adK K "check_table")))),
  fun K => plainB K (adK K "check_steps"),
  fun K => PySem.W.keepIn K (.ref (adK K "check_steps")),
  fun K => He.eqO (PySem.W.nsIn K mainGlobals "check_steps") (some (some (.ref (adK K "check_steps")))),
  fun K => plainB K (adK K "check_bounds"),
  fun K => PySem.W.keepIn K (.ref (adK K "check_bounds")),
  fun K => He.eqO (PySem.W.nsIn K mainGlobals "check_bounds") (some (some (.ref (adK K "check_bounds")))),
  fun K => plainB K (adK K "sums_table"),
  fun K => PySem.W.keepIn K (.ref (adK K "sums_table")),
  fun K => He.eqO (PySem.W.nsIn K mainGlobals "sums_table") (some (some (.ref (adK K "sums_table")))),
  fun K => plainB K (adK K "leads_of"),
  fun K => PySem.W.keepIn K (.ref (adK K "leads_of")),
  fun K => He.eqO (PySem.W.nsIn K mainGlobals "leads_of") (some (some (.ref (adK K "leads_of")))),
  fun K => plainB K (adK K "one_sum"),
  fun K => PySem.W.keepIn K (.ref (adK K "one_sum")),
  fun K => He.eqO (PySem.W.nsIn K mainGlobals "one_sum") (some (some (.ref (adK K "one_sum")))),
  fun K => plainB K (adK K "ends_sums"),
  fun K => PySem.W.keepIn K (.ref (adK K "ends_sums")),
  fun K => He.eqO (PySem.W.nsIn K mainGlobals "ends_sums") (some (some (.ref (adK K "ends_sums")))),
  fun K => plainB K (adK K "walked"),
  fun K => PySem.W.keepIn K (.ref (adK K "walked")),
  fun K => He.eqO (PySem.W.nsIn K mainGlobals "walked") (some (some (.ref (adK K "walked")))),
  fun K => plainB K (adK K "living_part"),
  fun K => PySem.W.keepIn K (.ref (adK K "living_part")),
  fun K => He.eqO (PySem.W.nsIn K mainGlobals "living_part") (some (some (.ref (adK K "living_part")))),
  fun K => plainB K (adK K "kinds_of"),
  fun K => PySem.W.keepIn K (.ref (adK K "kinds_of")),
  fun K => He.eqO (PySem.W.nsIn K mainGlobals "kinds_of") (some (some (.ref (adK K "kinds_of")))),
  fun K => plainB K (adK K "numbered")]
def facts3 : List (PySem.W.Frag → Bool) := [
  fun K => PySem.W.keepIn K (.ref (adK K "numbered")),
  fun K => He.eqO (PySem.W.nsIn K mainGlobals "numbered") (some (some (.ref (adK K "numbered")))),
  fun K => dfnB K (adK K "least_table") [.int 0],
  fun K => PySem.W.keepIn K (.ref (adK K "least_table")),
  fun K => He.eqO (PySem.W.nsIn K mainGlobals "least_table") (some (some (.ref (adK K "least_table")))),
  fun K => plainB K (adK K "meet_table"),
  fun K => PySem.W.keepIn K (.ref (adK K "meet_table")),
  fun K => He.eqO (PySem.W.nsIn K mainGlobals "meet_table") (some (some (.ref (adK K "meet_table")))),
  fun K => dfnB K (adK K "medium_table") [.int 0],
  fun K => PySem.W.keepIn K (.ref (adK K "medium_table")),
  fun K => He.eqO (PySem.W.nsIn K mainGlobals "medium_table") (some (some (.ref (adK K "medium_table")))),
  fun K => plainB K (adK K "check_medium"),
  fun K => PySem.W.keepIn K (.ref (adK K "check_medium")),
  fun K => He.eqO (PySem.W.nsIn K mainGlobals "check_medium") (some (some (.ref (adK K "check_medium")))),
  fun K => plainB K (adK K "check_media"),
  fun K => PySem.W.keepIn K (.ref (adK K "check_media")),
  fun K => He.eqO (PySem.W.nsIn K mainGlobals "check_media") (some (some (.ref (adK K "check_media")))),
  fun K => dfnB K (adK K "count") [.int 0],
  fun K => PySem.W.keepIn K (.ref (adK K "count")),
  fun K => He.eqO (PySem.W.nsIn K mainGlobals "count") (some (some (.ref (adK K "count")))),
  fun K => plainB K (adK K "check_start"),
  fun K => PySem.W.keepIn K (.ref (adK K "check_start")),
  fun K => He.eqO (PySem.W.nsIn K mainGlobals "check_start") (some (some (.ref (adK K "check_start")))),
  fun K => plainB K (adK K "ones"),
  fun K => PySem.W.keepIn K (.ref (adK K "ones")),
  fun K => He.eqO (PySem.W.nsIn K mainGlobals "ones") (some (some (.ref (adK K "ones")))),
  fun K => plainB K (adK K "_law_pot"),
  fun K => PySem.W.keepIn K (.ref (adK K "_law_pot")),
  fun K => He.eqO (PySem.W.nsIn K mainGlobals "_law_pot") (some (some (.ref (adK K "_law_pot")))),
  fun K => plainB K (adK K "_law_draw")]
def facts4 : List (PySem.W.Frag → Bool) := [
  fun K => PySem.W.keepIn K (.ref (adK K "_law_draw")),
  fun K => He.eqO (PySem.W.nsIn K mainGlobals "_law_draw") (some (some (.ref (adK K "_law_draw")))),
  fun K => plainB K (adK K "_law_pick"),
  fun K => PySem.W.keepIn K (.ref (adK K "_law_pick")),
  fun K => He.eqO (PySem.W.nsIn K mainGlobals "_law_pick") (some (some (.ref (adK K "_law_pick")))),
  fun K => plainB K (adK K "_law_raw"),
  fun K => PySem.W.keepIn K (.ref (adK K "_law_raw")),
  fun K => He.eqO (PySem.W.nsIn K mainGlobals "_law_raw") (some (some (.ref (adK K "_law_raw")))),
  fun K => plainB K (adK K "_law_unlike"),
  fun K => PySem.W.keepIn K (.ref (adK K "_law_unlike")),
  fun K => He.eqO (PySem.W.nsIn K mainGlobals "_law_unlike") (some (some (.ref (adK K "_law_unlike")))),
  fun K => plainB K (adK K "_law_table"),
  fun K => PySem.W.keepIn K (.ref (adK K "_law_table")),
  fun K => He.eqO (PySem.W.nsIn K mainGlobals "_law_table") (some (some (.ref (adK K "_law_table")))),
  fun K => plainB K (adK K "_law_walks"),
  fun K => PySem.W.keepIn K (.ref (adK K "_law_walks")),
  fun K => He.eqO (PySem.W.nsIn K mainGlobals "_law_walks") (some (some (.ref (adK K "_law_walks")))),
  fun K => plainB K (adK K "_law_counts"),
  fun K => PySem.W.keepIn K (.ref (adK K "_law_counts")),
  fun K => He.eqO (PySem.W.nsIn K mainGlobals "_law_counts") (some (some (.ref (adK K "_law_counts")))),
  fun K => plainB K (adK K "_law_length_right"),
  fun K => PySem.W.keepIn K (.ref (adK K "_law_length_right")),
  fun K => He.eqO (PySem.W.nsIn K mainGlobals "_law_length_right") (some (some (.ref (adK K "_law_length_right")))),
  fun K => plainB K (adK K "_law_right"),
  fun K => PySem.W.keepIn K (.ref (adK K "_law_right")),
  fun K => He.eqO (PySem.W.nsIn K mainGlobals "_law_right") (some (some (.ref (adK K "_law_right")))),
  fun K => plainB K (adK K "law"),
  fun K => PySem.W.keepIn K (.ref (adK K "law")),
  fun K => He.eqO (PySem.W.nsIn K mainGlobals "law") (some (some (.ref (adK K "law")))),
  fun K => He.eqO (PySem.W.nsIn K mainGlobals "Medium") (some (some (.ref (adK K "Medium"))))]
def facts5 : List (PySem.W.Frag → Bool) := [
  fun K => PySem.W.plainGet K (adK K "Medium") Str.empty,
  fun K => PySem.W.hasDictIn K (adK K "Medium"),
  fun K => PySem.W.plainOver K (adK K "Medium"),
  fun K => decide (PySem.W.findIn K (.ref (adK K "Medium")) "__setattr__" = some (some (.builtin "object.__setattr__"))),
  fun K => PySem.W.makesIn K (adK K "Medium"),
  fun K => decide (PySem.W.findIn K (.ref (adK K "Medium")) "__init__" = some (some (.ref (adK K "Medium.__init__")))),
  fun K => PySem.W.isFn K (.ref (adK K "Medium.__init__")),
  fun K => PySem.W.keepIn K (.ref (adK K "Medium")),
  fun K => He.eqO (PySem.W.findIn K (.ref (adK K "Medium")) "_many") (some none),
  fun K => He.eqO (PySem.W.findIn K (.ref (adK K "Medium")) "_table") (some none),
  fun K => He.eqO (PySem.W.findIn K (.ref (adK K "Medium")) "_leads") (some none),
  fun K => conSB K (adK K "Medium") "LETTERS" "abcd",
  fun K => cvalB K (adK K "Medium") "MOST_STATES" 16,
  fun K => PySem.W.readsIn K (adK K "Medium") (.type "type"),
  fun K => decide (PySem.W.specialIn K (.ref (adK K "Medium")) "__getattribute__" = some (some (.builtin "type.__getattribute__"))),
  fun K => plainB K (adK K "Medium.__init__"),
  fun K => PySem.W.keepIn K (.ref (adK K "Medium.__init__")),
  fun K => plainB K (adK K "Medium.table"),
  fun K => PySem.W.keepIn K (.ref (adK K "Medium.table")),
  fun K => plainB K (adK K "Medium.leads"),
  fun K => PySem.W.keepIn K (.ref (adK K "Medium.leads")),
  fun K => plainB K (adK K "Medium.__len__"),
  fun K => PySem.W.keepIn K (.ref (adK K "Medium.__len__")),
  fun K => plainB K (adK K "Medium.__eq__"),
  fun K => PySem.W.keepIn K (.ref (adK K "Medium.__eq__")),
  fun K => decide (PySem.W.findIn K (.ref (adK K "Medium")) "table" = some (some (.ref (adK K "Medium.table")))),
  fun K => PySem.W.isFn K (.ref (adK K "Medium.table")),
  fun K => PySem.W.keepIn K (.ref (adK K "Medium.table")),
  fun K => decide (PySem.W.findIn K (.ref (adK K "Medium")) "leads" = some (some (.ref (adK K "Medium.leads")))),
  fun K => PySem.W.isFn K (.ref (adK K "Medium.leads"))]
def facts6 : List (PySem.W.Frag → Bool) := [
  fun K => PySem.W.keepIn K (.ref (adK K "Medium.leads")),
  fun K => decide (PySem.W.findIn K (.ref (adK K "Medium")) "__len__" = some (some (.ref (adK K "Medium.__len__")))),
  fun K => PySem.W.isFn K (.ref (adK K "Medium.__len__")),
  fun K => decide (PySem.W.findIn K (.ref (adK K "Medium")) "__eq__" = some (some (.ref (adK K "Medium.__eq__")))),
  fun K => PySem.W.isFn K (.ref (adK K "Medium.__eq__")),
  fun K => decide (PySem.W.findIn K (.ref (adK K "Medium")) "__class__" = some (some (.builtin "object.__class__"))),
  fun K => decide (PySem.W.mroIn K (adK K "Medium") (.type "object") = some true),
  fun K => decide (PySem.W.specialIn K (.builtin "object.__class__") "__get__" = some (some (.builtin "getset_descriptor.__get__"))),
  fun K => decide (PySem.W.takesIn K (.builtin "object.__class__") = some true)]
def facts : List (PySem.W.Frag → Bool) := facts0 ++ (facts1 ++ (facts2 ++ (facts3 ++ (facts4 ++ (facts5 ++ (facts6))))))
def fnd0 : List (Str × (Str × Str × Arguments × FuncBody × Scope × Addr × List (Str × Addr) × Addr)) := [
  ("is_integer", ("is_integer", "is_integer", defArgs sIsInteger, .stmts (defBody sIsInteger), defScope sIsInteger, mainGlobals, [], builtinsNs)),
  ("is_count", ("is_count", "is_count", defArgs sIsCount, .stmts (defBody sIsCount), defScope sIsCount, mainGlobals, [], builtinsNs)),
  ("is_between", ("is_between", "is_between", defArgs sIsBetween, .stmts (defBody sIsBetween), defScope sIsBetween, mainGlobals, [], builtinsNs)),
  ("is_sign", ("is_sign", "is_sign", defArgs sIsSign, .stmts (defBody sIsSign), defScope sIsSign, mainGlobals, [], builtinsNs)),
  ("is_row", ("is_row", "is_row", defArgs sIsRow, .stmts (defBody sIsRow), defScope sIsRow, mainGlobals, [], builtinsNs)),
  ("is_list", ("is_list", "is_list", defArgs sIsList, .stmts (defBody sIsList), defScope sIsList, mainGlobals, [], builtinsNs)),
  ("is_short_row", ("is_short_row", "is_short_row", defArgs sIsShortRow, .stmts (defBody sIsShortRow), defScope sIsShortRow, mainGlobals, [], builtinsNs)),
  ("check_many", ("check_many", "check_many", defArgs sCheckMany, .stmts (defBody sCheckMany), defScope sCheckMany, mainGlobals, [], builtinsNs)),
  ("check_state", ("check_state", "check_state", defArgs sCheckState, .stmts (defBody sCheckState), defScope sCheckState, mainGlobals, [], builtinsNs)),
  ("check_length", ("check_length", "check_length", defArgs sCheckLength, .stmts (defBody sCheckLength), defScope sCheckLength, mainGlobals, [], builtinsNs)),
  ("is_dict_of_state", ("is_dict_of_state", "is_dict_of_state", defArgs sIsDictOfState, .stmts (defBody sIsDictOfState), defScope sIsDictOfState, mainGlobals, [], builtinsNs)),
  ("check_table", ("check_table", "check_table", defArgs sCheckTable, .stmts (defBody sCheckTable), defScope sCheckTable, mainGlobals, [], builtinsNs)),
  ("check_steps", ("check_steps", "check_steps", defArgs sCheckSteps, .stmts (defBody sCheckSteps), defScope sCheckSteps, mainGlobals, [], builtinsNs)),
  ("check_bounds", ("check_bounds", "check_bounds", defArgs sCheckBounds, .stmts (defBody sCheckBounds), defScope sCheckBounds, mainGlobals, [], builtinsNs)),
  ("sums_table", ("sums_table", "sums_table", defArgs sSumsTable, .stmts (defBody sSumsTable), defScope sSumsTable, mainGlobals, [], builtinsNs)),
  ("leads_of", ("leads_of", "leads_of", defArgs sLeadsOf, .stmts (defBody sLeadsOf), defScope sLeadsOf, mainGlobals, [], builtinsNs)),
  ("one_sum", ("one_sum", "one_sum", defArgs sOneSum, .stmts (defBody sOneSum), defScope sOneSum, mainGlobals, [], builtinsNs)),
  ("ends_sums", ("ends_sums", "ends_sums", defArgs sEndsSums, .stmts (defBody sEndsSums), defScope sEndsSums, mainGlobals, [], builtinsNs)),
  ("walked", ("walked", "walked", defArgs sWalked, .stmts (defBody sWalked), defScope sWalked, mainGlobals, [], builtinsNs)),
  ("living_part", ("living_part", "living_part", defArgs sLivingPart, .stmts (defBody sLivingPart), defScope sLivingPart, mainGlobals, [], builtinsNs)),
  ("kinds_of", ("kinds_of", "kinds_of", defArgs sKindsOf, .stmts (defBody sKindsOf), defScope sKindsOf, mainGlobals, [], builtinsNs)),
  ("numbered", ("numbered", "numbered", defArgs sNumbered, .stmts (defBody sNumbered), defScope sNumbered, mainGlobals, [], builtinsNs)),
  ("least_table", ("least_table", "least_table", defArgs sLeastTable, .stmts (defBody sLeastTable), defScope sLeastTable, mainGlobals, [], builtinsNs)),
  ("meet_table", ("meet_table", "meet_table", defArgs sMeetTable, .stmts (defBody sMeetTable), defScope sMeetTable, mainGlobals, [], builtinsNs)),
  ("medium_table", ("medium_table", "medium_table", defArgs sMediumTable, .stmts (defBody sMediumTable), defScope sMediumTable, mainGlobals, [], builtinsNs)),
  ("check_medium", ("check_medium", "check_medium", defArgs sCheckMedium, .stmts (defBody sCheckMedium), defScope sCheckMedium, mainGlobals, [], builtinsNs)),
  ("check_media", ("check_media", "check_media", defArgs sCheckMedia, .stmts (defBody sCheckMedia), defScope sCheckMedia, mainGlobals, [], builtinsNs)),
  ("count", ("count", "count", defArgs sCount, .stmts (defBody sCount), defScope sCount, mainGlobals, [], builtinsNs)),
  ("check_start", ("check_start", "check_start", defArgs sCheckStart, .stmts (defBody sCheckStart), defScope sCheckStart, mainGlobals, [], builtinsNs)),
  ("ones", ("ones", "ones", defArgs sOnes, .stmts (defBody sOnes), defScope sOnes, mainGlobals, [], builtinsNs))]
def fnd1 : List (Str × (Str × Str × Arguments × FuncBody × Scope × Addr × List (Str × Addr) × Addr)) := [
  ("_law_pot", ("_law_pot", "_law_pot", defArgs sPot, .stmts (defBody sPot), defScope sPot, mainGlobals, [], builtinsNs)),
  ("_law_draw", ("_law_draw", "_law_draw", defArgs sDraw, .stmts (defBody sDraw), defScope sDraw, mainGlobals, [], builtinsNs)),
  ("_law_pick", ("_law_pick", "_law_pick", defArgs sPick, .stmts (defBody sPick), defScope sPick, mainGlobals, [], builtinsNs)),
  ("_law_raw", ("_law_raw", "_law_raw", defArgs sRaw, .stmts (defBody sRaw), defScope sRaw, mainGlobals, [], builtinsNs)),
  ("_law_unlike", ("_law_unlike", "_law_unlike", defArgs sUnlike, .stmts (defBody sUnlike), defScope sUnlike, mainGlobals, [], builtinsNs)),
  ("_law_table", ("_law_table", "_law_table", defArgs sTable, .stmts (defBody sTable), defScope sTable, mainGlobals, [], builtinsNs)),
  ("_law_walks", ("_law_walks", "_law_walks", defArgs sWalks, .stmts (defBody sWalks), defScope sWalks, mainGlobals, [], builtinsNs)),
  ("_law_counts", ("_law_counts", "_law_counts", defArgs sCounts, .stmts (defBody sCounts), defScope sCounts, mainGlobals, [], builtinsNs)),
  ("_law_length_right", ("_law_length_right", "_law_length_right", defArgs sLengthRight, .stmts (defBody sLengthRight), defScope sLengthRight, mainGlobals, [], builtinsNs)),
  ("_law_right", ("_law_right", "_law_right", defArgs sRight, .stmts (defBody sRight), defScope sRight, mainGlobals, [], builtinsNs)),
  ("law", ("law", "law", defArgs sLaw, .stmts (defBody sLaw), defScope sLaw, mainGlobals, [], builtinsNs)),
  ("Medium.__init__", ("__init__", "Medium.__init__", defArgs sM_init, .stmts (defBody sM_init), defScope sM_init, mainGlobals, [], builtinsNs)),
  ("Medium.table", ("table", "Medium.table", defArgs sM_table, .stmts (defBody sM_table), defScope sM_table, mainGlobals, [], builtinsNs)),
  ("Medium.leads", ("leads", "Medium.leads", defArgs sM_leads, .stmts (defBody sM_leads), defScope sM_leads, mainGlobals, [], builtinsNs)),
  ("Medium.__len__", ("__len__", "Medium.__len__", defArgs sM_len, .stmts (defBody sM_len), defScope sM_len, mainGlobals, [], builtinsNs)),
  ("Medium.__eq__", ("__eq__", "Medium.__eq__", defArgs sM_eq, .stmts (defBody sM_eq), defScope sM_eq, mainGlobals, [], builtinsNs))]
def fnd : List (Str × (Str × Str × Arguments × FuncBody × Scope × Addr × List (Str × Addr) × Addr)) := fnd0 ++ (fnd1)
abbrev AlK : Type := Bool × List He.FnW
def obsK (K : PySem.W.Frag) : AlK := (facts.all fun f => f K, fnd.map fun p => fnA K (adK K p.1))
def valK : AlK := (true, fnd.map fun p => some p.2)
def obG (g : Addr → Option Obj) : AlK := obsK (He.frG g addrs)
def hookK : PySem.W.Hook where
  α := AlK
  obs := fun s => obG s.heap.get?
  val := fun _ => valK
  says := fun _ h => ∃ K : PySem.W.Frag, K.In h ∧ obsK K = valK
  of := fun _ _ e => ⟨_, He.frG_in, e⟩
  keeps := fun _ _ _ ⟨K, hK, c⟩ k => ⟨K, PySem.W.Frag.In.keeps hK k, c⟩
def ob (s : PySem.W.SharedT) : AlK := obG (HandSHeadRun.getT s)
theorem ob_eq (s : PySem.W.SharedT) : ob s = hookK.obs s.abs := by
  have e : HandSHeadRun.getT s = s.abs.heap.get? := funext (HandSHeadRun.getT_eq s)
  show obG _ = obG _
  rw [e]
theorem fx {K : PySem.W.Frag} (c : obsK K = valK) (i : Nat) {f : PySem.W.Frag → Bool} (h : facts[i]? = some f := by rfl) : f K = true := by
  have c1 : (facts.all fun f => f K) = true := congrArg (fun z : AlK => z.1) c
  exact List.all_eq_true.mp c1 f (List.mem_of_getElem? h)
theorem fnx {K : PySem.W.Frag} (c : obsK K = valK) (i : Nat) {x : Str} {d : Str × Str × Arguments × FuncBody × Scope × Addr × List (Str × Addr) × Addr} (h : fnd[i]? = some (x, d) := by rfl) : fnA K (adK K x) = some d := by
  have e : fnd.map (fun p => fnA K (adK K p.1)) = fnd.map fun p => some p.2 := congrArg (fun z : AlK => z.2) c
  have e2 : (fnd.map fun p => fnA K (adK K p.1))[i]? = (fnd.map fun p => some p.2)[i]? := by rw [e]
  rw [List.getElem?_map, List.getElem?_map, h] at e2
  exact Option.some.inj e2
theorem sys_of {K : PySem.W.Frag} (h : (match K.lookup sysModules with | some o => decide (o.cls ≠ .type "list") | none => false) = true) : ∃ o, K.lookup sysModules = some o ∧ o.cls ≠ .type "list" := by
  cases e : K.lookup sysModules with
  | none => rw [e] at h; cases h
  | some o => rw [e] at h; exact ⟨o, rfl, of_decide_eq_true h⟩
theorem fun_of {K : PySem.W.Frag} {nm x : Str} {st : Stmt} (e : fnA K (adK K x) = some (nm, x, defArgs st, .stmts (defBody st), defScope st, mainGlobals, [], builtinsNs)) (c : plainB K (adK K x) = true) (k : PySem.W.keepIn K (.ref (adK K x)) = true) : Fun K nm x st (adK K x) (fdK K x) := by
  obtain ⟨oc, od, doc, pm, an, cdv, ct, osl, ho, hc⟩ := fn_at e c
  have ef : fdK K x = PySem.W.fnOf nm x (defArgs st) (defBody st) (defScope st) .none .none doc pm an cdv ct := by
    unfold fdK
    rw [ho]
  refine ⟨⟨oc, od, .none, doc, pm, an, cdv, ct, osl, ef, ?_, hc⟩, k⟩
  rw [ef]; exact ho
theorem funV_of {K : PySem.W.Frag} {nm x : Str} {st : Stmt} {dvs : List V} (e : fnA K (adK K x) = some (nm, x, defArgs st, .stmts (defBody st), defScope st, mainGlobals, [], builtinsNs)) (c : dfnB K (adK K x) dvs = true) (k : PySem.W.keepIn K (.ref (adK K x)) = true) : FunV K nm x st dvs (adK K x) (fdK K x) := by
  obtain ⟨oc, od, dV, kV, doc, pm, an, cdv, ct, osl, ho, hd, hc⟩ := fnV_at e c
  have ef : fdK K x = PySem.W.fnOf nm x (defArgs st) (defBody st) (defScope st) dV kV doc pm an cdv ct := by
    unfold fdK
    rw [ho]
  refine ⟨⟨oc, od, dV, kV, doc, pm, an, cdv, ct, osl, ef, ?_, hc, hd, .inl rfl⟩, k⟩
  rw [ef]; exact ho
section
variable {K : PySem.W.Frag} {h : Heap} {mg : Str → Option Value}
theorem txK (X : K.In h) (G : h.Ns mainGlobals mg) (c : obsK K = valK) : Tx K mg (adK K) (fdK K) where
  m_isinstance := (PySem.W.mg_none_of X G (He.eqO_ok (fx c 0)))
  m_int := (PySem.W.mg_none_of X G (He.eqO_ok (fx c 1)))
  m_bool := (PySem.W.mg_none_of X G (He.eqO_ok (fx c 2)))
  m_str := (PySem.W.mg_none_of X G (He.eqO_ok (fx c 3)))
  m_all := (PySem.W.mg_none_of X G (He.eqO_ok (fx c 4)))
  m_any := (PySem.W.mg_none_of X G (He.eqO_ok (fx c 5)))
  m_len := (PySem.W.mg_none_of X G (He.eqO_ok (fx c 6)))
  m_abs := (PySem.W.mg_none_of X G (He.eqO_ok (fx c 7)))
  m_max := (PySem.W.mg_none_of X G (He.eqO_ok (fx c 8)))
  m_min := (PySem.W.mg_none_of X G (He.eqO_ok (fx c 9)))
  m_divmod := (PySem.W.mg_none_of X G (He.eqO_ok (fx c 10)))
  m_range := (PySem.W.mg_none_of X G (He.eqO_ok (fx c 11)))
  m_repr := (PySem.W.mg_none_of X G (He.eqO_ok (fx c 12)))
  m_dict := (PySem.W.mg_none_of X G (He.eqO_ok (fx c 13)))
  m_list := (PySem.W.mg_none_of X G (He.eqO_ok (fx c 14)))
  m_tuple := (PySem.W.mg_none_of X G (He.eqO_ok (fx c 15)))
  m_enumerate := (PySem.W.mg_none_of X G (He.eqO_ok (fx c 16)))
  m_sum := (PySem.W.mg_none_of X G (He.eqO_ok (fx c 17)))
  m_sorted := (PySem.W.mg_none_of X G (He.eqO_ok (fx c 18)))
  m_ValueError := (PySem.W.mg_none_of X G (He.eqO_ok (fx c 19)))
  m_ArithmeticError := (PySem.W.mg_none_of X G (He.eqO_ok (fx c 20)))
  sys := sys_of (fx c 21)
  g_ALL_SIGNS := He.str_ok X G (fx c 22)
  g_MOST_IN_ROW := He.int_ok X G (fx c 23)
  g_MOST_IN_TABLE := He.int_ok X G (fx c 24)
  g_MOST_LENGTH := He.int_ok X G (fx c 25)
  F_is_integer := (fun_of (st := sIsInteger) (fnx c 0) (fx c 26) (fx c 27))
  g_is_integer := (PySem.W.mg_of X G (He.eqO_ok (fx c 28)))
  b_is_integer := (fun_of (st := sIsInteger) (fnx c 0) (fx c 26) (fx c 27)).binds (ps := ["value"]) fun _ _ _ _ _ _ us hl => match us, hl with | [_], _ => rfl
  F_is_count := (fun_of (st := sIsCount) (fnx c 1) (fx c 29) (fx c 30))
  g_is_count := (PySem.W.mg_of X G (He.eqO_ok (fx c 31)))
  b_is_count := (fun_of (st := sIsCount) (fnx c 1) (fx c 29) (fx c 30)).binds (ps := ["value"]) fun _ _ _ _ _ _ us hl => match us, hl with | [_], _ => rfl
  F_is_between := (fun_of (st := sIsBetween) (fnx c 2) (fx c 32) (fx c 33))
  g_is_between := (PySem.W.mg_of X G (He.eqO_ok (fx c 34)))
  b_is_between := (fun_of (st := sIsBetween) (fnx c 2) (fx c 32) (fx c 33)).binds (ps := ["value", "low", "high"]) fun _ _ _ _ _ _ us hl => match us, hl with | [_, _, _], _ => rfl
  F_is_sign := (fun_of (st := sIsSign) (fnx c 3) (fx c 35) (fx c 36))
  g_is_sign := (PySem.W.mg_of X G (He.eqO_ok (fx c 37)))
  b_is_sign := (fun_of (st := sIsSign) (fnx c 3) (fx c 35) (fx c 36)).binds (ps := ["value", "signs"]) fun _ _ _ _ _ _ us hl => match us, hl with | [_, _], _ => rfl
  F_is_row := (fun_of (st := sIsRow) (fnx c 4) (fx c 38) (fx c 39))
  g_is_row := (PySem.W.mg_of X G (He.eqO_ok (fx c 40)))
  b_is_row := (fun_of (st := sIsRow) (fnx c 4) (fx c 38) (fx c 39)).binds (ps := ["value"]) fun _ _ _ _ _ _ us hl => match us, hl with | [_], _ => rfl
  F_is_list := (fun_of (st := sIsList) (fnx c 5) (fx c 41) (fx c 42))
  g_is_list := (PySem.W.mg_of X G (He.eqO_ok (fx c 43)))
  b_is_list := (fun_of (st := sIsList) (fnx c 5) (fx c 41) (fx c 42)).binds (ps := ["value"]) fun _ _ _ _ _ _ us hl => match us, hl with | [_], _ => rfl
  F_is_short_row := (fun_of (st := sIsShortRow) (fnx c 6) (fx c 44) (fx c 45))
  g_is_short_row := (PySem.W.mg_of X G (He.eqO_ok (fx c 46)))
  b_is_short_row := (fun_of (st := sIsShortRow) (fnx c 6) (fx c 44) (fx c 45)).binds (ps := ["value"]) fun _ _ _ _ _ _ us hl => match us, hl with | [_], _ => rfl
  F_check_many := (fun_of (st := sCheckMany) (fnx c 7) (fx c 47) (fx c 48))
  g_check_many := (PySem.W.mg_of X G (He.eqO_ok (fx c 49)))
  b_check_many := (fun_of (st := sCheckMany) (fnx c 7) (fx c 47) (fx c 48)).binds (ps := ["many"]) fun _ _ _ _ _ _ us hl => match us, hl with | [_], _ => rfl
  F_check_state := (fun_of (st := sCheckState) (fnx c 8) (fx c 50) (fx c 51))
  g_check_state := (PySem.W.mg_of X G (He.eqO_ok (fx c 52)))
  b_check_state := (fun_of (st := sCheckState) (fnx c 8) (fx c 50) (fx c 51)).binds (ps := ["state", "size"]) fun _ _ _ _ _ _ us hl => match us, hl with | [_, _], _ => rfl
  F_check_length := (fun_of (st := sCheckLength) (fnx c 9) (fx c 53) (fx c 54))
  g_check_length := (PySem.W.mg_of X G (He.eqO_ok (fx c 55)))
  b_check_length := (fun_of (st := sCheckLength) (fnx c 9) (fx c 53) (fx c 54)).binds (ps := ["length", "least", "most"]) fun _ _ _ _ _ _ us hl => match us, hl with | [_, _, _], _ => rfl
  F_is_dict_of_state := (fun_of (st := sIsDictOfState) (fnx c 10) (fx c 56) (fx c 57))
  g_is_dict_of_state := (PySem.W.mg_of X G (He.eqO_ok (fx c 58)))
  b_is_dict_of_state := (fun_of (st := sIsDictOfState) (fnx c 10) (fx c 56) (fx c 57)).binds (ps := ["value", "signs", "size"]) fun _ _ _ _ _ _ us hl => match us, hl with | [_, _, _], _ => rfl
  F_check_table := (fun_of (st := sCheckTable) (fnx c 11) (fx c 59) (fx c 60))
  g_check_table := (PySem.W.mg_of X G (He.eqO_ok (fx c 61)))
  b_check_table := (fun_of (st := sCheckTable) (fnx c 11) (fx c 59) (fx c 60)).binds (ps := ["table", "signs"]) fun _ _ _ _ _ _ us hl => match us, hl with | [_, _], _ => rfl
  F_check_steps := (fun_of (st := sCheckSteps) (fnx c 12) (fx c 62) (fx c 63))
  g_check_steps := (PySem.W.mg_of X G (He.eqO_ok (fx c 64)))
  b_check_steps := (fun_of (st := sCheckSteps) (fnx c 12) (fx c 62) (fx c 63)).binds (ps := ["steps"]) fun _ _ _ _ _ _ us hl => match us, hl with | [_], _ => rfl
  F_check_bounds := (fun_of (st := sCheckBounds) (fnx c 13) (fx c 65) (fx c 66))
  g_check_bounds := (PySem.W.mg_of X G (He.eqO_ok (fx c 67)))
  b_check_bounds := (fun_of (st := sCheckBounds) (fnx c 13) (fx c 65) (fx c 66)).binds (ps := ["low", "high"]) fun _ _ _ _ _ _ us hl => match us, hl with | [_, _], _ => rfl
  F_sums_table := (fun_of (st := sSumsTable) (fnx c 14) (fx c 68) (fx c 69))
  g_sums_table := (PySem.W.mg_of X G (He.eqO_ok (fx c 70)))
  b_sums_table := (fun_of (st := sSumsTable) (fnx c 14) (fx c 68) (fx c 69)).binds (ps := ["signs", "steps", "low", "high"]) fun _ _ _ _ _ _ us hl => match us, hl with | [_, _, _, _], _ => rfl
  F_leads_of := (fun_of (st := sLeadsOf) (fnx c 15) (fx c 71) (fx c 72))
  g_leads_of := (PySem.W.mg_of X G (He.eqO_ok (fx c 73)))
  b_leads_of := (fun_of (st := sLeadsOf) (fnx c 15) (fx c 71) (fx c 72)).binds (ps := ["table", "signs"]) fun _ _ _ _ _ _ us hl => match us, hl with | [_, _], _ => rfl
  F_one_sum := (fun_of (st := sOneSum) (fnx c 16) (fx c 74) (fx c 75))
  g_one_sum := (PySem.W.mg_of X G (He.eqO_ok (fx c 76)))
  b_one_sum := (fun_of (st := sOneSum) (fnx c 16) (fx c 74) (fx c 75)).binds (ps := ["leads", "numbers"]) fun _ _ _ _ _ _ us hl => match us, hl with | [_, _], _ => rfl
  F_ends_sums := (fun_of (st := sEndsSums) (fnx c 17) (fx c 77) (fx c 78))
  g_ends_sums := (PySem.W.mg_of X G (He.eqO_ok (fx c 79)))
  b_ends_sums := (fun_of (st := sEndsSums) (fnx c 17) (fx c 77) (fx c 78)).binds (ps := ["leads", "length", "numbers"]) fun _ _ _ _ _ _ us hl => match us, hl with | [_, _, _], _ => rfl
  F_walked := (fun_of (st := sWalked) (fnx c 18) (fx c 80) (fx c 81))
  g_walked := (PySem.W.mg_of X G (He.eqO_ok (fx c 82)))
  b_walked := (fun_of (st := sWalked) (fnx c 18) (fx c 80) (fx c 81)).binds (ps := ["table", "row", "state"]) fun _ _ _ _ _ _ us hl => match us, hl with | [_, _, _], _ => rfl
  F_living_part := (fun_of (st := sLivingPart) (fnx c 19) (fx c 83) (fx c 84))
  g_living_part := (PySem.W.mg_of X G (He.eqO_ok (fx c 85)))
  b_living_part := (fun_of (st := sLivingPart) (fnx c 19) (fx c 83) (fx c 84)).binds (ps := ["table"]) fun _ _ _ _ _ _ us hl => match us, hl with | [_], _ => rfl
  F_kinds_of := (fun_of (st := sKindsOf) (fnx c 20) (fx c 86) (fx c 87))
  g_kinds_of := (PySem.W.mg_of X G (He.eqO_ok (fx c 88)))
  b_kinds_of := (fun_of (st := sKindsOf) (fnx c 20) (fx c 86) (fx c 87)).binds (ps := ["table"]) fun _ _ _ _ _ _ us hl => match us, hl with | [_], _ => rfl
  F_numbered := (fun_of (st := sNumbered) (fnx c 21) (fx c 89) (fx c 90))
  g_numbered := (PySem.W.mg_of X G (He.eqO_ok (fx c 91)))
  b_numbered := (fun_of (st := sNumbered) (fnx c 21) (fx c 89) (fx c 90)).binds (ps := ["marks"]) fun _ _ _ _ _ _ us hl => match us, hl with | [_], _ => rfl
  F_least_table := (funV_of (st := sLeastTable) (x := "least_table") (dvs := [.int 0]) (fnx c 22) (fx c 92) (fx c 93))
  g_least_table := (PySem.W.mg_of X G (He.eqO_ok (fx c 94)))
  F_meet_table := (fun_of (st := sMeetTable) (fnx c 23) (fx c 95) (fx c 96))
  g_meet_table := (PySem.W.mg_of X G (He.eqO_ok (fx c 97)))
  b_meet_table := (fun_of (st := sMeetTable) (fnx c 23) (fx c 95) (fx c 96)).binds (ps := ["one", "other"]) fun _ _ _ _ _ _ us hl => match us, hl with | [_, _], _ => rfl
  F_medium_table := (funV_of (st := sMediumTable) (x := "medium_table") (dvs := [.int 0]) (fnx c 24) (fx c 98) (fx c 99))
  g_medium_table := (PySem.W.mg_of X G (He.eqO_ok (fx c 100)))
  F_check_medium := (fun_of (st := sCheckMedium) (fnx c 25) (fx c 101) (fx c 102))
  g_check_medium := (PySem.W.mg_of X G (He.eqO_ok (fx c 103)))
  b_check_medium := (fun_of (st := sCheckMedium) (fnx c 25) (fx c 101) (fx c 102)).binds (ps := ["medium"]) fun _ _ _ _ _ _ us hl => match us, hl with | [_], _ => rfl
  F_check_media := (fun_of (st := sCheckMedia) (fnx c 26) (fx c 104) (fx c 105))
  g_check_media := (PySem.W.mg_of X G (He.eqO_ok (fx c 106)))
  b_check_media := (fun_of (st := sCheckMedia) (fnx c 26) (fx c 104) (fx c 105)).binds (ps := ["one", "other"]) fun _ _ _ _ _ _ us hl => match us, hl with | [_, _], _ => rfl
  F_count := (funV_of (st := sCount) (x := "count") (dvs := [.int 0]) (fnx c 27) (fx c 107) (fx c 108))
  g_count := (PySem.W.mg_of X G (He.eqO_ok (fx c 109)))
  F_check_start := (fun_of (st := sCheckStart) (fnx c 28) (fx c 110) (fx c 111))
  g_check_start := (PySem.W.mg_of X G (He.eqO_ok (fx c 112)))
  b_check_start := (fun_of (st := sCheckStart) (fnx c 28) (fx c 110) (fx c 111)).binds (ps := ["medium", "length", "state"]) fun _ _ _ _ _ _ us hl => match us, hl with | [_, _, _], _ => rfl
  F_ones := (fun_of (st := sOnes) (fnx c 29) (fx c 113) (fx c 114))
  g_ones := (PySem.W.mg_of X G (He.eqO_ok (fx c 115)))
  b_ones := (fun_of (st := sOnes) (fnx c 29) (fx c 113) (fx c 114)).binds (ps := ["medium"]) fun _ _ _ _ _ _ us hl => match us, hl with | [_], _ => rfl
  F__law_pot := (fun_of (st := sPot) (fnx c 30) (fx c 116) (fx c 117))
  g__law_pot := (PySem.W.mg_of X G (He.eqO_ok (fx c 118)))
  b__law_pot := (fun_of (st := sPot) (fnx c 30) (fx c 116) (fx c 117)).binds (ps := ["_law_script", "_law_k"]) fun _ _ _ _ _ _ us hl => match us, hl with | [_, _], _ => rfl
  F__law_draw := (fun_of (st := sDraw) (fnx c 31) (fx c 119) (fx c 120))
  g__law_draw := (PySem.W.mg_of X G (He.eqO_ok (fx c 121)))
  b__law_draw := (fun_of (st := sDraw) (fnx c 31) (fx c 119) (fx c 120)).binds (ps := ["_law_pot_here", "_law_width_now"]) fun _ _ _ _ _ _ us hl => match us, hl with | [_, _], _ => rfl
  F__law_pick := (fun_of (st := sPick) (fnx c 32) (fx c 122) (fx c 123))
  g__law_pick := (PySem.W.mg_of X G (He.eqO_ok (fx c 124)))
  b__law_pick := (fun_of (st := sPick) (fnx c 32) (fx c 122) (fx c 123)).binds (ps := ["_law_pot_here", "_law_some"]) fun _ _ _ _ _ _ us hl => match us, hl with | [_, _], _ => rfl
  F__law_raw := (fun_of (st := sRaw) (fnx c 33) (fx c 125) (fx c 126))
  g__law_raw := (PySem.W.mg_of X G (He.eqO_ok (fx c 127)))
  b__law_raw := (fun_of (st := sRaw) (fnx c 33) (fx c 125) (fx c 126)).binds (ps := ["_law_pot_here", "_law_width_now"]) fun _ _ _ _ _ _ us hl => match us, hl with | [_, _], _ => rfl
  F__law_unlike := (fun_of (st := sUnlike) (fnx c 34) (fx c 128) (fx c 129))
  g__law_unlike := (PySem.W.mg_of X G (He.eqO_ok (fx c 130)))
  b__law_unlike := (fun_of (st := sUnlike) (fnx c 34) (fx c 128) (fx c 129)).binds (ps := ["_law_book"]) fun _ _ _ _ _ _ us hl => match us, hl with | [_], _ => rfl
  F__law_table := (fun_of (st := sTable) (fnx c 35) (fx c 131) (fx c 132))
  g__law_table := (PySem.W.mg_of X G (He.eqO_ok (fx c 133)))
  b__law_table := (fun_of (st := sTable) (fnx c 35) (fx c 131) (fx c 132)).binds (ps := ["_law_book"]) fun _ _ _ _ _ _ us hl => match us, hl with | [_], _ => rfl
  F__law_walks := (fun_of (st := sWalks) (fnx c 36) (fx c 134) (fx c 135))
  g__law_walks := (PySem.W.mg_of X G (He.eqO_ok (fx c 136)))
  b__law_walks := (fun_of (st := sWalks) (fnx c 36) (fx c 134) (fx c 135)).binds (ps := ["_law_chart", "_law_span", "_law_spot"]) fun _ _ _ _ _ _ us hl => match us, hl with | [_, _, _], _ => rfl
  F__law_counts := (fun_of (st := sCounts) (fnx c 37) (fx c 137) (fx c 138))
  g__law_counts := (PySem.W.mg_of X G (He.eqO_ok (fx c 139)))
  b__law_counts := (fun_of (st := sCounts) (fnx c 37) (fx c 137) (fx c 138)).binds (ps := ["_law_chart", "_law_span"]) fun _ _ _ _ _ _ us hl => match us, hl with | [_, _], _ => rfl
  F__law_length_right := (fun_of (st := sLengthRight) (fnx c 38) (fx c 140) (fx c 141))
  g__law_length_right := (PySem.W.mg_of X G (He.eqO_ok (fx c 142)))
  b__law_length_right := (fun_of (st := sLengthRight) (fnx c 38) (fx c 140) (fx c 141)).binds (ps := ["_law_tome", "_law_chart", "_law_span", "_law_due"]) fun _ _ _ _ _ _ us hl => match us, hl with | [_, _, _, _], _ => rfl
  F__law_right := (fun_of (st := sRight) (fnx c 39) (fx c 143) (fx c 144))
  g__law_right := (PySem.W.mg_of X G (He.eqO_ok (fx c 145)))
  b__law_right := (fun_of (st := sRight) (fnx c 39) (fx c 143) (fx c 144)).binds (ps := ["_law_pot_here"]) fun _ _ _ _ _ _ us hl => match us, hl with | [_], _ => rfl
  F_law := (fun_of (st := sLaw) (fnx c 40) (fx c 146) (fx c 147))
  g_law := (PySem.W.mg_of X G (He.eqO_ok (fx c 148)))
  b_law := (fun_of (st := sLaw) (fnx c 40) (fx c 146) (fx c 147)).binds (ps := ["_law_script"]) fun _ _ _ _ _ _ us hl => match us, hl with | [_], _ => rfl
theorem medC (X : K.In h) (G : h.Ns mainGlobals mg) (c : obsK K = valK) : MedC K mg (adK K) (fdK K) where
  G := (PySem.W.mg_of X G (He.eqO_ok (fx c 149)))
  cl := ⟨(fx c 150), (fx c 151), (fx c 152), (of_decide_eq_true (fx c 153))⟩
  mks := ⟨(fx c 154), (of_decide_eq_true (fx c 155)), (fx c 156), (fx c 157)⟩
  nm := He.eqO_ok (fx c 158)
  nt := He.eqO_ok (fx c 159)
  nl := He.eqO_ok (fx c 160)
  lets := conS_ok (fx c 161) (by decide +kernel)
  most := by
    obtain ⟨u, hu⟩ := cval_ok (fx c 162)
    exact ⟨.type "type", u, ⟨(fx c 163), (of_decide_eq_true (fx c 164))⟩, hu⟩
  F_init := (fun_of (st := sM_init) (fnx c 41) (fx c 165) (fx c 166))
  b_init := (fun_of (st := sM_init) (fnx c 41) (fx c 165) (fx c 166)).binds (ps := ["self", "many", "table"]) fun _ _ _ _ _ _ us hl => match us, hl with | [_, _, _], _ => rfl
  F_table := (fun_of (st := sM_table) (fnx c 42) (fx c 167) (fx c 168))
  b_table := (fun_of (st := sM_table) (fnx c 42) (fx c 167) (fx c 168)).binds (ps := ["self"]) fun _ _ _ _ _ _ us hl => match us, hl with | [_], _ => rfl
  F_leads := (fun_of (st := sM_leads) (fnx c 43) (fx c 169) (fx c 170))
  b_leads := (fun_of (st := sM_leads) (fnx c 43) (fx c 169) (fx c 170)).binds (ps := ["self"]) fun _ _ _ _ _ _ us hl => match us, hl with | [_], _ => rfl
  F_len := (fun_of (st := sM_len) (fnx c 44) (fx c 171) (fx c 172))
  b_len := (fun_of (st := sM_len) (fnx c 44) (fx c 171) (fx c 172)).binds (ps := ["self"]) fun _ _ _ _ _ _ us hl => match us, hl with | [_], _ => rfl
  F_eq := (fun_of (st := sM_eq) (fnx c 45) (fx c 173) (fx c 174))
  b_eq := (fun_of (st := sM_eq) (fnx c 45) (fx c 173) (fx c 174)).binds (ps := ["self", "other"]) fun _ _ _ _ _ _ us hl => match us, hl with | [_, _], _ => rfl
  m_table := ⟨(of_decide_eq_true (fx c 175)), (fx c 176), (fx c 177)⟩
  m_leads := ⟨(of_decide_eq_true (fx c 178)), (fx c 179), (fx c 180)⟩
  ln := (of_decide_eq_true (fx c 181))
  lnf := (fx c 182)
  eq := (of_decide_eq_true (fx c 183))
  eqf := (fx c 184)
  ca := (of_decide_eq_true (fx c 185))
  ob := (of_decide_eq_true (fx c 186))
  cn := (of_decide_eq_true (fx c 187))
  ct := (of_decide_eq_true (fx c 188))
end
end K20
end

section
set_option maxHeartbeats 0
namespace K20
open PySem PySem.W PySem.Calls PyProof.Rows
abbrev RW : OpenRow := OpenLaw.row PySem.Challenge.rw_barredrows_k20_rows_counted
abbrev qv : Program := view RW.prog [69]
def names0 : List PySem.Str := ["_wall", "BarredError", "InvalidSigns", "InvalidTable", "InvalidSteps", "InvalidBounds", "InvalidMedium", "InvalidState", "InvalidRow", "InvalidCount", "StateError", "NothingLeft", "OtherSigns", "LimitError", "TooMany", "ALL_SIGNS", "is_integer", "is_count", "is_between", "is_sign", "is_row", "MOST_IN_ROW", "MOST_IN_TABLE", "MOST_LENGTH", "is_list", "is_short_row", "check_many", "check_state", "check_length", "is_dict_of_state"]
def names1 : List PySem.Str := ["check_table", "check_steps", "check_bounds", "sums_table", "leads_of", "one_sum", "ends_sums", "walked", "living_part", "kinds_of", "numbered", "least_table", "meet_table", "Medium", "medium_table", "check_medium", "check_media", "count", "check_start", "ones", "_law_pot", "_law_draw", "_law_pick", "_law_raw", "_law_unlike", "_law_table", "_law_walks", "_law_counts", "_law_length_right", "_law_right"]
def names : List PySem.Str := names0 ++ names1
/-- the top's run -/
noncomputable abbrev runT (w : World) (os : OsState) : Option SharedT := HandSHeadRun.endF (HandSHeadRun.stepQ (HandSHeadRun.denQ HandSHeadRun.tabQ) RW.prog w) 13000 RW.prog w os
noncomputable def partB (fs : List (PySem.W.Frag → Bool)) (s : SharedT) : Bool := fs.all fun f => f (He.frG (HandSHeadRun.getT s) addrs)
noncomputable def partF (s : SharedT) : List He.FnW := fnd.map fun p => fnA (He.frG (HandSHeadRun.getT s) addrs) (adK (He.frG (HandSHeadRun.getT s) addrs) p.1)
def factsA : List (PySem.W.Frag → Bool) := facts0 ++ (facts1 ++ facts2)
def factsB : List (PySem.W.Frag → Bool) := facts3 ++ facts4
def factsC : List (PySem.W.Frag → Bool) := facts5 ++ facts6
theorem facts_all (K : PySem.W.Frag) : (facts.all fun f => f K) = ((factsA.all fun f => f K) && ((factsB.all fun f => f K) && factsC.all fun f => f K)) := by
  unfold facts factsA factsB factsC
  simp only [List.all_append, Bool.and_assoc]
end K20
end

section
set_option maxHeartbeats 0
namespace K20
open PySem PySem.W PySem.Calls PyProof.Rows
theorem run0 (w : World) (os : OsState) : (runT w os).map (fun s => (HandSHeadRun.looksF RW.prog (boot_heap w.params) s.abs, HandSHeadRun.seenQ qv names (importedModules RW.prog.main.body) (fun s => xlAt qv [] s && recOk RW.toRowW.records s) s.abs)) = some (true, openGood qv names) := by
  kernel_rfl
end K20
end

section
set_option maxHeartbeats 0
namespace K20
open PySem PySem.W PySem.Calls PyProof.Rows
theorem runA (w : World) (os : OsState) : (runT w os).map (partB factsA) = some true := by
  kernel_rfl
end K20
end

section
set_option maxHeartbeats 0
namespace K20
open PySem PySem.W PySem.Calls PyProof.Rows
theorem runB (w : World) (os : OsState) : (runT w os).map (partB factsB) = some true := by
  kernel_rfl
end K20
end

section
set_option maxHeartbeats 0
namespace K20
open PySem PySem.W PySem.Calls PyProof.Rows
theorem runC (w : World) (os : OsState) : (runT w os).map (partB factsC) = some true := by
  kernel_rfl
end K20
end

section
set_option maxHeartbeats 0
namespace K20
open PySem PySem.W PySem.Calls PyProof.Rows
theorem runFd (w : World) (os : OsState) : (runT w os).map partF = some (fnd.map fun p => some p.2) := by
  kernel_rfl
end K20
end

section
set_option maxHeartbeats 0
namespace K20
open PySem PySem.W PySem.Calls PyProof.Rows
theorem of_map {α β : Type} {x : Option α} {s : α} {f : α → β} {v : β} (e : x = some s) (h : x.map f = some v) : f s = v := by
  rw [e] at h
  exact Option.some.inj h
theorem runK (w : World) : HandSHeadRun.RunEq RW qv hookK ob 13000 names w := by
  intro os
  obtain ⟨s, es, e0⟩ := Option.map_eq_some_iff.mp (run0 w os)
  have eA := of_map es (runA w os)
  have eB := of_map es (runB w os)
  have eC := of_map es (runC w os)
  have eF := of_map es (runFd w os)
  have eo : ob s = valK := by
    show ((facts.all fun f => f (He.frG (HandSHeadRun.getT s) addrs)), partF s) = valK
    rw [facts_all, show (factsA.all fun f => f (He.frG (HandSHeadRun.getT s) addrs)) = true from eA, show (factsB.all fun f => f (He.frG (HandSHeadRun.getT s) addrs)) = true from eB, show (factsC.all fun f => f (He.frG (HandSHeadRun.getT s) addrs)) = true from eC, eF]
    rfl
  obtain ⟨e1, e2⟩ := Prod.mk.inj e0
  show (runT w os).map _ = _
  rw [es]
  show some (_, _, ob s) = _
  rw [eo, e1, e2]
  rfl
end K20
end

section
set_option maxHeartbeats 0
namespace K20
open PySem PySem.Spec PyProof.Rows L2
theorem walkE {l : PySem.W.OpenLaw} {n k : Nat} {q : Program} {loose : List Str} {XP : (Str → Option Value) → Heap → Prop} {YP : World → Heap → Prop} {d : DefRec} {x : Str}
    (hn : l.most = some n) (hn2 : n ≤ sizeLine) (hdf : d.params.defaults = []) (hr : Room k callerA)
    (F : ∀ (w : World) (mg : Str → Option Value) (fa : Addr) (h : Heap), YP w h → h.Ns mainGlobals mg → mg d.name = some (.ref fa) →
      ∃ (K : PySem.W.Frag) (fd : FuncData) (sp : Sp), K.In h ∧ (∀ (s : Shared) (u : Value), BindsTo s fd ⟨[u], []⟩ [(x, u)]) ∧
        (∀ (H : Hp) (a : Addr) (ns : List Int), ns.length ≤ n → Only H → SqL K H a (ns.map V.int) → sp [.ref a] H (fun v _ => v = .bl true) fun _ _ _ => False) ∧
        ∀ base : Heap, K.In base → base.Ns mainGlobals mg → FnG l.prog w K mg base k fa fd [x] sp) :
    PySem.W.WalkO q loose XP YP l.row.toRowW d [] (fun f vs => PySem.call f vs) := by
  refine Att.attach_call hn hdf fun w s₀ s₁ mg mb fa o pm cd doc a vs ns G Y ho hd hcd hmg hobj hints hlen hg => ?_
  obtain ⟨K, fd, sp, KX, hb, hsp, hF⟩ := F w mg fa _ Y G.T.g hmg
  exact law_endG KX G.T.g G.T.b G.T.builtins G.T.nolimit hg hobj hints (Nat.le_trans hlen hn2) hr hF hb fun H hO hS => hsp H a ns hlen hO hS
theorem lawF {P : Program} {w : World} {K : PySem.W.Frag} {h : Heap} {mg : Str → Option Value} {fa : Addr} (X : K.In h) (G : h.Ns mainGlobals mg) (hfa : mg ("law" : Str) = some (.ref fa)) (c : obsK K = valK) :
    (∀ (s : Shared) (u : Value), BindsTo s (fdK K "law") ⟨[u], []⟩ [("_law_script", u)]) ∧ ∀ base : Heap, K.In base → base.Ns mainGlobals mg → FnG P w K mg base 8 fa (fdK K "law") ["_law_script"] (spLaw K) := by
  have T := txK X G c
  have e := hfa.symm.trans T.g_law
  cases e
  refine ⟨fun s u => ?_, fun base _ _ => ok_law T (medC X G c)⟩
  obtain ⟨oc, od, kV, doc, pm, an, cdv, ct, osl, ef, _⟩ := T.F_law.ex
  rw [ef]
  exact .of_eq rfl
end K20
open PySem PySem.W PySem.Calls PyProof.Rows
theorem PySem.Challenge.cw_barredrows_k20_rows_counted_holds : PySem.Challenge.rw_barredrows_k20_rows_counted.Holds := by
  w_on; o_law
  refine HandSHeadRun.head_any (r := OpenLaw.row PySem.Challenge.rw_barredrows_k20_rows_counted) (q := K20.qv) (H := K20.hookK) (ob := K20.ob) (M := 13000) (loose := K20.names) (d := HandSHeadRun.topDef (OpenLaw.row PySem.Challenge.rw_barredrows_k20_rows_counted).prog 69) (kwd := []) K20.ob_eq
    (by kernel_rfl) (fun s => by kernel_rfl) K20.runK (by kernel_rfl) (by kernel_rfl) (by kernel_rfl) (by rfl) (by first | assumption | decide +kernel) (by decide +kernel) ⟨rfl, rfl, rfl, rfl, rfl, by decide +kernel⟩ ?hw ?hc
  case hw => w_witness2
  case hc =>
    refine K20.walkE (l := PySem.Challenge.rw_barredrows_k20_rows_counted) (n := 63) (k := 8) (x := "_law_script") rfl (by decide) (by kernel_rfl) ⟨rfl, by decide, by decide⟩ ?F
    intro w mg fa h Y G hmg0
    obtain ⟨K, KX, c⟩ := Y
    have hmg : mg ("law" : PySem.Str) = some (.ref fa) := by
      have e : (HandSHeadRun.topDef (OpenLaw.row PySem.Challenge.rw_barredrows_k20_rows_counted).prog 69).name = ("law" : PySem.Str) := by kernel_rfl
      rw [← e]
      exact hmg0
    obtain ⟨hb, hF⟩ := K20.lawF (P := (PySem.Challenge.rw_barredrows_k20_rows_counted).prog) (w := w) KX G hmg c
    exact ⟨K, _, K20.spLaw K, KX, hb, fun H a ns hl _ hS => ⟨a, ns, rfl, hS, fun _ => rfl⟩, hF⟩
end
